import PyProof.Rows.All
import Wide.All
import OpenK.AllK
import Wide.FinOn
import HandS.ForMost
import HandS.ForExc
import HandS.Defaults
import HandS.IsInst
import HandS.ExcInit
import HandS.OwnEq
import PySem.Challenge.RW_whatopened_k05_facts_held
import HandS.ExcValue
import HandS.ExcField
import HandS.MakeKw
import KE.KExcIs
import HandS.LawCells
import HandS.OwnIter
import PyProof.InstEq
import HandS.IterVal
import HandS.Walk
import KE.GoesMore
import KE.GoesEnum
import PyProof.Draws
import HandS.Star
import HandS.TupAny
import HandS.WordsExc
import HandS.CallSlots
import HandS.Style
import HandS.Codes
import HandS.NoneIn
import HandS.Deep
import HandS.Lambda
import HandS.TryMany
import KE.KOpsOwn
import KE.KUnpackStar
import HandS.DictComp
import HandS.WordsDict
import HandS.More
import HandS.Small
import HandS.ExcOwn
import HandS.Conv
import HandS.HeadHook3
import HandS.HeadHook4
import HandS.HeadWalk
import KE.KStateDown
import Lean
import HandS.Head0
import HandS.Head1
import HandS.Head2
import HandS.HeadEnd
import HandS.HeadHook1
import HandS.HeadHook2
import PyProof.ExcBaseAll.ValueError
set_option Elab.async false
set_option linter.all false
set_option maxRecDepth 100000
set_option maxHeartbeats 0
namespace My
open PySem PySem.Spec PyProof.Rows L2
def top (i : Nat) : Stmt := PySem.Challenge.pw_whatopened_k05_facts_held.main.body.getD i (.Pass ⟨0, 0, 0, 0⟩)
abbrev FnP (K : PySem.W.Frag) (x : Str) (st : Stmt) (f : Addr) (fd : FuncData) : Prop := FunD K x x (defArgs st) (defBody st) (defScope st) [] [] f fd
def inCls (s : Stmt) (i : Nat) : Stmt := match s with
  | .ClassDef (body := b) .. => b.getD i (.Pass ⟨0, 0, 0, 0⟩)
  | _ => .Pass ⟨0, 0, 0, 0⟩
abbrev s__wall : Stmt := top 0
abbrev s_BadHouse_init : Stmt := inCls (top 3) 0
abbrev s_NoNode_init : Stmt := inCls (top 4) 0
abbrev s_NoFolder_init : Stmt := inCls (top 5) 0
abbrev s_Ringed_init : Stmt := inCls (top 6) 0
abbrev s_BadFact_init : Stmt := inCls (top 7) 0
abbrev s_is_list : Stmt := top 12
abbrev sIsList : Stmt := top 12
abbrev s_is_name : Stmt := top 13
abbrev sIsName : Stmt := top 13
abbrev s_is_fact : Stmt := top 16
abbrev s_wrong_fact : Stmt := top 17
abbrev s_as_told : Stmt := top 18
abbrev s_each_once : Stmt := top 19
abbrev s_Facts_init : Stmt := inCls (top 20) 0
abbrev s_Facts_told : Stmt := inCls (top 20) 1
abbrev s_Facts_without : Stmt := inCls (top 20) 2
abbrev s_Facts_add : Stmt := inCls (top 20) 3
abbrev s_Facts_len : Stmt := inCls (top 20) 4
abbrev s_Facts_contains : Stmt := inCls (top 20) 5
abbrev s_Facts_iter : Stmt := inCls (top 20) 6
abbrev s_Facts_eq : Stmt := inCls (top 20) 7
abbrev s_wrong_name : Stmt := top 22
abbrev sWrongName : Stmt := top 22
abbrev s_wrong_part : Stmt := top 23
abbrev sWrongPart : Stmt := top 23
abbrev s_House_init : Stmt := inCls (top 24) 0
abbrev sHInit : Stmt := inCls (top 24) 0
abbrev s_House_len : Stmt := inCls (top 24) 1
abbrev sHLen : Stmt := inCls (top 24) 1
abbrev s_House_contains : Stmt := inCls (top 24) 2
abbrev sHHas : Stmt := inCls (top 24) 2
abbrev s_House_iter : Stmt := inCls (top 24) 3
abbrev sHIter : Stmt := inCls (top 24) 3
abbrev s_House_eq : Stmt := inCls (top 24) 4
abbrev sHEq : Stmt := inCls (top 24) 4
abbrev s_must_be_node : Stmt := top 25
abbrev s_must_be_folder : Stmt := top 26
abbrev s_ring : Stmt := top 28
abbrev s_Tree_init : Stmt := inCls (top 29) 0
abbrev s_Tree_over : Stmt := inCls (top 29) 1
abbrev s_Tree_above : Stmt := inCls (top 29) 2
abbrev s_Tree_below : Stmt := inCls (top 29) 3
abbrev s_Tree_lies : Stmt := inCls (top 29) 4
abbrev s_Tree_moved : Stmt := inCls (top 29) 5
abbrev s_Tree_holds : Stmt := inCls (top 29) 6
abbrev s_Tree_keeps : Stmt := inCls (top 29) 7
abbrev s_Tree_eq : Stmt := inCls (top 29) 8
abbrev s__law_cell : Stmt := top 31
abbrev sCell : Stmt := top 31
abbrev s__law_pool : Stmt := top 32
abbrev sPool : Stmt := top 32
abbrev s__law_take : Stmt := top 33
abbrev sTake : Stmt := top 33
abbrev s__law_names : Stmt := top 34
abbrev sNames : Stmt := top 34
abbrev s__law_house : Stmt := top 35
abbrev sHouse : Stmt := top 35
abbrev s__law_goes_round : Stmt := top 36
abbrev s__law_tree : Stmt := top 37
abbrev s__law_above : Stmt := top 38
abbrev s__law_holds : Stmt := top 39
abbrev s__law_fact : Stmt := top 40
abbrev s__law_true : Stmt := top 41
abbrev s__law_told : Stmt := top 42
abbrev s__law_keep : Stmt := top 43
abbrev s__law_every : Stmt := top 44
abbrev s__law_refused : Stmt := top 45
abbrev s__law_others_refused : Stmt := top 46
abbrev s_law : Stmt := top 47
end My

namespace My
open PySem PySem.Spec PyProof.Rows L2
/-! ### the pool -/
/-- a pool stands at p, at most n draws of its second kind were made -/
def Pool (H : Hp) (p : Addr) (n : Int) : Prop := ∃ g m c : Int, H p = some (.lst [.int g, .int m, .int c]) ∧ 0 ≤ g ∧ 0 ≤ m ∧ m < 1000000007 ∧ 0 ≤ c ∧ c ≤ n
def spCell1 (K : PySem.W.Frag) : Sp := fun vs H Q _ => ∃ (l : Addr) (ns : List Int) (j : Nat), vs = [.ref l, .int (j : Int)] ∧ SqL K H l (ns.map V.int) ∧ ∀ i : Int, Q (.int i) H
def spPool : Sp := fun vs H Q _ => ∃ g : Int, vs = [.int g] ∧ ∀ p H', H p = none → (∃ a b : Int, 0 ≤ a ∧ 0 ≤ b ∧ b < 1000000007 ∧ H' = upd H p (.lst [.int a, .int b, .int 0])) → Q (.ref p) H'
def spTake : Sp := fun vs H Q _ => ∃ (p : Addr) (many n : Int), vs = [.ref p, .int many] ∧ 0 < many ∧ many < 1073741824 ∧ Pool H p n ∧ n < 1099511627776 ∧
  ∀ (r : Int) (o : HO), 0 ≤ r → r < many → Pool (upd H p o) p (n + 1) → Q (.int r) (upd H p o)
theorem scCell : FnScope ["_law_script", "_law_k"] ["_law_script", "_law_k"] (defScope sCell) := ⟨rfl, rfl, rfl, by decide +kernel, rfl, by decide +kernel, by decide +kernel⟩
theorem scPool : FnScope ["_law_grain", "_law_folded"] ["_law_grain"] (defScope sPool) := ⟨rfl, rfl, rfl, by decide +kernel, rfl, by decide +kernel, by decide +kernel⟩
theorem scTake : FnScope ["_law_pool_here", "_law_many", "_law_draw", "_law_mixed"] ["_law_pool_here", "_law_many"] (defScope sTake) := ⟨rfl, rfl, rfl, by decide +kernel, rfl, by decide +kernel, by decide +kernel⟩
section
variable {P : Program} {w : World} {K : PySem.W.Frag} {mg : Str → Option Value} {base : Heap} {f : Addr} {fd : FuncData}
theorem ok_cell (F : FnP K "_law_cell" sCell f fd) (gL : mg "len" = none) : FnOk P w K mg base CX0 1 f fd ["_law_script", "_law_k"] (spCell1 K) := by
  refine F.ok scCell (fun vs H Q E h => ?_) (fun cdv A outer s H vs Q E hr h => ⟨_, PSs.nox (pss_cons (ps_if (pt_cmpR op_lt (pv 1) (pe_callB call_len (by rfl) gL boot_len (pa_cons (pv 0) pa_nil)) (nomark _)) (pss_one (ps_ret (pe_ix ix_list (pv 0) (pv 1) (fun _ _ => rfl)))) pss_nil) (pss_one (ps_ret pe_int))), ?_⟩)
  · obtain ⟨l, ns, j, rfl, _⟩ := h
    rfl
  · obtain ⟨l, ns, j, rfl, hS, q⟩ := h
    refine ⟨_, rfl, _, rfl, _, _, rfl, .inl ⟨_, hS, rfl⟩, _, _, rfl, rfl, _, rfl, ?_⟩
    refine ite2 (fun hj => ?_) (fun _ => ?_)
    · have hj' : j < ns.length := by
        have z := of_decide_eq_true hj
        rw [List.length_map] at z
        omega
      refine ⟨_, rfl, _, rfl, l, _, _, _, rfl, rfl, hS, atI_nat (by rw [List.getElem?_map, List.getElem?_eq_getElem hj'] <;> rfl), q _⟩
    · exact q 0
theorem ok_pool (F : FnP K "_law_pool" sPool f fd) (gI : mg "int" = none) : FnOk P w K mg base CX0 1 f fd ["_law_grain"] spPool := by
  refine F.ok scPool (fun vs H Q E h => ?_) (fun cdv A outer s H vs Q E hr h => ⟨_, PSs.nox (
    pss_cons (ps_set (i := 1) scPool.nd rfl (.inl rfl) (pe_op op_mul pe_int (pv 0)))
    (pss_cons (ps_if (pt_cmpR op_lt (pv 0) pe_int (nomark _)) (pss_one (ps_set (i := 1) scPool.nd rfl (.inl rfl) (pe_op op_sub (pe_op op_sub pe_int (pe_op op_mul pe_int (pv 0))) pe_int))) pss_nil)
    (pss_cons (ps_if (pt_cmpR op_ge (pv 1) (pe_op op_pow pe_int pe_int) (nomark _)) (pss_one (ps_ret (pe_lst (pa_cons (pv 1) (pa_cons (pe_op op_mod (pe_callTy call_int1 (by rfl) gI (by decide +kernel) (pa_cons (pv 1) pa_nil)) pe_int) (pa_cons pe_int pa_nil)))))) pss_nil)
    (pss_one (ps_ret (pe_lst (pa_cons pe_int (pa_cons (pe_op op_mod (pe_callTy call_int1 (by rfl) gI (by decide +kernel) (pa_cons (pv 1) pa_nil)) pe_int) (pa_cons pe_int pa_nil))))))))), ?_⟩)
  · obtain ⟨g, rfl, _⟩ := h
    rfl
  · obtain ⟨g, rfl, q⟩ := h
    refine ⟨_, rfl, _, _, rfl, rfl, .inl ⟨by decide, by decide⟩, _, rfl, _, _, rfl, rfl, _, rfl, ?_⟩
    have m1 : ∀ z : Int, 0 ≤ z % 1000000007 := fun z => Int.emod_nonneg z (by decide)
    have m2 : ∀ z : Int, z % 1000000007 < 1000000007 := fun z => Int.emod_lt_of_pos z (by decide)
    have lst3 : ∀ a b c : V, ([a, b, c] : List V).length ≤ sizeLine := fun a b c => by show 3 ≤ sizeLine; decide
    refine ite2 (fun hn => ?_) (fun hn => ?_)
    · have hn' := of_decide_eq_true hn
      refine ⟨_, rfl, _, _, rfl, rfl, .inl ⟨by decide, by decide⟩, _, _, rfl, rfl, _, _, rfl, rfl, ?_⟩
      refine ⟨_, rfl, _, _, rfl, rfl, ⟨by decide, by decide, by decide⟩, _, _, rfl, rfl, _, rfl, ?_⟩
      refine ite2 (fun _ => ?_) (fun _ => ?_)
      · refine ⟨_, rfl, _, rfl, .inl ⟨_, rfl, _, _, rfl, rfl, (show (0 : Int) < 1000000007 by decide), lst3 _ _ _, fun p hp => q p _ hp ⟨_, _, ?_, m1 _, m2 _, rfl⟩⟩⟩
        omega
      · refine ⟨_, rfl, .inl ⟨_, rfl, _, _, rfl, rfl, (show (0 : Int) < 1000000007 by decide), lst3 _ _ _, fun p hp => q p _ hp ⟨_, _, by decide, m1 _, m2 _, rfl⟩⟩⟩
    · have hn' : ¬ g < 0 := fun z => hn (decide_eq_true z)
      refine ⟨_, rfl, _, _, rfl, rfl, ⟨by decide, by decide, by decide⟩, _, _, rfl, rfl, _, rfl, ?_⟩
      refine ite2 (fun _ => ?_) (fun _ => ?_)
      · refine ⟨_, rfl, _, rfl, .inl ⟨_, rfl, _, _, rfl, rfl, (show (0 : Int) < 1000000007 by decide), lst3 _ _ _, fun p hp => q p _ hp ⟨_, _, ?_, m1 _, m2 _, rfl⟩⟩⟩
        omega
      · refine ⟨_, rfl, .inl ⟨_, rfl, _, _, rfl, rfl, (show (0 : Int) < 1000000007 by decide), lst3 _ _ _, fun p hp => q p _ hp ⟨_, _, by decide, m1 _, m2 _, rfl⟩⟩⟩
theorem ok_take (F : FnP K "_law_take" sTake f fd) (gI : mg "int" = none) : FnOk P w K mg base CX0 1 f fd ["_law_pool_here", "_law_many"] spTake := by
  refine F.ok scTake (fun vs H Q E h => ?_) (fun cdv A outer s H vs Q E hr h => ⟨_, PSs.nox (
    pss_cons (ps_if (pt_cmpR op_gt (pe_ix ix_list (pv 0) pe_int (fun _ _ => rfl)) pe_int (nomark _))
      (pss_cons (ps_set (i := 2) scTake.nd rfl (.inl rfl) (pe_op op_mod (pe_callTy call_int1 (by rfl) gI (by decide +kernel) (pa_cons (pe_ix ix_list (pv 0) pe_int (fun _ _ => rfl)) pa_nil)) (pv 1)))
      (pss_cons (ps_asg (pe_op op_fdiv (pe_ix ix_list (pv 0) pe_int (fun _ _ => rfl)) (pv 1)) (pg_sub (pv 0) pe_int set_list))
      (pss_one (ps_ret (pv 2))))) pss_nil)
    (pss_cons (ps_asg (pe_op op_add (pe_ix ix_list (pv 0) pe_int (fun _ _ => rfl)) pe_int) (pg_sub (pv 0) pe_int set_list))
    (pss_cons (ps_set (i := 3) scTake.nd rfl (.inl rfl) (pe_op op_mod (pe_callTy call_int1 (by rfl) gI (by decide +kernel) (pa_cons (pe_op op_pow (pe_op op_add (pe_op op_add (pe_ix ix_list (pv 0) pe_int (fun _ _ => rfl)) (pe_op op_mul pe_int (pe_ix ix_list (pv 0) pe_int (fun _ _ => rfl)))) pe_int) pe_int) pa_nil)) pe_int))
    (pss_one (ps_ret (pe_op op_mod (pe_op op_mod (pe_callTy call_int1 (by rfl) gI (by decide +kernel) (pa_cons (pe_op op_mul (pe_op op_add (pv 3) (pe_ix ix_list (pv 0) pe_int (fun _ _ => rfl))) pe_int) pa_nil)) pe_int) (pv 1))))))), ?_⟩)
  · obtain ⟨p, many, n, rfl, _⟩ := h
    rfl
  · obtain ⟨p, many, n, rfl, hm0, hm1, ⟨g, m, c, hp, hg, hm, hm', hc, hcn⟩, hn, q⟩ := h
    have SL : ∀ {H : Hp} {xs : List V}, H p = some (.lst xs) → SqL K H p xs := fun h => SqL.of h
    refine ⟨_, rfl, p, _, 0, .int g, rfl, rfl, SL hp, rfl, _, _, rfl, rfl, _, rfl, ?_⟩
    refine ite2 (fun hg0 => ?_) (fun _ => ?_)
    · refine ⟨_, rfl, p, _, 0, .int g, rfl, rfl, SL hp, rfl, .inl ⟨_, rfl, _, rfl, _, _, rfl, rfl, hm0, ?_⟩⟩
      refine ⟨_, rfl, p, _, 0, .int g, rfl, rfl, SL hp, rfl, _, rfl, _, _, rfl, rfl, ⟨hm0, hm1⟩, _, rfl, p, _, 0, 0, rfl, rfl, hp, rfl, ?_⟩
      refine ⟨_, rfl, q _ _ (Int.emod_nonneg _ (by omega)) (Int.emod_lt_of_pos _ hm0) ⟨g / many, m, c, upd_same, Int.ediv_nonneg hg (by omega), hm, hm', hc, by omega⟩⟩
    · refine ⟨_, rfl, p, _, 2, .int c, rfl, rfl, SL hp, rfl, _, _, rfl, rfl, _, rfl, p, _, 2, 2, rfl, rfl, hp, rfl, ?_⟩
      have h2 : upd H p (.lst (List.set [V.int g, V.int m, V.int c] 2 (V.int (c + 1)))) p = some (.lst [.int g, .int m, .int (c + 1)]) := upd_same
      refine ⟨_, rfl, p, _, 1, .int m, rfl, rfl, SL h2, rfl, _, rfl, p, _, 2, .int (c + 1), rfl, rfl, SL h2, rfl, _, _, rfl, rfl, .inl ⟨by decide, by decide⟩, _, _, rfl, rfl, _, _, rfl, rfl, _, _, rfl, rfl, ⟨by decide, by decide, ?_⟩, .inl ⟨_, rfl, _, _, rfl, rfl, (show (0 : Int) < 2147483647 by decide), ?_⟩⟩
      · omega
      refine ⟨_, rfl, _, rfl, p, _, 2, .int (c + 1), rfl, rfl, SL h2, rfl, _, _, rfl, rfl, _, _, rfl, rfl, .inr ⟨by decide, by decide⟩, .inl ⟨_, rfl, _, _, rfl, rfl, (show (0 : Int) < 2147483629 by decide), _, rfl, _, _, rfl, rfl, hm0, ?_⟩⟩
      exact q _ _ (Int.emod_nonneg _ (by omega)) (Int.emod_lt_of_pos _ hm0) ⟨g, m, c + 1, upd_same, hg, hm, hm', by omega, by omega⟩
end
end My

namespace PySem
namespace MyX
open PySem.HandSPX Builtin Builtin.ObjectAttr
section
variable {M : Model} {A : Around} {E : Value → Shared → Prop} {h : Heap} {g : Array GenState} {d : Drawn} {t : Nat} {os : OsState}
variable {nm q : Str} {C N : Addr} {bs bm mb : List Value} {hdct : Bool} {sn : List Str} {sub : List Value} {ab : Bool} {col : Option Bool} {dd : Option Addr} {k0 k1 k2 k3 k5 : Option Value} {B idN idI : String}
theorem chk_new (F : ExcBaseFacts B idN idI mb) (hT : ∀ X : String, bm.contains (.type X) = mb.contains (.type X)) {rs : List Value} {kw : List (Str × Value)} {Q : Unit → Shared → Prop}
    (hC : h.get? C = some (excClassObj nm q C N bs bm hdct sn sub ab col dd k0 k1 k2 k3 k5 idN)) (hq : Q () ⟨h, g, d, t, os⟩) :
    wpAny M A (checkBuiltinCall idN ⟨.ref C :: rs, kw⟩) Q E ⟨h, g, d, t, os⟩ := by
  have c1 : (Value.ref C :: bm).contains (.type B) = true := by
    rw [List.contains_cons, hT, F.hasB, Bool.or_true]
  have c2 := F.noStar
  simp only [checkBuiltinCall, F.newKind, F.newSplit, F.newRow]
  repeat (first | refine wpAny_loadPart_at hC ?_ | (refine wpAny_isSubtype_exc hC ?_; rw [c1]) | refine wpAny_staticBase_exc hC ?_ | refine wpAny_madeBy_exc hC ?_ | simp only [bne_self_eq_false, Bool.false_eq_true, if_false] | wp_step)
  exact hq
end
section
variable {prog : Program} {w : World} {A : Around} {E : Value → Shared → Prop} {R : Result → Shared → Prop} {h : Heap} {g : Array GenState} {d : Drawn} {t : Nat} {os : OsState}
variable {nm q : Str} {C N : Addr} {bs bm mb : List Value} {hdct : Bool} {sn : List Str} {sub : List Value} {ab : Bool} {col : Option Bool} {dd : Option Addr} {k0 k1 k2 k3 k5 : Option Value} {B idN idI : String}
theorem new_kw (F : ExcBaseFacts B idN idI mb) (hT : ∀ X : String, bm.contains (.type X) = mb.contains (.type X)) {rs : List Value} {kw : List (Str × Value)}
    (hC : h.get? C = some (excClassObj nm q C N bs bm hdct sn sub ab col dd k0 k1 k2 k3 k5 idN))
    (hq : R (.ok (.ret (.ref (h.objs.size + 1)))) ⟨(h.push (W.kdv_tup rs)).push (excO C h.objs.size), g, d, t, os⟩) (hrs : rs.length ≤ sizeLine) :
    codeAny (model prog w) A (.builtin idN ⟨.ref C :: rs, kw⟩) R ⟨h, g, d, t, os⟩ := by
  have c0 := F.ends
  have c1 : (Value.ref C :: bm).contains (.type B) = true := by
    rw [List.contains_cons, hT, F.hasB, Bool.or_true]
  have c2 : (Value.ref C :: bm).contains (.type "AttributeError") = false := by
    rw [List.contains_cons, hT, F.noAttr]; rfl
  have c3 : (Value.ref C :: bm).contains (.type "NameError") = false := by
    rw [List.contains_cons, hT, F.noName]; rfl
  refine codeAny_builtinAt F.entry ?_
  unfold Builtin.«BaseException.__new__»
  refine wpAt_bind ?_
  show wpAt _ _ _ (stack >>= _) _ _ _
  refine wpAt_bind (wpAt_stack fun p below => wpAt_of_wpAny ?_)
  wp_walk
  refine wpAt_of_wpAny ?_
  rw [F.owner]
  repeat (first | with_reducible refine wpAny_madeHere_exc F.canon hC ?_ | with_reducible refine wpAny_loadPart_at hC ?_ | (with_reducible refine wpAny_isSubtype_exc hC ?_; first | rw [c1] | rw [c2] | rw [c3]) | wp_step)
  show R _ _
  rw [Heap.size_push]
  exact hq
theorem tcall_kw (F : ExcBaseFacts B idN idI mb) (hT : ∀ X : String, bm.contains (.type X) = mb.contains (.type X)) {rs : List Value} {kw : List (Str × Value)} {fI : Addr} {Q : Fin → Shared → Prop}
    (hC : h.get? C = some (excClassObj nm q C N bs bm hdct sn sub ab col dd k0 k1 k2 k3 k5 idN))
    (hi : W.Looks (model prog w) h (typeLookup (.ref C) "__init__") (some (.ref fI))) (hb : ∀ self, W.Looks (model prog w) h (bindSpecial (.ref fI) self) (.ref fI, [self])) (hrs : rs.length ≤ sizeLine)
    (hq : codeAny (model prog w) A (.call (.ref fI) ⟨.ref (h.objs.size + 1) :: rs, kw⟩)
      (fun r s' => match r with | .ok (.ret v) => v = .none ∧ Q (.done (.ret (.ref (h.objs.size + 1)))) s' | .ok _ => False | .error e => E e s')
      ⟨(h.push (W.kdv_tup rs)).push (excO C h.objs.size), g, d, t, os⟩) :
    wpAny (model prog w) A (Builtin.«type.__call__» ⟨.ref C :: rs, kw⟩) Q E ⟨h, g, d, t, os⟩ := by
  repeat (first | with_reducible refine wpAny_loadPart_at hC ?_ | with_reducible refine wpAny_madeBy_exc hC ?_ | wp_step)
  refine codeAny_call_builtin_code (Code.quiet_builtin _ F.quiet) (chk_new F hT hC ?_)
  refine new_kw F hT hC ?_ hrs
  show wpAny _ _ _ _ _ _
  have k : ∀ b o, h.get? b = some o → ((h.push (W.kdv_tup rs)).push (excO C h.objs.size)).get? b = some o := fun b o e => Heap.get?_push_of_some _ (Heap.get?_push_of_some _ e)
  have hC1 := k _ _ hC
  have hget : ((h.push (W.kdv_tup rs)).push (excO C h.objs.size)).get? (h.objs.size + 1) = some (excO C h.objs.size) := by heap_get
  have hcC : (Value.ref C :: bm).contains (.ref C) = true := by simp
  have i1 := hi.keeps k
  have b1 := (hb (.ref (h.objs.size + 1))).keeps k
  unfold isInstance
  repeat (first | with_reducible refine wpAny_loadPart_at hget ?_ | (with_reducible refine wpAny_isSubtype_exc hC1 ?_; rw [hcC]) | wp_step)
  show wpAny _ _ (typeLookup (.ref C) _) _ _ _
  refine i1.at ?_
  refine wpAny_holding (wpAny_bind (b1.at ?_))
  refine wpAny_bind (wpAny_call (codeAny_mono hq fun r s' z => ?_))
  rcases r with e | (v | _ | _ | _) <;> first | exact z | exact z.elim | skip
  obtain ⟨rfl, z⟩ := z
  first
    | exact wpAny_pure (wpAny_pure z)
    | (wp_walk; exact z)
theorem call_kw (F : ExcBaseFacts B idN idI mb) (hT : ∀ X : String, bm.contains (.type X) = mb.contains (.type X)) {rs : List Value} {kw : List (Str × Value)} {fI : Addr}
    (hC : h.get? C = some (excClassObj nm q C N bs bm hdct sn sub ab col dd k0 k1 k2 k3 k5 idN))
    (hi : W.Looks (model prog w) h (typeLookup (.ref C) "__init__") (some (.ref fI))) (hb : ∀ self, W.Looks (model prog w) h (bindSpecial (.ref fI) self) (.ref fI, [self])) (hrs : rs.length ≤ sizeLine)
    (hq : codeAny (model prog w) (A.under (.builtin "type.__call__" ⟨.ref C :: rs, kw⟩)) (.call (.ref fI) ⟨.ref (h.objs.size + 1) :: rs, kw⟩) (W.InitBack (h.objs.size + 1) R)
      ⟨(h.push (W.kdv_tup rs)).push (excO C h.objs.size), g, d, t, os⟩) :
    codeAny (model prog w) A (.call (.ref C) ⟨rs, kw⟩) R ⟨h, g, d, t, os⟩ := by
  have f1 := tc_lookup
  have f2 := tc_bind (.ref C)
  have hTy : (⟨h, g, d, t, os⟩ : Shared).TypeIs (.ref C) "type" := ⟨_, hC, rfl⟩
  refine codeAny_of_tree ?_
  show wpAny _ _ (callAny (.ref C) _) _ _ _
  repeat (any_goals (first | assumption | with_reducible refine wpAny_loadPart_at hC ?_ | wp_step))
  refine ⟨rfl, ?_⟩
  refine codeAny_call_builtin_at (Code.quiet_builtin _ (by decide +kernel)) entry_typeCall (wpAny_check_type_call_sub hC (tcall_kw F hT hC hi hb hrs ?_))
  refine codeAny_mono hq fun r s' z => ?_
  rcases r with e | (v | _ | _ | _) <;> exact z
end
end MyX
end PySem

namespace My
open PySem PySem.Spec PyProof.Rows L2
/-! ### own exceptions as values -/
/-- what isinstance asks of the class of an exception -/
structure KitC (K : PySem.W.Frag) (C : Addr) : Prop where
  cl : (PySem.W.clsIn K C).isSome = true
  at_ : PySem.W.findIn K (.ref C) "__class__" = some (some (.builtin "object.__class__"))
  sp : PySem.W.specialIn K (.builtin "object.__class__") "__get__" = some (some (.builtin "getset_descriptor.__get__"))
  tk : PySem.W.takesIn K (.builtin "object.__class__") = some true
  ob : PySem.W.mroIn K C (.type "object") = some true
/-- an exception of the class at C stands at a: its one field f holds v -/
def ErrAt (H : Hp) (a C : Addr) (f : Str) (v : V) : Prop := ∃ d, H a = some (exo a C (some d)) ∧ H d = some (exd d [(f, v)])
theorem ErrAt.ext {H H' : Hp} {a C : Addr} {f : Str} {v : V} (e : ErrAt H a C f v) (x : Ext H H') : ErrAt H' a C f v := by
  obtain ⟨d, h1, h2⟩ := e
  exact ⟨d, x _ _ h1, x _ _ h2⟩
section
variable {X : Cx} {CX : CXT} {k : Nat} {C fI : Addr} {fd : FuncData} {ps : List Str} {sp : Sp}
theorem run_err {pins : List (Addr × Obj)} {σ : L2.St} {H : Hp} {s : Shared} {Q : VK} {us uz : List Value} {kw : List (Str × Value)} {vs : List V} (T : OexC X.K C) (iC : PySem.W.findIn X.K (.ref C) "__init__" = some (some (.ref fI)))
    (tI : PySem.W.typeIn X.K (.ref fI) = some (.type "function")) (Fn : FnOk X.prog X.w X.K X.mg X.base CX k fI fd ps sp) (hr : Room (k + 1) X.A) (hx : Passes CX X E0)
    (hb : ∀ (s : Shared) (a : Addr), X.K.In s.heap → BindsTo s fd ⟨.ref a :: us, kw⟩ (ps.zip (.ref a :: uz))) (hl : us.length ≤ 1000) (I : Inv X pins σ H s) (r : Vals vs uz)
    (h : ∀ a, H a = none → sp (.ref a :: vs) (upd H a (exo a C none)) (fun v H2 => v = .non ∧ Q (.ref a) H2) E0) :
    wpAny (model X.prog X.w) X.A (call (.ref C) us kw) (EP X pins σ Q) X.xe s := by
  obtain ⟨nm, q, N, bs, bm, sn, sub, ab, col, dd, k0, k1, k2, k3, k5, hC, hbm⟩ := T.cls
  obtain ⟨hp, g, dr, tk, os⟩ := s
  have hz : hp.objs.size ≤ hp.objs.size + 1 := Nat.le_succ _
  have hn : H (hp.objs.size + 1) = none := I.hok.fresh hz
  have hq := h (hp.objs.size + 1) hn
  have kk : ∀ b o, hp.get? b = some o → ((hp.push (PySem.W.kdv_tup us)).push (PySem.HandSPX.excO C hp.objs.size)).get? b = some o := fun b o e =>
    Heap.get?_push_of_some _ (Heap.get?_push_of_some _ e)
  have hg : ((hp.push (PySem.W.kdv_tup us)).push (PySem.HandSPX.excO C hp.objs.size)).get? (hp.objs.size + 1) = some (PySem.HandSPX.excO C hp.objs.size) := by
    heap_get
  have I2 : Inv X pins σ (upd H (hp.objs.size + 1) (exo (hp.objs.size + 1) C none)) ⟨(hp.push (PySem.W.kdv_tup us)).push (PySem.HandSPX.excO C hp.objs.size), g, dr, tk, os⟩ :=
    I.laid (t' := tk) (a := hp.objs.size + 1) (o := exo (hp.objs.size + 1) C none) (h' := (hp.push (PySem.W.kdv_tup us)).push (PySem.HandSPX.excO C hp.objs.size)) kk hz (exo_ok hg)
  have r2 : Vals (V.ref (hp.objs.size + 1) :: vs) (Value.ref (hp.objs.size + 1) :: uz) := .cons rfl r
  have hus : us.length ≤ sizeLine := by
    rw [sizeLine_eq]
    omega
  refine wpAny_call (PySem.MyX.call_kw PySem.F.excBase_ValueError (fun Y => PySem.HandSPX.refsVE_contains Y bm hbm) (I.kIn _ _ hC) (PySem.W.looks_findIn I.kIn iC) (fun self => PySem.W.bind_fn I.kIn self tI) hus
    (codeAny_mono (Fn.run _ X.stack _ _ ⟨Value.ref (hp.objs.size + 1) :: us, kw⟩ (Value.ref (hp.objs.size + 1) :: uz) _ _ E0 (hr.make C us kw) (I2.env0.make C us kw) (hb _ _ I2.kIn) r2 hq) fun r s' hq' => ?_))
  cases r with
  | error er => exact hx pins σ _ _ er s' I2 hq'
  | ok fl =>
    cases fl with
    | ret u =>
      obtain ⟨v, H', I3, rv, ev, q3⟩ := I2.after hq'
      subst ev
      exact ⟨rv, ⟨V.ref (hp.objs.size + 1), H', I3, rfl, q3⟩⟩
    | next => exact False.elim hq'
    | brk => exact False.elim hq'
    | cont => exact False.elim hq'
/-- C(e, ..) as a value -/
def tErr (C : Addr) (sp : Sp) (ta : TA) : TE := fun σ H Q => ta σ H fun vs H1 => vs.length ≤ 1000 ∧ ∀ a, H1 a = none → sp (.ref a :: vs) (upd H1 a (exo a C none)) (fun v H2 => v = .non ∧ Q (.ref a) H2) E0
theorem pe_err {x : Str} {e : Expr} {es : List Expr} {ta : TA} {p pos : Pos} (T : OexC X.K C) (iC : PySem.W.findIn X.K (.ref C) "__init__" = some (some (.ref fI)))
    (tI : PySem.W.typeIn X.K (.ref fI) = some (.type "function")) (Fn : FnOk X.prog X.w X.K X.mg X.base CX k fI fd ps sp) (hr : Room (k + 1) X.A) (hx : Passes CX X E0) (hb : Binds X.K fd ps [])
    (hg : Gl X x) (hm : X.mg x = some (.ref C)) (ha : PA X (e :: es) ta)
    (hdb : (x == ("__debug__" : Str)) = false := by decide) (he : starEach (e :: es) X.env = (false, eval e X.env) :: starEach es X.env := by rfl) (hpl : (backTo pos (starEach es X.env)).any (·.1) = false := by rfl) :
    PE X (.Call (.Name x p) (e :: es) [] pos) (tErr C sp ta) := by
  refine ⟨fun pins s σ H Q I h => ?_⟩
  refine wpAny_Call_Name_kw (ld_glob I hg hm ?_ hdb)
  refine PySem.W.callWith_K (h₀ := X.base) I.ok.mod.kin T.kC (thn (ha.run pos pins s σ H _ I h) fun us s1 ⟨vs, H1, I1, r1, hz, q1⟩ => ⟨I1.kIn, ?_⟩) he hpl
  have l0 : us.length ≤ 1000 := by
    rw [← Paired.length r1]
    exact hz
  have l1 : vs.length + 1 = ps.length := Fn.len _ _ _ _ (q1 (s1.heap.objs.size + 1) (I1.hok.fresh (Nat.le_succ _)))
  refine run_err T iC tI Fn hr hx (fun s a KX => ?_) l0 I1 r1 q1
  have z := hb s (Value.ref a :: us) KX (by rw [List.append_nil, List.length_cons, ← Paired.length r1]; exact l1)
  rw [List.append_nil] at z
  exact z
/-- C(f = e) as a value -/
theorem pe_errK {x kn : Str} {kws : List Keyword} {tk : TA} {p pos : Pos} (T : OexC X.K C) (iC : PySem.W.findIn X.K (.ref C) "__init__" = some (some (.ref fI)))
    (tI : PySem.W.typeIn X.K (.ref fI) = some (.type "function")) (Fn : FnOk X.prog X.w X.K X.mg X.base CX k fI fd ps sp) (hr : Room (k + 1) X.A) (hx : Passes CX X E0)
    (hb : ∀ (s : Shared) (u v : Value), X.K.In s.heap → BindsTo s fd ⟨[u], [(kn, v)]⟩ (ps.zip [u, v])) (hg : Gl X x) (hm : X.mg x = some (.ref C)) (hkw : PK X kws tk)
    (hall : (backToKw pos (keywordEach kws X.env)).all (·.1.isSome) = true := by rfl) (hks : (backToKw pos (keywordEach kws X.env)).filterMap (·.1) = [kn] := by rfl) (hdb : (x == ("__debug__" : Str)) = false := by decide)
    (hpl : ((backTo pos (starEach [] X.env)).any (·.1) || (backToKw pos (keywordEach kws X.env)).any (·.1.isNone)) = false := by rfl) :
    PE X (.Call (.Name x p) [] kws pos) (fun σ H Q => tk σ H fun vs H1 => ∃ v, vs = [v] ∧ tErr C sp (fun _ H Q => Q [v] H) σ H1 Q) := by
  refine ⟨fun pins s σ H Q I h => ?_⟩
  refine wpAny_Call_Name_kw (ld_glob I hg hm ?_ hdb)
  refine PySem.W.callWith_KW0 (h₀ := X.base) I.ok.mod.kin T.kC hall ?_ hpl
  refine thn (hkw.run pos pins s σ H _ I h) fun ws s2 ⟨zs, H2, I2, rz, v, ez, l2, q2⟩ => ⟨I2.kIn, ?_⟩
  rw [hks]
  subst ez
  cases rz with
  | cons rv rn =>
    cases rn
    exact run_err (us := []) T iC tI Fn hr hx (fun s a KX => hb s (.ref a) _ KX) (by decide) I2 (.cons rv .nil) q2
/-- e.f of such a value -/
def tErF (K : PySem.W.Frag) (f : Str) (te : TE) : TE := fun σ H Q => te σ H fun x H1 => ∃ a C v, x = .ref a ∧ ErrAt H1 a C f v ∧ XfC K C ∧ PySem.W.findIn K (.ref C) f = some none ∧ Q v H1
theorem pe_erF {e : Expr} {te : TE} {n : Str} {pos : Pos} (he : PE X e te) (hb : attributeBase e n X.env (eval e X.env) = eval e X.env := by rfl) : PE X (.Attribute e n pos) (tErF X.K n te) := by
  refine ⟨fun pins s σ H Q I h => ?_⟩
  refine attr_of hb (thn (he.run pins s σ H _ I h) fun u s1 hh => ?_)
  obtain ⟨x, H1, I1, rx, a, C, v, ex, ⟨d, ha, hd⟩, T, hno, q⟩ := hh
  subst ex
  obtain rfl : u = Value.ref a := rx
  obtain ⟨t1, ho⟩ := exo_at I1.hok ha
  obtain ⟨mA, hns, hr⟩ := exd_at I1.hok hd
  obtain ⟨od, hod, hl⟩ := lookIn_ns hns
  have l : List.lookup n [(n, v)] = some v := by
    simp [List.lookup]
  obtain ⟨u, hu, ru⟩ := RelO.some_of (v := v) (o := mA n) (by rw [← l]; exact hr n)
  have J : PySem.W.InstAt s1.heap a { cls := .ref C, dict := some d, data := .fields #[.ref t1, .none, .none, .none, .bool false, .none] } C (some od) := ⟨ho, rfl, rfl, hod⟩
  exact HandSPX.exc_get I1.kIn J T.ga T.gg T.exC (PySem.W.findObj_own T.hdC hno rfl (by rw [hl, hu])) (handed_of ru) ⟨v, H1, I1.tok _, ru, q⟩
/-- isinstance(e, D) of such a value, or of one without fields -/
def rIsX (K : PySem.W.Frag) : List V → Hp → VK → Prop := fun xs H Q => ∃ (a C : Addr) (c : V) (u : Value) (b : Bool), xs = [.ref a, c] ∧ ClsV c u ∧ ((∃ f v, ErrAt H a C f v) ∨ H a = some (ExO (.ref C) a)) ∧ XfC K C ∧ KitC K C ∧
  PySem.W.kitOne K (.ref C) u = some b ∧ Q (.bl b) H
theorem call_isX : CallR X (.builtin "isinstance") (rIsX X.K) := by
  intro pins s σ H xs us Q I r h
  obtain ⟨a, C, c, u, b, rfl, kc, ha, T, Z, e, q⟩ := h
  obtain ⟨u1, u2, rfl, r1, r2⟩ := vals2 r
  obtain rfl : u1 = Value.ref a := r1
  have e2 := kc.eq r2
  subst e2
  rcases ha with ⟨f, v, d, ha, hd⟩ | ha
  · obtain ⟨t1, ho⟩ := exo_at I.hok ha
    obtain ⟨mA, hns, hr⟩ := exd_at I.hok hd
    obtain ⟨od, hod, hl⟩ := lookIn_ns hns
    have J : PySem.W.InstAt s.heap a { cls := .ref C, dict := some d, data := .fields #[.ref t1, .none, .none, .none, .bool false, .none] } C (some od) := ⟨ho, rfl, rfl, hod⟩
    exact PySem.W.kia_one (PySem.W.kitx_exc Z.cl T.ga T.gg T.exC Z.at_ Z.sp Z.tk Z.ob) I.kIn J e (fun z => nomatch z) fun tk => ⟨.bl b, H, I.tok tk, rfl, q⟩
  · obtain ⟨⟨oe, vs, ho, hz, hdt, _⟩, _, _⟩ := I.hok a _ ha
    have J : PySem.W.InstAt s.heap a oe C none := ⟨ho, hz.1, by unfold PySem.W.notCls; rw [hdt] <;> rfl, by rw [hz.2]; exact True.intro⟩
    exact PySem.W.kia_one (PySem.W.kitx_exc Z.cl T.ga T.gg T.exC Z.at_ Z.sp Z.tk Z.ob) I.kIn J e (fun z => nomatch z) fun tk => ⟨.bl b, H, I.tok tk, rfl, q⟩
/-- C(), a class without fields -/
theorem pe_exc0 {bmB : List Value} {B newId initId : String} {x : Str} {p pos : Pos} (F : ExcBaseFacts B newId initId bmB) (q : PySem.W.excIn X.K C bmB newId = true) (gC : X.mg x = some (.ref C)) (kC : PySem.W.keepIn X.K (.ref C) = true) (hg : Gl X x)
    (hdb : (x == ("__debug__" : Str)) = false := by decide) :
    PE X (.Call (.Name x p) [] [] pos) (fun _ H Q => ∀ a, H a = none → Q (.ref a) (upd H a (ExO (.ref C) a))) := by
  refine ⟨fun pins s σ H Q I h => ?_⟩
  refine wpAny_Call_Name_kw (ld_glob I hg gC ?_ hdb)
  refine PySem.W.callWith_K0 I.kIn kC ?_
  obtain ⟨bm, N, nm, qn, bs, hdct, sn, sub, ab, col, dd, k0, k1, k2, k3, k5, mN, hC, hN, hni, T⟩ := exc_obj I.kIn q
  refine wpAny_call_exc_subT F T hC hN hni (fun h' a hm => ?_) (Nat.zero_le _)
  have hn : H a = none := I.hok.gone hm.new
  obtain ⟨t, ht, _, _⟩ := hm.there
  exact ⟨.ref a, upd H a (ExO (.ref C) a), I.laidN hm.keeps hm.new hn (exO_ok ht ⟨rfl, rfl⟩ rfl rfl rfl (show 4 < 6 by decide)), rfl, h a hn⟩
end
end My

namespace My
open PySem PySem.Spec PyProof.Rows L2
/-! ### a class of errors with one field -/
/-- what the written part says of the class at C, called x, with the field f; its __init__ stands at fI -/
structure ErrC (K : PySem.W.Frag) (mg : Str → Option Value) (x f : Str) (C fI : Addr) : Prop where
  gl : mg x = some (.ref C)
  oex : OexC K C
  xf : XfC K C
  kit : KitC K C
  iC : PySem.W.findIn K (.ref C) "__init__" = some (some (.ref fI))
  tI : PySem.W.typeIn K (.ref fI) = some (.type "function")
  no : PySem.W.findIn K (.ref C) f = some none
/-- __init__ of an error: the field is stored -/
def spInit (C : Addr) (f : Str) : Sp := fun vs H Q _ => ∃ (a : Addr) (v : V), vs = [.ref a, v] ∧ H a = some (exo a C none) ∧
  ∀ dx, H dx = none → dx ≠ a → Q .non (upd (upd H dx (exd dx [(f, v)])) a (exo a C (some dx)))
section
variable {P : Program} {w : World} {K : PySem.W.Frag} {mg : Str → Option Value} {base : Heap} {C fI : Addr} {fd : FuncData} {x f : Str}
theorem ok_init {st : Stmt} {qual : Str} (T : ErrC K mg x f C fI) (F : FunD K "__init__" qual (defArgs st) (defBody st) (defScope st) [] [] fI fd) (S : FnScope ["self", f] ["self", f] (defScope st))
    (hb : ∃ q1 q2 q3 q4, defBody st = [.Assign [.Attribute (.Name "self" q1) f q2] (.Name f q3) q4]) (d1 : (f == ("__debug__" : Str)) = false) (d2 : (f == ("__classdict__" : Str)) = false) :
    FnOk P w K mg base CX0 1 fI fd ["self", f] (spInit C f) := by
  obtain ⟨q1, q2, q3, q4, hb⟩ := hb
  refine F.ok S (fun vs H Q E h => ?_) (fun cdv A outer s H vs Q E hr h => ⟨_, PSs.nox (by
    rw [hb]
    exact pss_one (ps_ost (pe_var (i := 0) rfl (vis_par S List.mem_cons_self)) (pe_var (i := 1) rfl (vis_par S (List.mem_cons_of_mem _ List.mem_cons_self)) d1 d2))), ?_⟩)
  · obtain ⟨a, v, rfl, _⟩ := h
    rfl
  · obtain ⟨a, v, rfl, ha, q⟩ := h
    exact ⟨_, rfl, _, rfl, a, C, rfl, T.oex, T.no, .inl ⟨ha, fun dx n ne => q dx n ne⟩⟩
/-- all that a caller wants of such a class -/
def Er (P : Program) (w : World) (K : PySem.W.Frag) (mg : Str → Option Value) (base : Heap) (x f : Str) (C : Addr) : Prop := ∃ (fI : Addr) (fd : FuncData), ErrC K mg x f C fI ∧ FnOk P w K mg base CX0 1 fI fd ["self", f] (spInit C f) ∧
  Binds K fd ["self", f] [] ∧ ∀ (s : Shared) (u v : Value), K.In s.heap → BindsTo s fd ⟨[u], [(f, v)]⟩ ((["self", f] : List Str).zip [u, v])
/-- C(e), C(f = e) as values -/
def tEr (C : Addr) (f : Str) (te : TE) : TE := fun σ H Q => te σ H fun v H1 => ∀ a H', H1 a = none → Ext H1 H' → ErrAt H' a C f v → Q (.ref a) H'
theorem tEr_of {C : Addr} {f : Str} {v : V} {H : Hp} {Q : VK} (h : ∀ a H', H a = none → Ext H H' → ErrAt H' a C f v → Q (.ref a) H') {a : Addr} (ha : H a = none) :
    spInit C f [.ref a, v] (upd H a (exo a C none)) (fun z H2 => z = .non ∧ Q (.ref a) H2) E0 := by
  refine ⟨a, v, rfl, upd_same, fun dx n ne => ⟨rfl, ?_⟩⟩
  have hn : H dx = none := by
    rw [upd_ne ne] at n
    exact n
  refine h a _ ha (fun b o e => ?_) ⟨dx, upd_same, ?_⟩
  · rw [upd_ne (ne_of_none e ha), upd_ne (ne_of_none e hn), upd_ne (ne_of_none e ha)]
    exact e
  · rw [upd_ne ne, upd_same]
end
section
variable {X : Cx} {x f : Str} {C : Addr} {e : Expr} {te : TE} {p pos kpos : Pos}
theorem pe_er (E : Er X.prog X.w X.K X.mg X.base x f C) (hr : Room 2 X.A) (he : PE X e te) (hg : Gl X x := by rfl) (hdb : (x == ("__debug__" : Str)) = false := by decide)
    (h1 : starEach [e] X.env = (false, eval e X.env) :: starEach [] X.env := by rfl) (h2 : (backTo pos (starEach [] X.env)).any (·.1) = false := by rfl) :
    PE X (.Call (.Name x p) [e] [] pos) (tEr C f te) := by
  obtain ⟨fI, fd, T, F, b, _⟩ := E
  refine ⟨fun pins s σ H Q I h => ?_⟩
  refine wpAny_Call_Name_kw (ld_glob I hg T.gl ?_ hdb)
  refine PySem.W.callWith_K (h₀ := X.base) I.ok.mod.kin T.oex.kC ?_ h1 h2
  have ha : PA X [e] (tCons te tNil) := pa_cons he pa_nil h1
  refine thn (ha.run pos pins s σ H (fun vs H1 => match vs with | [v] => ∀ a H', H1 a = none → Ext H1 H' → ErrAt H' a C f v → Q (.ref a) H' | _ => False) I h) fun us s1 ⟨vs, H1, I1, r1, q1⟩ => ⟨I1.kIn, ?_⟩
  cases r1 with
  | nil => exact False.elim q1
  | cons rv rn =>
    cases rn with
    | cons _ _ => exact False.elim q1
    | nil =>
      refine run_err T.oex T.iC T.tI F hr pass0 (fun s a KX => b s [Value.ref a, _] KX rfl) (show 1 ≤ 1000 by decide) I1 (.cons rv .nil) fun a ha => tEr_of q1 ha
theorem pe_erK (E : Er X.prog X.w X.K X.mg X.base x f C) (hr : Room 2 X.A) (he : PE X e te) (hg : Gl X x := by rfl) (hdb : (x == ("__debug__" : Str)) = false := by decide)
    (hall : (backToKw pos (keywordEach [⟨some f, e, kpos⟩] X.env)).all (·.1.isSome) = true := by rfl) (hks : (backToKw pos (keywordEach [⟨some f, e, kpos⟩] X.env)).filterMap (·.1) = [f] := by rfl)
    (hpl : ((backTo pos (starEach [] X.env)).any (·.1) || (backToKw pos (keywordEach [⟨some f, e, kpos⟩] X.env)).any (·.1.isNone)) = false := by rfl) :
    PE X (.Call (.Name x p) [] [⟨some f, e, kpos⟩] pos) (tEr C f te) := by
  obtain ⟨fI, fd, T, F, _, b⟩ := E
  refine ⟨fun pins s σ H Q I h => ?_⟩
  refine wpAny_Call_Name_kw (ld_glob I hg T.gl ?_ hdb)
  refine PySem.W.callWith_KW0 (h₀ := X.base) I.ok.mod.kin T.oex.kC hall ?_ hpl
  have ha : PK X [⟨some f, e, kpos⟩] (tCons te tNil) := pk_cons he pk_nil
  refine thn (ha.run pos pins s σ H (fun vs H1 => match vs with | [v] => ∀ a H', H1 a = none → Ext H1 H' → ErrAt H' a C f v → Q (.ref a) H' | _ => False) I h) fun us s1 ⟨vs, H1, I1, r1, q1⟩ => ⟨I1.kIn, ?_⟩
  rw [hks]
  cases r1 with
  | nil => exact False.elim q1
  | cons rv rn =>
    cases rn with
    | cons _ _ => exact False.elim q1
    | nil => exact run_err (us := []) T.oex T.iC T.tI F hr pass0 (fun s a KX => b s _ _ KX) (by decide) I1 (.cons rv .nil) fun a ha => tEr_of q1 ha
end
/-! ### many errors at once -/
def AllErr (H : Hp) (v : V) : List Addr → List (Addr × Str) → Prop
  | [], [] => True
  | a :: as, c :: cs => ErrAt H a c.1 c.2 v ∧ AllErr H v as cs
  | _, _ => False
theorem AllErr.ext {H H' : Hp} {v : V} (x : Ext H H') : ∀ {as : List Addr} {cs : List (Addr × Str)}, AllErr H v as cs → AllErr H' v as cs
  | [], [], _ => True.intro
  | a :: as, c :: cs, h => ⟨h.1.ext x, AllErr.ext x h.2⟩
  | [], _ :: _, h => h.elim
  | _ :: _, [], h => h.elim
theorem AllErr.len {H : Hp} {v : V} : ∀ {as : List Addr} {cs : List (Addr × Str)}, AllErr H v as cs → as.length = cs.length
  | [], [], _ => rfl
  | a :: as, c :: cs, h => by rw [List.length_cons, List.length_cons, AllErr.len h.2]
  | [], _ :: _, h => h.elim
  | _ :: _, [], h => h.elim
theorem AllErr.app {H : Hp} {v : V} : ∀ {as bs : List Addr} {cs ds : List (Addr × Str)}, AllErr H v as cs → AllErr H v bs ds → AllErr H v (as ++ bs) (cs ++ ds)
  | [], _, [], _, _, k => k
  | a :: as, _, c :: cs, _, h, k => ⟨h.1, AllErr.app h.2 k⟩
  | [], _, _ :: _, _, h, _ => h.elim
  | _ :: _, _, [], _, h, _ => h.elim
theorem AllErr.at_ {H : Hp} {v : V} : ∀ {as : List Addr} {cs : List (Addr × Str)} {i : Nat} {c : Addr × Str}, AllErr H v as cs → cs[i]? = some c → ∃ a, as[i]? = some a ∧ ErrAt H a c.1 c.2 v
  | [], [], _, _, _, e => by simp at e
  | a :: as, c :: cs, 0, _, h, e => ⟨a, rfl, by cases e; exact h.1⟩
  | a :: as, c :: cs, i + 1, _, h, e => AllErr.at_ (i := i) h.2 e
  | [], _ :: _, _, _, h, _ => h.elim
  | _ :: _, [], _, _, h, _ => h.elim
def tErL : List (Addr × Str) → TE → TA
  | [], _ => tNil
  | c :: cs, te => tCons (tEr c.1 c.2 te) (tErL cs te)
theorem erL_run {i : Nat} {σ : L2.St} {v : V} (hi : σ[i]? = some (some v)) : ∀ (cs : List (Addr × Str)) (H : Hp) (Q : List V → Hp → Prop), (∀ as H', Ext H H' → AllErr H' v as cs → Q (as.map V.ref) H') → tErL cs (tVar i) σ H Q
  | [], H, Q, h => h [] H Ext.rfl' True.intro
  | c :: cs, H, Q, h => ⟨v, hi, fun a H1 _ x1 e1 => erL_run hi cs H1 _ fun as H2 x2 e2 => h (a :: as) H2 (x1.trans x2) ⟨e1.ext x2, e2⟩⟩
end My

namespace PySem
namespace MyD
open PySem.W Builtin
section
variable {prog : Program} {w : World} {A : Around} {E : Value → Shared → Prop} {s : Shared} {K : Frag} {x C f : Addr} {ox : Obj} {od : Option Obj}
/-- y in x, x an instance with an own __contains__ -/
theorem contains_own {M : Model} {y : Value} {Q : Bool → Shared → Prop} (X : K.In s.heap) (I : InstAt s.heap x ox C od) (hs : findIn K (.ref C) "__contains__" = some (some (.ref f))) (hf : isFn K (.ref f) = true)
    (h : wpAny M A (call (.ref f) [.ref x, y]) (fun r s' => ∃ b, r = .bool b ∧ Q b s') E s) : wpAny M A (contains (.ref x) y) Q E s := by
  have body : wpAny M A (callSpecialUnlessNone? (.ref x) "__contains__" [y] (do rule "in.none"; raiseError "TypeError" s!"'{← typeNameOf (.ref x)}' object is not a container")) (fun r s' => ∃ b, r = some (.bool b) ∧ Q b s') E s := by
    unfold callSpecialUnlessNone?
    refine wpAny_bind (wpAny_bind (I.type.here ((looks_findIn X hs).here ?_)))
    refine wpAny_holding (wpAny_bind ((bind_fn X _ (beq_iff_eq.mp hf)).here ?_))
    refine wpAny_bind (wpAny_mono h (fun r s' hr => ?_) fun _ _ e => e)
    obtain ⟨b, rfl, q⟩ := hr
    exact wpAny_pure ⟨b, rfl, q⟩
  unfold contains
  refine wpAny_holding ?_
  refine wpAny_bind (wpAny_bind (I.type.here ((looks_findIn X hs).here ?_)))
  rw [if_neg (show ¬ (some (Value.ref f) == some Value.none) = true from Bool.false_ne_true)]
  refine wpAny_bind (wpAny_mono body (fun r s' hr => ?_) fun _ _ e => e)
  obtain ⟨b, rfl, q⟩ := hr
  exact wpAny_truthy_bool q
/-- x != b, the class of x with an own __eq__ and object's __ne__ -/
theorem ne_own {b tb : Value} {Q : Value → Shared → Prop} (hu : A.units + 1 < cLine) (X : K.In s.heap) (I : InstAt s.heap x ox C od) (hb : Looks (model prog w) s.heap (typeOf b) tb) (hn : notFirst K C tb = true)
    (hne : findIn K (.ref C) "__ne__" = some (some (.builtin "object.__ne__"))) (hob : mroIn K C (.type "object") = some true) (hs : findIn K (.ref C) "__eq__" = some (some (.ref f))) (hf : isFn K (.ref f) = true)
    (h : wpAny (model prog w) A.in1 (call (.ref f) [.ref x, b]) (fun r s' => ∃ k, r = .bool k ∧ Q (.bool (!k)) s') E s) : wpAny (model prog w) A (richCompare .NotEq (.ref x) b) Q E s := by
  have sub : Looks (model prog w) s.heap (isInstance (.ref x) (.type "object")) true := I.type.andThen (looks_mroIn X hob)
  have go : wpAny (model prog w) A (call (.builtin "object.__ne__") ([.ref x] ++ [b])) (fun v s' => ∃ k, v = .bool (!k) ∧ Q (.bool (!k)) s') E s := by
    show wpAny _ _ (call (.builtin "object.__ne__") [.ref x, b]) _ _ _
    refine wpAny_call (codeAny_call_builtin F.cmp_object.ne.plain F.cmpEntry_ne ?_)
    refine check_slot F.cmpKind_ne F.cmpSplit_ne sub (F.cmpArgs_ne _ _) ?_
    unfold Builtin.«object.__ne__»
    refine wpAny_bind (wpAny_of_eq (a := ((Value.ref x : Value), [b])) (by first | rfl | (simp only [slotArgs]; rfl)) ?_)
    refine wpAny_bind (wpAny_cRoomFor hu ?_)
    refine wpAny_bind (ifBound_K X I hs hf (wpAny_mono h (fun v s' hv => ?_) fun _ _ e => e))
    obtain ⟨k, rfl, q⟩ := hv
    refine wpAny_bind (wpAny_truthy_bool ?_)
    exact wpAny_pure ⟨k, rfl, q⟩
  have bnd : wpAny (model prog w) A (callSpecialIfBound? (.ref x) "__ne__" [b]) (fun r s' => ∃ k, r = some (.bool (!k)) ∧ Q (.bool (!k)) s') E s := by
    simp only [callSpecialIfBound?, bindSpecialIfBound?]
    refine wpAny_holding (wpAny_bind (wpAny_bind (wpAny_bind (I.type.here ((looks_findIn X hne).here ?_)))))
    refine wpAny_bind (wpAny_askSetting (wpAny_ite ?_))
    have fin : wpAny (model prog w) A (call (.builtin "object.__ne__") ([.ref x] ++ [b]) >>= fun v => pure (some v)) (fun r s' => ∃ k, r = some (.bool (!k)) ∧ Q (.bool (!k)) s') E s := by
      refine wpAny_bind (wpAny_mono go (fun v s' hv => ?_) fun _ _ e => e)
      obtain ⟨k, rfl, q⟩ := hv
      exact wpAny_pure ⟨k, rfl, q⟩
    split
    · exact wpAny_bind (wpAny_of_eq (F.cmp_object.ne.bind _) (wpAny_pure (by exact fin)))
    · exact wpAny_tryCatch (wpAny_bind (wpAny_of_eq (F.cmp_object.ne.bind _) (wpAny_pure (by exact fin))))
  have one : wpAny (model prog w) A (tryCompare (.ref x) "__ne__" b) (fun r s' => ∃ v, r = some v ∧ Q v s') E s := by
    unfold tryCompare
    refine wpAny_bind (wpAny_mono bnd (fun r s' hv => ?_) fun _ _ e => e)
    obtain ⟨k, rfl, q⟩ := hv
    exact wpAny_pure ⟨_, rfl, q⟩
  unfold richCompare
  simp only [oneThing_ref]
  refine wpAny_holding (wpAny_bind (wpAny_cRoomFor (by omega) ?_))
  refine wpAny_bind (I.type.here (wpAny_bind (hb.here ?_)))
  split
  · rename_i q
    have e : subIn K tb (.ref C) = some false := by
      rcases Bool.or_eq_true_iff.mp hn with e | e
      · rw [beq_iff_eq.mp e] at q
        simp at q
      · exact beq_iff_eq.mp e
    refine wpAny_bind ((looks_subIn X e).here ?_)
    simp only [Bool.false_eq_true, if_false]
    refine wpAny_bind (wpAny_mono one (fun r s' z => ?_) fun _ _ e => e)
    obtain ⟨v, rfl, hq⟩ := z
    exact wpAny_pure hq
  · refine wpAny_bind (wpAny_pure ?_)
    simp only [Bool.false_eq_true, if_false]
    refine wpAny_bind (wpAny_mono one (fun r s' z => ?_) fun _ _ e => e)
    obtain ⟨v, rfl, hq⟩ := z
    exact wpAny_pure hq
end
end MyD
end PySem

namespace L2
open PySem PySem.Spec PyProof.Rows
/-! ### own operators, run -/
section
variable {X : Cx} {pins : List (Addr × Obj)} {σ : St} {H : Hp} {s : Shared} {CI : CXT} {f : Addr} {fd : FuncData} {ps : List Str} {sp : Sp} {EI : XK} {n : Nat} {A1 : Around}
theorem envSub (I : Inv X pins σ H s) (sb : Sub X n A1) : Env0 X.prog X.w X.K X.mg X.base A1 X.stack s H := by
  have e := I.env0
  exact ⟨by rw [sb.fr]; exact e.frames, e.mod, e.bs, e.bsz, e.funs, e.frf, e.hok, e.bare⟩
theorem rv2 (a : Addr) {y : V} {u : Value} (r : RelV y u) : Vals [V.ref a, y] [Value.ref a, u] := .cons rfl (.cons r .nil)
/-- a known def runs somewhere below the body -/
theorem run_sub {xs : List V} {us : List Value} {Q : VK} {base : Heap} (sb : Sub X n A1) (F : FnOk X.prog X.w X.K X.mg base CI n f fd ps sp) (e0 : Env0 X.prog X.w X.K X.mg base A1 X.stack s H) (hb : Binds X.K fd ps []) (hx : Passes CI X EI)
    (I : Inv X pins σ H s) (rv : Vals xs us) (hsp : sp xs H Q EI) : wpAny (model X.prog X.w) A1 (call (.ref f) us) (EP X pins σ Q) X.xe s := by
  have hl := F.len _ _ _ _ hsp
  have hl' : us.length = ps.length := by rw [← rv.length]; exact hl
  refine wpAny_call (codeAny_mono (F.run A1 X.stack s H ⟨us, []⟩ us xs Q EI sb.room e0 (by
    have := hb s us I.kIn (by simpa using hl')
    simpa using this) rv hsp) fun r s' hq => ?_)
  cases r with
  | error e => exact hx pins σ H s e s' I hq
  | ok fl =>
    cases fl with
    | ret u => exact I.after hq
    | next => exact False.elim hq
    | brk => exact False.elim hq
    | cont => exact False.elim hq
/-- a method under its name -/
structure OwnM (K : PySem.W.Frag) (C : Addr) (m : Str) (f : Addr) : Prop where
  at_ : PySem.W.findIn K (.ref C) m = some (some (.ref f))
  fn : PySem.W.isFn K (.ref f) = true
/-- x in o -/
def rInO (C : Addr) (sp : Sp) (E : XK) : R2 := fun x y H Q => ∃ a dx fs, y = .ref a ∧ H a = some (.ins C dx fs) ∧ sp [.ref a, x] H (fun v H' => ∃ b, v = .bl b ∧ Q (.bl b) H') E
theorem op_inO {C : Addr} (hr : Room n X.A) (M : OwnM X.K C "__contains__" f) (F : FnOk X.prog X.w X.K X.mg X.base CI n f fd ps sp) (hb : Binds X.K fd ps []) (hx : Passes CI X EI) : OpR X (compareOp .In) (rInO C sp EI) := by
  intro pins s σ H x y v u Q I rx ry h
  obtain ⟨a, dx, fs, rfl, ha, hsp⟩ := h
  cases ry
  obtain ⟨mA, J, _⟩ := ins_get I.hok ha
  obtain ⟨od, J, _⟩ := J.look
  show wpAny _ _ (contains (.ref a) v >>= fun z => pure (Value.bool z)) _ _ s
  refine wpAny_bind (wpAny_mono (MyD.contains_own (Q := fun b s' => EP X pins σ Q (.bool b) s') I.kIn J M.at_ M.fn ?_) (fun b s' hb => wpAny_pure hb) fun _ _ z => z)
  refine wpAny_mono (run_sub ⟨hr, rfl⟩ F (envSub I ⟨hr, rfl⟩) hb hx I (rv2 a rx) hsp) (fun w s' hq => ?_) fun _ _ z => z
  obtain ⟨z, H', I', rz, b, rfl, q⟩ := hq
  cases rz
  exact ⟨b, rfl, .bl b, H', I', rfl, q⟩
/-- o == y, o an instance with its own __eq__, y anything whose type is not one below o's class -/
def rEqO (K : PySem.W.Frag) (C : Addr) (sp : Sp) (E : XK) : R2 := fun x y H Q => ∃ a dx fs t, x = .ref a ∧ H a = some (.ins C dx fs) ∧ TyX K H y t ∧ PySem.W.notFirst K C t = true ∧ sp [.ref a, y] H (fun v H' => ∃ b, v = .bl b ∧ Q (.bl b) H') E
theorem op_eqO {C : Addr} (hr : Room n X.A) (M : OwnM X.K C "__eq__" f) (F : FnOk X.prog X.w X.K X.mg X.base CI n f fd ps sp) (hb : Binds X.K fd ps []) (hx : Passes CI X EI) : OpR X (compareOp .Eq) (rEqO X.K C sp EI) := by
  intro pins s σ H x y v u Q I rx ry h
  obtain ⟨a, dx, fs, t, rfl, ha, ty, nf, hsp⟩ := h
  cases rx
  obtain ⟨mA, J, _⟩ := ins_get I.hok ha
  obtain ⟨od, J, _⟩ := J.look
  obtain ⟨m, hF⟩ := I.fr
  obtain ⟨P, Z, p, hx'⟩ := kit_of I ry ty
  show wpAny _ _ (richCompare .Eq (.ref a) u) _ _ _
  refine PySem.W.cmp_K (op := .Eq) (tb := t) hr.units0 hF I.ok.mod.kin J (Z.ty _ _ I.kIn p) nf M.at_ M.fn ?_
  refine wpAny_mono (run_sub ⟨hr, rfl⟩ F (envSub I ⟨hr, rfl⟩) hb hx I (rv2 a ry) hsp) (fun w s' hq => ?_) fun _ _ z => z
  obtain ⟨z, H', I', rz, b, rfl, q⟩ := hq
  cases rz
  exact ⟨.bl b, H', I', rfl, q⟩
/-- o != y -/
def rNeO (K : PySem.W.Frag) (C : Addr) (sp : Sp) (E : XK) : R2 := fun x y H Q => ∃ a dx fs t, x = .ref a ∧ H a = some (.ins C dx fs) ∧ TyX K H y t ∧ PySem.W.notFirst K C t = true ∧ sp [.ref a, y] H (fun v H' => ∃ b, v = .bl b ∧ Q (.bl (!b)) H') E
theorem op_neO {C : Addr} (hr : Room (n + 1) X.A) (M : OwnM X.K C "__eq__" f) (hne : PySem.W.findIn X.K (.ref C) "__ne__" = some (some (.builtin "object.__ne__"))) (hob : PySem.W.mroIn X.K C (.type "object") = some true)
    (F : FnOk X.prog X.w X.K X.mg X.base CI n f fd ps sp) (hb : Binds X.K fd ps []) (hx : Passes CI X EI) : OpR X (compareOp .NotEq) (rNeO X.K C sp EI) := by
  intro pins s σ H x y v u Q I rx ry h
  obtain ⟨a, dx, fs, t, rfl, ha, ty, nf, hsp⟩ := h
  cases rx
  obtain ⟨mA, J, _⟩ := ins_get I.hok ha
  obtain ⟨od, J, _⟩ := J.look
  obtain ⟨P, Z, p, hx'⟩ := kit_of I ry ty
  have sb : Sub X n X.A.in1 := Sub.in1 (⟨hr, rfl⟩ : Sub X (n + 1) X.A)
  show wpAny _ _ (richCompare .NotEq (.ref a) u) _ _ _
  refine MyD.ne_own (by have := hr.un; omega) I.kIn J (Z.ty _ _ I.kIn p) nf hne hob M.at_ M.fn ?_
  refine wpAny_mono (run_sub sb F (envSub I sb) hb hx I (rv2 a ry) hsp) (fun w s' hq => ?_) fun _ _ z => z
  obtain ⟨z, H', I', rz, b, rfl, q⟩ := hq
  cases rz
  exact ⟨b, rfl, .bl (!b), H', I', rfl, q⟩
/-- len(o) -/
def rLenO (C : Addr) (sp : Sp) (E : XK) : List V → Hp → VK → Prop := fun xs H Q => ∃ a dx fs, xs = [.ref a] ∧ H a = some (.ins C dx fs) ∧ sp [.ref a] H (fun v H' => ∃ k : Int, v = .int k ∧ 0 ≤ k ∧ k < 2 ^ 63 ∧ Q (.int k) H') E
theorem call_lenO {C : Addr} (hr : Room (n + 1) X.A) (M : OwnM X.K C "__len__" f) (F : FnOk X.prog X.w X.K X.mg X.base CI n f fd ps sp) (hb : Binds X.K fd ps []) (hx : Passes CI X EI) : CallR X (.builtin "len") (rLenO C sp EI) := by
  intro pins s σ H xs us Q I rv h
  obtain ⟨a, dx, fs, rfl, ha, hsp⟩ := h
  obtain ⟨u, rfl, ru⟩ := rv.one
  cases ru
  obtain ⟨mA, J, _⟩ := ins_get I.hok ha
  obtain ⟨od, J, _⟩ := J.look
  obtain ⟨m, hF⟩ := I.fr
  have sb : Sub X n X.A.in1 := Sub.in1 (⟨hr, rfl⟩ : Sub X (n + 1) X.A)
  refine PySem.W.len_K hF I.ok.mod.kin J M.at_ M.fn ?_
  refine wpAny_mono (run_sub sb F (envSub I sb) hb hx I rv hsp) (fun w s' hq => ?_) fun _ _ z => z
  obtain ⟨z, H', I', rz, k, rfl, k0, k1, q⟩ := hq
  obtain ⟨t, rfl⟩ := rz
  exact ⟨⟨k0, k1⟩, .int k, H', I'.tok _, ⟨_, rfl⟩, q⟩
end
end L2

namespace L2
open PySem PySem.Spec PyProof.Rows
/-! ### a base with room behind it: what is not in it is young -/
def deadO : Obj := ⟨.none, none, .freed, #[]⟩
def padB (h : Heap) (n : Nat) : Heap := ⟨h.objs ++ Array.replicate n deadO, h.life⟩
theorem padB_get (h : Heap) (n : Nat) (b : Addr) : (padB h n).get? b = h.get? b := by
  by_cases k : b < h.objs.size
  · have e : (padB h n).objs[b]? = h.objs[b]? := by show (h.objs ++ Array.replicate n deadO)[b]? = _; rw [Array.getElem?_append_left k]
    unfold Heap.get?
    rw [e]
  · have e : h.get? b = none := by
      unfold Heap.get?
      rw [Array.getElem?_eq_none (Nat.le_of_not_lt k)]
    rw [e]
    unfold Heap.get?
    have e2 : (padB h n).objs[b]? = (Array.replicate n deadO)[b - h.objs.size]? := by
      show (h.objs ++ Array.replicate n deadO)[b]? = _
      rw [Array.getElem?_append_right (Nat.le_of_not_lt k)]
    rw [e2, Array.getElem?_replicate]
    split
    · rename_i q
      split at q
      · cases q; rfl
      · cases q
    · rename_i q
      split at q
      · exact absurd rfl (q _ _ _)
      · rw [if_neg (by assumption)]
theorem padB_size (h : Heap) (n : Nat) : (padB h n).objs.size = h.objs.size + n := by
  show (h.objs ++ Array.replicate n deadO).size = _
  rw [Array.size_append, Array.size_replicate]
theorem padB_keeps (h : Heap) (n : Nat) : ∀ b o, h.get? b = some o → (padB h n).get? b = some o := fun b o e => by rw [padB_get]; exact e
theorem Mod.pad {K : PySem.W.Frag} {mg : Str → Option Value} {base : Heap} (m : Mod K mg base) (n : Nat) : Mod K mg (padB base n) :=
  ⟨fun a o e => padB_keeps _ _ _ _ (m.kin a o e), m.glob.keeps (padB_keeps _ _), m.blt.elim fun mb h => ⟨mb, h.1.keeps (padB_keeps _ _), h.2⟩, m.nolimit.keeps (padB_keeps _ _)⟩
theorem funFrames_pad {h base : Heap} (n : Nat) : ∀ {l : List Env}, h.FunFrames base l → h.FunFrames (padB base n) l
  | [], _ => True.intro
  | _ :: _, ⟨a, ⟨L, o, e1, e2, e3⟩, r⟩ => ⟨a, ⟨L, o, e1, by rw [padB_get]; exact e2, e3⟩, funFrames_pad n r⟩
theorem Env0.pad {P : Program} {w : World} {K : PySem.W.Frag} {mg : Str → Option Value} {base : Heap} {A : Around} {outer : List Env} {s : Shared} {H : Hp} (e : Env0 P w K mg base A outer s H) {n : Nat} (hn : base.objs.size + n ≤ s.heap.objs.size) :
    Env0 P w K mg (padB base n) A outer s H := ⟨e.frames, e.mod.pad n, fun b o q => e.bs b o (by rw [padB_get] at q; exact q), by rw [padB_size]; exact hn, funFrames_pad n e.funs, e.frf, e.hok, e.bare⟩
/-! ### iter(tuple) as a value -/
def itT (l : Addr) (i : Nat) : Obj := { cls := .type "tuple_iterator", data := .fields #[.ref l, .int i 0] }
def ItoT (l it : Addr) : HO := .ext fun h => h.get? it = some (itT l 0)
theorem itoT_ok {P : Program} {w : World} {H : Hp} {h : Heap} {l it : Addr} (e : h.get? it = some (itT l 0)) : ObjOk P w H h it (ItoT l it) := ⟨e, ⟨_, e⟩, fun h1 h2 q k => k _ q⟩
def rIterT (K : PySem.W.Frag) (n : Nat) : List V → Hp → VK → Prop := fun xs H Q => ∃ (l : Addr) (zs : List V), xs = [.ref l] ∧ SqT K H l zs ∧ ∀ it, H it = Option.none → n ≤ it → Q (.ref it) (upd H it (ItoT l it))
section
variable {X : Cx} {pins : List (Addr × Obj)} {σ : St} {H : Hp} {s : Shared}
theorem call_iter_tup {prog : Program} {w : World} {A : Around} {E : Value → Shared → Prop} {l : Addr} {items : Array Value} {Q : Value → Shared → Prop} (hl : s.heap.IsTuple l items) (h : Q (.ref s.heap.objs.size) { s with heap := s.heap.push (itT l 0) }) : wpAny (model prog w) A (call (.builtin "iter") [.ref l]) Q E s := by
  refine Calls.call_function_entry (by decide +kernel) (by decide +kernel) PySem.W.kdk_entry_iter (PySem.W.kdk_args_iter _) ?_
  unfold Builtin.«iter»
  refine wpAny_bind (m := someArgs "iter" 1 2 _) (wpAny_of_eq (a := [Value.ref l]) (by first | rfl | kernel_rfl!) ?_)
  show wpAny _ _ (pyIter (.ref l) >>= _) _ _ _
  refine wpAny_bind (wpAny_pyIter_tuple hl ?_)
  exact wpAny_pure ⟨_, rfl, h⟩
theorem call_iterT : CallR X (.builtin "iter") (rIterT X.K X.base.objs.size) := by
  intro pins s σ H xs us Q I r h
  obtain ⟨l, zs, rfl, hq, q⟩ := h
  obtain ⟨u, rfl, ru⟩ := vals1 r
  cases ru
  obtain ⟨its, rv, pl, hz⟩ := I.tuple hq
  refine call_iter_tup (show s.heap.IsTuple l its.toArray from pl) ?_
  exact ⟨.ref s.heap.objs.size, _, I.laid (t' := s.toks) (fun b u e => Heap.get?_push_of_some _ e) (Nat.le_refl _) (itoT_ok (Heap.get?_push_size _ rfl)), rfl, q _ (I.hok.fresh (Nat.le_refl _)) (Nat.le_trans I.ok.bsz I.sz)⟩
theorem rv1 (a : Addr) : Vals [V.ref a] [Value.ref a] := .cons rfl .nil
/-! ### walked: an instance whose __iter__ gives iter(tuple) -/
/-- what __iter__ promises: N of the instance is a tuple at l -/
def spIter (K : PySem.W.Frag) (C : Addr) (N : Str) (n : Nat) : Sp := fun vs H Q _ => ∃ a dx fs l zs, vs = [.ref a] ∧ H a = some (.ins C dx fs) ∧ fs.lookup N = some (.ref l) ∧ SqT K H l zs ∧ ∀ it, H it = none → n ≤ it → Q (.ref it) (upd H it (ItoT l it))
def iOwn (K : PySem.W.Frag) (C : Addr) (N : Str) (te : TE) : TI := fun σ H R => te σ H fun x H1 => ∃ a dx fs l zs, x = .ref a ∧ H1 a = some (.ins C dx fs) ∧ fs.lookup N = some (.ref l) ∧ SqT K H1 l zs ∧ R (Itt K l) H1
variable {tg e : Expr} {te : TE} {C f : Addr} {fd : FuncData} {N : Str} {ps : List Str} {n : Nat}
theorem pi_own (hr : Room n X.A) (M : OwnM X.K C "__iter__" f) (Fi : ∀ base, FnOk X.prog X.w X.K X.mg base CX0 n f fd ps (spIter X.K C N base.objs.size)) (hb : Binds X.K fd ps []) (he : PE X e te) : PI X tg e (iOwn X.K C N te) := by
  refine ⟨fun pins s σ H R I h => ?_⟩
  refine thn (he.run pins s σ H _ I h) fun v s1 ⟨x, H1, I1, r1, q1⟩ => ?_
  obtain ⟨a, dx, fs, l, zs, rfl, ha, hf, hl, q⟩ := q1
  cases r1
  obtain ⟨mA, J, _⟩ := ins_get I1.hok ha
  obtain ⟨od, J, _⟩ := J.look
  obtain ⟨m, hF⟩ := I1.fr
  have sb : Sub X n X.A := ⟨hr, rfl⟩
  refine PySem.W.owit_iter hF I1.ok.mod.kin J M.at_ M.fn ?_
  have hsz : X.base.objs.size + (X.s_0.heap.objs.size - X.base.objs.size) = X.s_0.heap.objs.size := by have := I1.ok.bsz; omega
  have e0 := (envSub I1 sb).pad (n := X.s_0.heap.objs.size - X.base.objs.size) (by rw [hsz]; exact I1.sz)
  refine wpAny_mono (run_sub (Q := fun v H' => ∃ it, v = .ref it ∧ H1 it = none ∧ X.s_0.heap.objs.size ≤ it ∧ H' = upd H1 it (ItoT l it)) sb (Fi _) e0 hb (EI := fun _ _ _ => False) pass0 I1 (rv1 a) ⟨a, dx, fs, l, zs, rfl, ha, hf, hl, fun it h1 h2 => ⟨it, rfl, h1, by rw [padB_size, hsz] at h2; exact h2, rfl⟩⟩) (fun w s' hq => ?_) fun _ _ z => z
  obtain ⟨z, H', I', rz, it, rfl, hn, hy, rfl⟩ := hq
  cases rz
  have hit : upd H1 it (ItoT l it) it = some (ItoT l it) := upd_same
  have eo : s'.heap.get? it = some (itT l 0) := (I'.hok it _ hit).1
  have st : s'.heap.IsTupleIter it l 0 := ⟨_, eo, rfl, rfl⟩
  unfold PySem.W.OwitIt
  refine wpAny_specialOf st.typeIs PySem.F.slot_tuple_iterator_next.lookup ?_
  have hd : ItX.dropH (upd H1 it (ItoT l it)) it = H1 := ItX.dropH_upd hn
  have I2 := ItX.inv_drop I' (a := it) (φ := fun h => h.get? it = some (itT l 0)) hit
  have fp := ItX.inv_fp I' hit hy
  rw [hd] at I2 fp
  refine ⟨it, [it], _, _, H1, rfl, I2, turn_tuple l it, st, fun b hb => ?_, q⟩
  have e : b = it := by simpa using hb
  rw [e]
  exact fp
end
end L2

namespace PySem
namespace MyE
open PySem.W
/-- enumerate(v), one argument -/
theorem new1 {v : Value} {o : Obj} {H : Heap → Prop} (B : Begins v o H) :
    Meets (Builtin.«enumerate.__new__» ⟨[.type "enumerate", v], []⟩) (fun _ R s => H s.heap ∧
      R (.ok (.ret (.ref (s.heap.push o).objs.size))) { s with heap := (s.heap.push o).push { cls := .type "enumerate", data := .fields #[.none, .bool false, .ref s.heap.objs.size, rawInt 0, .none, .none] } }) :=
  .of_wp fun P1 w1 A1 R1 s1 z => by
    obtain ⟨hp, gs, dr, tk, oz⟩ := s1
    obtain ⟨z1, z2⟩ := z
    have subE := sub_enumerate
    have its : ∀ {A' : Around} {E : Value → Shared → Prop} {Q : Value → Shared → Prop}, Q (.ref hp.objs.size) ⟨hp.push o, gs, dr, tk, oz⟩ → wpAny (model P1 w1) A' (pyIter v) Q E ⟨hp, gs, dr, tk, oz⟩ :=
      fun q => B.iter P1 w1 _ _ ⟨hp, gs, dr, tk, oz⟩ _ z1 q
    wp_walk using its
    refine wpAny_stack_any fun _ => wpAny_pure ?_
    split
    · rename_i c _ _ _ _ _
      cases (c == Value.type "enumerate") <;> (wp_walk using its; exact ⟨_, rfl, z2⟩)
    · wp_walk using its
      exact ⟨_, rfl, z2⟩
theorem call1 {prog : Program} {w : World} {A : Around} {E : Value → Shared → Prop} {s : Shared} {v : Value} {o : Obj} {H : Heap → Prop} {Q : Value → Shared → Prop} (B : Begins v o H) (h1 : H s.heap)
    (h : ∀ h', IsEnum h' (s.heap.objs.size + 1) s.heap.objs.size 0 .none → h'.get? s.heap.objs.size = some o → (∀ b u, s.heap.get? b = some u → h'.get? b = some u) → Q (.ref (s.heap.objs.size + 1)) { s with heap := h' }) :
    wpAny (model prog w) A (call (.type "enumerate") [v]) Q E s := by
  refine callType_new F.called_enumerate (by decide) (F.typeCall_enumerate_1 _) (F.newCall_enumerate_1 _) (fun obj => F.args_object_init_2 obj _) F.entry_enumerate_new (new1 B) ⟨h1, ?_⟩
  have hz : (s.heap.push o).objs.size = s.heap.objs.size + 1 := Heap.size_push ..
  have he := Heap.get?_push_size (s.heap.push o) (o := { cls := .type "enumerate", data := .fields #[.none, .bool false, .ref s.heap.objs.size, rawInt 0, .none, .none] }) rfl
  show _ ∧ _
  rw [hz] at he ⊢
  exact ⟨⟨_, he, rfl⟩, h _ he (Heap.get?_push_of_some _ (Heap.get?_push_size _ B.free)) fun b u x => Heap.get?_push_of_some _ (Heap.get?_push_of_some _ x)⟩
end MyE
end PySem
namespace L2
open PySem PySem.Spec PyProof.Rows
/-! ### enumerate(tuple) -/
def IteT (K : PySem.W.Frag) (a : Addr) : It :=
  ⟨fun i H => ∃ (xs : List V) (x : V), SqT K H a xs ∧ xs[i]? = some x, fun i H v H' => ∃ T x, v = .ref T ∧ H T = none ∧ H' = upd H T (.tup [.int (i : Nat), x]) ∧ ∀ xs, SqT K H a xs → xs[i]? = some x, fun i H => ∃ xs : List V, SqT K H a xs ∧ xs.length = i⟩
theorem enum_ne {h : Heap} {e it l : Addr} {i : Int} {old : Value} {items : Array Value} (he : IsEnum h e it i old) (hl : h.IsTuple l items) : l ≠ e := fun z => by
  obtain ⟨o, ho, _, n, hd⟩ := hl
  rw [z, he] at ho
  cases ho
  cases hd
theorem iterT_ne {h : Heap} {it l : Addr} {i : Nat} {items : Array Value} (hi : h.IsTupleIter it l i) (hl : h.IsTuple l items) : l ≠ it := fun z => by
  obtain ⟨o, ho, _, n, hd⟩ := hl
  obtain ⟨o2, ho2, _, hd2⟩ := hi
  rw [z, ho2] at ho
  cases ho
  rw [hd2] at hd
  cases hd
theorem turn_enumT {P : Program} {w : World} {K : PySem.W.Frag} {elts : List Expr} {kk : Nat} {tpos : Pos} (a e it : Addr) :
    Turn P w K (.Tuple elts kk tpos) (IteT K a) [e, it] e (fun i h => (∃ old, IsEnum h e it ((i : Nat) : Int) old) ∧ h.IsTupleIter it a i ∧ e ≠ it) where
  mem := List.mem_cons_self
  obj := fun i h st b hb => by
    obtain ⟨⟨old, he⟩, ⟨o, ho, hc, hd⟩, _⟩ := st
    rcases List.mem_cons.mp hb with rfl | hb
    · exact ⟨_, he, fun v q => nomatch q⟩
    · rw [List.mem_singleton.mp hb]
      exact ⟨o, ho, fun v q => by rw [hd] at q; cases q⟩
  keep := fun i h h' st k => ⟨st.1.elim fun old z => ⟨old, k e List.mem_cons_self _ z⟩, st.2.1.at fun o q => k it (List.mem_cons_of_mem _ List.mem_cons_self) o q, st.2.2⟩
  item := by
    intro X hP hw hK hc i pins s σ H E I hf st hg
    subst hP hw hK
    obtain ⟨⟨old, he⟩, hit, hne⟩ := st
    obtain ⟨xs, x, hq, hx⟩ := hg
    obtain ⟨its, rv, p, hz⟩ := I.tuple hq
    obtain ⟨u, hu, ru⟩ := rv.get hx
    have pt : s.heap.IsTuple a its.toArray := p
    have hel : e < s.heap.objs.size := Heap.lt_size he
    have hlen : i < its.toArray.size := by
      rw [List.size_toArray]
      exact (List.getElem?_eq_some_iff.mp hu).1
    refine wpAny_pyNext_enum_itemD (Draws.tuple (A := X.A.in1) (I.ok.hd hc) it a (iterT_ne hit pt) its.toArray) he ⟨hit, pt⟩ hlen hne (by
      intro z
      rcases List.mem_cons.mp z with z | z
      · exact hne z
      · exact enum_ne he pt (List.mem_singleton.mp z).symm) fun y h' tk hy ho hit' hT hsz hk => ?_
    have ey : y = u := by
      rw [List.getElem?_toArray, hu] at hy
      exact (Option.some.inj hy).symm
    subst ey
    refine ⟨_, rfl, wpAny_letOwnedTupleGo_enum (s := { s with heap := h', toks := tk + 1 }) ho fun h'' he' sb => ?_⟩
    have hT2 : h''.get? s.heap.objs.size = some { cls := .type "tuple", data := .seq #[.int i tk, y] } := (sb.2 _ (Nat.ne_of_gt hel)).trans hT
    have new : ObjOk X.prog X.w (upd H s.heap.objs.size (.tup [.int (i : Nat), x])) h'' s.heap.objs.size (.tup [.int (i : Nat), x]) :=
      ⟨Nat.le_of_ble_eq_true rfl, [.int i tk, y], .cons ⟨_, rfl⟩ (.cons ru .nil), ⟨_, hT2, rfl, _, rfl⟩⟩
    have I1 : Inv X pins σ (upd H s.heap.objs.size (.tup [.int (i : Nat), x])) { s with heap := h'', toks := tk + 1 } :=
      I.turnedNew (ch := [e, it]) (fun b ob hb q => (sb.2 b (fun z => hb (by simp [z]))).trans (hk b ob (fun z => hb (by simp [z])) (fun z => hb (by simp [z])) q)) hf (Nat.le_refl _) new
    have hfr : H s.heap.objs.size = none := I.hok.fresh (Nat.le_refl _)
    refine ⟨.ref s.heap.objs.size, _, I1, rfl, ⟨_, x, rfl, hfr, rfl, fun ys hy => by rw [I.tuple_inj hy hq]; exact hx⟩, ⟨⟨y, ?_⟩, hit'.1.at fun o q => (sb.2 it (Ne.symm hne)).trans q, hne⟩, fun b hb => ?_⟩
    · have e1 : ((i + 1 : Nat) : Int) = (i : Int) + 1 := by omega
      rw [e1]
      exact he'
    · have bl : b < s.heap.objs.size := by
        rcases List.mem_cons.mp hb with rfl | hb
        · exact hel
        · rw [List.mem_singleton.mp hb]
          obtain ⟨_, z, _⟩ := hit
          exact Heap.lt_size z
      rw [upd_ne (Nat.ne_of_lt bl)]
      exact (hf b hb).1
  done := by
    intro X hP hw hK hc i pins s σ H E I hf st hg
    subst hP hw hK
    obtain ⟨⟨old, he⟩, hit, hne⟩ := st
    obtain ⟨xs, hq, hx⟩ := hg
    obtain ⟨its, rv, p, hz⟩ := I.tuple hq
    obtain ⟨f0, f1, f2, f3, f4, f5⟩ := hf it (List.mem_cons_of_mem _ List.mem_cons_self)
    have pt : s.heap.IsTuple a its.toArray := p
    have hn : its.toArray.size = i := by
      rw [List.size_toArray, ← rv.length]
      exact hx
    exact wpAny_pyNext_enum_endD (Draws.tuple (A := X.A.in1) (I.ok.hd hc) it a (iterT_ne hit pt) its.toArray) he (by rw [hn]; exact ⟨hit, pt⟩) fun h' eb => ⟨rfl, I.turned (t' := s.toks) (fun b o hb q => eb b o hb q) f0 f1 f3 f4 f5⟩
  self := fun A i s Q E st h => st.1.elim fun _ he => wpAny_pyIter_enum he h
def iEnumT (K : PySem.W.Frag) (ta : TA) : TI := fun σ H R => ta σ H fun vs H1 => ∃ a xs, vs = [.ref a] ∧ SqT K H1 a xs ∧ R (IteT K a) H1
/-- enumerate of a list or of a tuple -/
def iEnumS (K : PySem.W.Frag) (ta : TA) : TI := fun σ H R => ta σ H fun vs H1 => ∃ a xs, vs = [.ref a] ∧ ((SqL K H1 a xs ∧ R (Ite K a) H1) ∨ (SqT K H1 a xs ∧ R (IteT K a) H1))
theorem pi_enumS {X : Cx} {e : Expr} {ta : TA} {p pos tpos : Pos} {elts : List Expr} {kk : Nat} (hg : Gl X "enumerate") (hm : X.mg "enumerate" = none) (ha : PA X [e] ta) (hs : starEach [e] X.env = [(false, eval e X.env)] := by rfl) :
    PI X (.Tuple elts kk tpos) (.Call (.Name "enumerate" p) [e] [] pos) (iEnumS X.K ta) := by
  refine ⟨fun pins s σ H R I h => ?_⟩
  refine Call_ (ld_blt I hg hm boot_enumerate (PyProof.Rows.callWith_type1 (thn (ha.run pos pins s σ H _ I h) fun us s1 ⟨vs, H1, I1, r1, q1⟩ => ?_) hs rfl))
  obtain ⟨a, xs, rfl, q⟩ := q1
  obtain ⟨u, rfl, ru⟩ := r1.one
  cases ru
  have young : ∀ b, b ∈ [s1.heap.objs.size + 1, s1.heap.objs.size] → s1.heap.objs.size ≤ b := fun b hb => by
    rcases List.mem_cons.mp hb with z | z
    · rw [z]; exact Nat.le_add_right _ _
    · rw [List.mem_singleton.mp z]; exact Nat.le_refl _
  rcases q with ⟨hq, q⟩ | ⟨hq, q⟩
  · obtain ⟨its, rv, p', hz⟩ := I1.list hq
    refine MyE.call1 (begins_list a its.toArray) p'.isList fun h' he hit hk => wpAny_pyIter_enum he ?_
    exact ⟨s1.heap.objs.size + 1, [s1.heap.objs.size + 1, s1.heap.objs.size], _, _, H1, rfl, I1.kept (t' := s1.toks) hk, turn_enum a (s1.heap.objs.size + 1) s1.heap.objs.size, ⟨⟨.none, he⟩, ⟨_, hit, rfl, rfl⟩, Nat.succ_ne_self _⟩, fun b hb => I1.fpOk (young b hb) (I1.hok.fresh (young b hb)), q⟩
  · obtain ⟨its, rv, p', hz⟩ := I1.tuple hq
    refine MyE.call1 (begins_tuple a its.toArray) (show s1.heap.IsTuple a its.toArray from p') fun h' he hit hk => wpAny_pyIter_enum he ?_
    exact ⟨s1.heap.objs.size + 1, [s1.heap.objs.size + 1, s1.heap.objs.size], _, _, H1, rfl, I1.kept (t' := s1.toks) hk, turn_enumT a (s1.heap.objs.size + 1) s1.heap.objs.size, ⟨⟨.none, he⟩, ⟨_, hit, rfl, rfl⟩, Nat.succ_ne_self _⟩, fun b hb => I1.fpOk (young b hb) (I1.hok.fresh (young b hb)), q⟩
theorem walk_enumT {K : PySem.W.Frag} {a : Addr} {xs : List V} : Walk (IteT K a) xs.length (fun H => SqT K H a xs) (YPair (fun i => some (.int (i : Nat))) (fun i => xs[i]?)) := by
  refine ⟨fun i _ hi q => ⟨xs, xs[i], q, by simp [hi]⟩, fun _ q => ⟨xs, q, rfl⟩, fun i H v H' _ q y => ?_⟩
  obtain ⟨T, x, h1, h2, h3, h4⟩ := y
  exact ⟨T, .int (i : Nat), x, h1, h2, h3, rfl, h4 xs q⟩
end L2

namespace L2
open PySem
theorem SqT.extX {K : PySem.W.Frag} {H H' : Hp} {a : Addr} {xs : List V} (h : SqT K H a xs) (e : Ext H H') : SqT K H' a xs := SqT.ext h e
theorem TyX.ext {K : PySem.W.Frag} {H H' : Hp} {x : V} {t : Value} (h : TyX K H x t) (e : Ext H H') : TyX K H' x t := by
  cases h with
  | base h =>
    refine .base ?_
    cases h with
    | non => exact .non
    | bl x => exact .bl x
    | int i => exact .int i
    | str x => exact .str x
    | flt x => exact .flt x
    | lst z => exact .lst (e _ _ z)
    | frz z => exact .frz (e _ _ z)
    | tup z => exact .tup (e _ _ z)
    | dK z => exact .dK (e _ _ z)
    | dT z => exact .dT (e _ _ z)
    | ins z a b c d f => exact .ins (e _ _ z) a b c d f
  | byt b => exact .byt b
  | set z => exact .set (e _ _ z)
  | kList z c => exact .kList z c
  | kTuple z c => exact .kTuple z c
  | kDict z c => exact .kDict z c
  | fTuple z => exact .fTuple (e _ _ z)
  | fDict z => exact .fDict (e _ _ z)
/-- a place that was free may be written -/
theorem Ext.over {H H' : Hp} {D : Addr} {o : HO} (x : Ext H H') (h : H D = none) : Ext H (L2.upd H' D o) := fun a u e => by
  rw [upd_ne (ne_of_none e h)]
  exact x a u e
theorem tyx_lst {K : PySem.W.Frag} {H : Hp} {a : Addr} {xs : List V} (h : H a = some (.lst xs)) : TyX K H (.ref a) (.type "list") := .base (.lst h)
theorem tyx_tup {K : PySem.W.Frag} {H : Hp} {a : Addr} {xs : List V} (h : H a = some (.tup xs)) : TyX K H (.ref a) (.type "tuple") := .base (.tup h)
end L2
namespace My
open PySem PySem.Spec PyProof.Rows L2
theorem scIsList : FnScope ["thing"] ["thing"] (defScope sIsList) := ⟨rfl, rfl, rfl, by decide +kernel, rfl, by decide +kernel, by decide +kernel⟩
theorem scIsName : FnScope ["thing", "letter"] ["thing"] (defScope sIsName) := ⟨rfl, rfl, rfl, by decide +kernel, rfl, by decide +kernel, by decide +kernel⟩
theorem lcYes {σ : L2.St} {H : Hp} {A B : Hp → Prop} (h : A H) : tYes σ H (fun b H3 => if b = true then A H3 else B H3) := by
  show (if true = true then A H else B H)
  rw [if_pos rfl]
  exact h
def letters : Str := "abcdefghijklmnopqrstuvwxyz"
def signB (z : Str) : List Bool := z.cps.toList.map fun c => decide (c ∈ letters.cps.toList)
theorem sign_snoc {z : Str} {i c : Nat} (h : z.cps[i]? = some c) : (signB z).take i ++ [decide (c ∈ letters.cps.toList)] = (signB z).take (i + 1) := by
  have e : (signB z)[i]? = some (decide (c ∈ letters.cps.toList)) := by
    unfold signB
    rw [List.getElem?_map, Array.getElem?_toList, h]
    rfl
  rw [List.take_add_one, e]
  rfl
def nameB (z : Str) : Bool := decide ((1 : Int) ≤ z.length) && (decide ((z.length : Int) ≤ 8) && (signB z).all id)
/-- isinstance(x, (list, tuple)) -/
def spIsList (K : PySem.W.Frag) : Sp := fun vs H Q _ => ∃ x t b, vs = [x] ∧ TyX K H x t ∧ PySem.W.kitAny K t [.type "list", .type "tuple"] = some b ∧ ∀ H', Ext H H' → Q (.bl b) H'
/-- whether x is a name -/
def spIsName (K : PySem.W.Frag) : Sp := fun vs H Q _ => ∃ x, vs = [x] ∧ ((∃ z, x = .str z ∧ z.length ≤ sizeLine ∧ ∀ H', Ext H H' → Q (.bl (nameB z)) H') ∨ (∃ t, TyX K H x t ∧ PySem.W.kitOne K t (.type "str") = some false ∧ ∀ H', Ext H H' → Q (.bl false) H'))
section
variable {P : Program} {w : World} {K : PySem.W.Frag} {mg : Str → Option Value} {base : Heap} {f : Addr} {fd : FuncData}
theorem ok_isList (Fn : FnP K "is_list" sIsList f fd) (gI : mg "isinstance" = none) (gL : mg "list" = none) (gT : mg "tuple" = none) : FnOk P w K mg base CX0 1 f fd ["thing"] (spIsList K) := by
  refine Fn.ok scIsList (fun vs H Q E h => ?_) (fun cdv A outer s H vs Q E hr h => ⟨_, PSs.nox
    (pss_one (ps_ret (pe_callB call_isiT (by rfl) gI boot_isinstance (pa_cons (pv 0) (pa_cons (pe_tup (pa_cons (pe_bltn (v := .ty "list") (by rfl) gL boot_list rfl) (pa_cons (pe_bltn (v := .ty "tuple") (by rfl) gT boot_tuple rfl) pa_nil))) pa_nil))))), ?_⟩)
  · obtain ⟨x, t, b, rfl, _⟩ := h
    rfl
  · obtain ⟨x, t, b, rfl, ty, kt, q⟩ := h
    exact ⟨_, rfl, Nat.le_of_ble_eq_true rfl, fun p hp => ⟨x, p, [.ty "list", .ty "tuple"], t, _, b, rfl, upd_same, .cons (.ty _) (.cons (.ty _) .nil), ty.ext (Ext.upd hp), kt, q _ (Ext.upd hp)⟩⟩
theorem ok_isName (Fn : FnP K "is_name" sIsName f fd) (gI : mg "isinstance" = none) (gS : mg "str" = none) (gN : mg "len" = none) (gA : mg "all" = none) {t8 tL : Tok} (g8 : mg "LONGEST" = some (.int 8 t8)) (gL : mg "LETTERS" = some (.str letters tL)) :
    FnOk P w K mg base CX0 1 f fd ["thing"] (spIsName K) := by
  refine Fn.ok scIsName (fun vs H Q E h => ?_) (fun cdv A outer s H vs Q E hr h => ⟨_, PSs.nox
    (pss_cons (ps_if (PW.pt (pw_or (pt_not (pt_val (pe_callB call_isi (by rfl) gI boot_isinstance (pa_cons (pv 0) (pa_cons (pe_bltn (v := .ty "str") (by rfl) gS boot_str rfl) pa_nil)))))
        (pw_or1 (pt_not (pt_chain op_le op_le pe_int (pe_callB call_len (by rfl) gN boot_len (pa_cons (pv 0) pa_nil)) (pe_glob (v := .int 8) (by rfl) g8 ⟨_, rfl⟩)))))) (pss_one (ps_ret pe_bl)) pss_nil)
    (pss_one (ps_ret (pe_callB (cr_all rfl) (by rfl) gA boot_all (pa_cons (pe_lc (own := [("letter", 1)]) (g := gName 1) (tt := tYes) rfl scIsName.nd (pi_str (pv 0)) (blkOk_by (N := ["thing", "letter"]) (sc := defScope sIsName) (by decide +kernel))
      (fun _ _ _ _ _ => pg_name (i := 1) scIsName.nd rfl (Or.inl rfl)) (fun _ _ _ _ _ => pts_nil) (fun _ _ _ _ _ => pe_cmpR op_in_sign (pv 1) (pe_glob (v := .str letters) (by rfl) gL ⟨_, rfl⟩) (by rfl))) pa_nil))))), ?_⟩)
  · obtain ⟨x, rfl, _⟩ := h
    rfl
  · obtain ⟨x, rfl, h⟩ := h
    rcases h with ⟨z, rfl, hz, q⟩ | ⟨t, ty, kt, q⟩
    · refine ⟨_, rfl, .str z, .ty "str", .type "str", .type "str", true, rfl, .ty _, .base (.str _), kit_ty (by decide +kernel), true, rfl, ?_⟩
      refine iteF ?_
      refine ⟨_, rfl, .str z, z.length, rfl, ⟨hz, rfl⟩, _, _, rfl, rfl, _, rfl, ?_⟩
      refine ite2 (fun h1 => ?_) (fun h1 => ?_)
      · refine ⟨_, _, rfl, rfl, _, rfl, ?_⟩
        refine ite2 (fun h2 => ?_) (fun h2 => ?_)
        · have h2' : (!decide ((z.length : Int) ≤ 8)) = true := h2
          have q1 := q H Ext.rfl'
          have e : nameB z = false := by
            unfold nameB
            rw [show decide ((z.length : Int) ≤ 8) = false by simpa using h2', Bool.false_and, Bool.and_false]
          rw [e] at q1
          exact q1
        · have e2 : decide ((z.length : Int) ≤ 8) = true := by simpa using h2
          have e1 : decide ((1 : Int) ≤ z.length) = true := h1
          refine ⟨_, rfl, _, rfl, fun D hD => lc_it (walk_str (z := z)) (fun i H' => Ext H H' ∧ H' D = some (.lst (((signB z).take i).map V.bl))) ⟨Ext.upd hD, upd_same⟩ (fun _ _ _ _ => True.intro) ?_ ?_⟩
          · intro i x H1 H2 hi ⟨x1, l1⟩ hy
            obtain ⟨rfl, c, hc, rfl⟩ := hy
            refine ⟨rfl, ?_⟩
            refine lcYes ?_
            refine ⟨_, rfl, c, letters, rfl, rfl, _, l1, ?_, ?_, ?_⟩
            · rw [List.length_map, List.length_take]
              exact Nat.lt_of_le_of_lt (Nat.min_le_left _ _) (Nat.lt_of_lt_of_le hi hz)
            · exact x1.over hD
            · rw [upd_same, ← sign_snoc hc, List.map_append]
              rfl
          · intro H1 ⟨x1, l1⟩
            refine ⟨D, signB z, rfl, ?_, ?_⟩
            · have e : (signB z).take z.cps.size = signB z := by
                rw [List.take_of_length_le]
                unfold signB
                rw [List.length_map, Array.length_toList]
                exact Nat.le_refl _
              rw [e] at l1
              exact SqL.of l1
            · have e : nameB z = (signB z).all id := by
                unfold nameB
                rw [e1, e2, Bool.true_and, Bool.true_and]
              rw [← e]
              exact q H1 x1
      · have e1 : decide ((1 : Int) ≤ z.length) = false := by simpa using h1
        have e : nameB z = false := by
          unfold nameB
          rw [e1, Bool.false_and]
        have q1 := q H Ext.rfl'
        rw [e] at q1
        exact ⟨_, rfl, q1⟩
    · refine ⟨_, rfl, x, .ty "str", t, .type "str", false, rfl, .ty _, ty, kt, false, rfl, ?_⟩
      exact q _ Ext.rfl'
end
end My

namespace My
open PySem PySem.Spec PyProof.Rows L2
theorem scWrongName : FnScope ["things", "at", "thing"] ["things"] (defScope sWrongName) := ⟨rfl, rfl, rfl, by decide +kernel, rfl, by decide +kernel, by decide +kernel⟩
/-- what may be told to is_name -/
def Thing (K : PySem.W.Frag) (H : Hp) (x : V) : Prop := (∃ z, x = .str z ∧ z.length ≤ sizeLine) ∨ ((∀ z, x ≠ .str z) ∧ ∃ t, TyX K H x t ∧ PySem.W.kitOne K t (.type "str") = some false)
theorem Thing.ext {K : PySem.W.Frag} {H H' : Hp} {x : V} (h : Thing K H x) (e : Ext H H') : Thing K H' x := by
  rcases h with h | ⟨n, t, ty, k⟩
  · exact .inl h
  · exact .inr ⟨n, t, ty.ext e, k⟩
def nameV : V → Bool
  | .str z => nameB z
  | _ => false
theorem nameV_flat {x : V} (h : nameV x = true) : flatV x = true := by
  cases x <;> first | rfl | exact absurd (show false = true from h) Bool.false_ne_true
/-- the i-th is no name or stood before -/
def badAt (xs : List V) (i : Nat) : Bool := match xs[i]? with
  | some y => !nameV y || inV y (xs.take i)
  | none => false
def SeqAt2 (K : PySem.W.Frag) (H : Hp) (a : Addr) (xs : List V) : Prop := SqL K H a xs ∨ SqT K H a xs
theorem SeqAt2.ext {K : PySem.W.Frag} {H H' : Hp} {a : Addr} {xs : List V} (h : SeqAt2 K H a xs) (e : Ext H H') : SeqAt2 K H' a xs := h.elim (fun z => .inl (z.ext e)) fun z => .inr (z.ext e)
/-- the first wrong one's place | None -/
def spWrongName (K : PySem.W.Frag) : Sp := fun vs H Q _ => ∃ a xs, vs = [.ref a] ∧ SeqAt2 K H a xs ∧ (∀ y ∈ xs, Thing K H y) ∧ (∀ H', Ext H H' → (∀ i, i < xs.length → badAt xs i = false) → Q .non H') ∧
  ∀ i H', Ext H H' → i < xs.length → badAt xs i = true → (∀ j, j < i → badAt xs j = false) → Q (.int (i : Nat)) H'
theorem cut_take {xs : List V} {i : Nat} (h : i < xs.length) : cutV xs none (some ((i : Nat) : Int)) = xs.take i := by
  unfold cutV
  rw [HT.sIx_none, HT.sIx_nat, Nat.min_eq_left (Nat.le_of_lt h), Nat.sub_zero, List.drop_zero]
theorem flat_take {xs : List V} {i : Nat} (hb : ∀ j, j < i → badAt xs j = false) : (xs.take i).all flatV = true := by
  rw [List.all_eq_true]
  intro y hy
  obtain ⟨j, hj, e⟩ := List.getElem_of_mem hy
  rw [List.length_take] at hj
  have h2 : xs[j]? = some y := by
    rw [List.getElem_take] at e
    rw [← e]
    exact List.getElem?_eq_getElem _
  have h3 := hb j (Nat.lt_of_lt_of_le hj (Nat.min_le_left _ _))
  unfold badAt at h3
  rw [h2] at h3
  have h4 : nameV y = true := by
    cases h5 : nameV y with
    | true => rfl
    | false =>
      rw [show (match some y with | some y => !nameV y || inV y (xs.take j) | none => false) = (!nameV y || inV y (xs.take j)) from rfl, h5] at h3
      exact absurd h3 (by simp)
  exact nameV_flat h4
section
variable {P : Program} {w : World} {K : PySem.W.Frag} {mg : Str → Option Value} {base : Heap} {f fN : Addr} {fd fdN : FuncData}
theorem ok_wrongName (Fn : FnP K "wrong_name" sWrongName f fd) (FN : FnOk P w K mg base CX0 1 fN fdN ["thing"] (spIsName K)) (gN : mg "is_name" = some (.ref fN)) (kN : PySem.W.keepIn K (.ref fN) = true) (bN : Binds K fdN ["thing"] []) (gE : mg "enumerate" = none) :
    FnOk P w K mg base CX0 2 f fd ["things"] (spWrongName K) := by
  refine Fn.ok scWrongName (fun vs H Q E h => ?_) (fun cdv A outer s H vs Q E hr h => ⟨_, PSs.nox
    (pss_cons (ps_for PassesOwn.never rfl (pi_enumS (by rfl) gE (pa_cons (pv 0) pa_nil)) (pg_tup rfl (pgs_cons (pg_name (i := 1) scWrongName.nd rfl (Or.inl rfl)) (pgs_cons (pg_name (i := 2) scWrongName.nd rfl (Or.inl rfl)) pgs_nil)))
      (pss_one (ps_if (PW.pt (pw_or (pt_not (pt_val (pe_call FN hr (by rfl) gN kN bN .nil pass0 (pa_cons (pv 2) pa_nil))))
        (pw_or1 (pt_cmpR op_in_seq (pv 2) (pe_slice (sl_list.or sl_tupA) (pv 0) po_none (po_some (pv 1))) (by rfl))))) (pss_one (ps_ret (pv 1))) pss_nil)))
    (pss_one (ps_ret pe_non))), ?_⟩)
  · obtain ⟨a, xs, rfl, _⟩ := h
    rfl
  · obtain ⟨a, xs, rfl, sq, th, q0, q1⟩ := h
    refine ⟨_, rfl, a, xs, rfl, ?_⟩
    rcases sq with sq | sq
    · refine .inl ⟨sq, ?_⟩
      refine for_it (walk_enum (xs := xs)) (fun i σ H' => Ext H H' ∧ (∃ u v, σ = [some (.ref a), u, v]) ∧ ∀ j, j < i → badAt xs j = false) ⟨Ext.rfl', ⟨none, none, rfl⟩, fun j hj => absurd hj (Nat.not_lt_zero _)⟩ (fun i σ H' _ p => sq.ext p.1) ?_ ?_
      · intro i x σ H1 H2 hi p y
        obtain ⟨x1, ⟨u, v, rfl⟩, hb⟩ := p
        obtain ⟨T, y1, y2, rfl, hT, rfl, e1, e2⟩ := y
        cases e1
        have e2 : xs[i]? = some y2 := e2
        have x2 : Ext H (upd H1 T (.tup [.int i, y2])) := x1.upd' hT
        refine ⟨T, _, rfl, SqT.of upd_same, rfl, _, _, rfl, _, _, rfl, rfl, ?_⟩
        have hmem : y2 ∈ xs := List.mem_of_getElem? e2
        have notbad : badAt xs i = false → ∀ j, j < i + 1 → badAt xs j = false := fun h j hj => by
          rcases Nat.lt_or_eq_of_le (Nat.le_of_lt_succ hj) with z | z
          · exact hb j z
          · rw [z]; exact h
        have eb : badAt xs i = (!nameV y2 || inV y2 (xs.take i)) := by
          unfold badAt
          rw [e2]
        have bad : badAt xs i = true → ∀ H', Ext H H' → Q (.int (i : Nat)) H' := fun h H' z => q1 i H' z hi h hb
        rcases th y2 hmem with ⟨z, rfl, hz⟩ | ⟨hns, t, ty, kt⟩
        · refine ⟨_, rfl, _, rfl, .inl ⟨z, rfl, hz, fun H3 x3 => ?_⟩⟩
          refine ⟨nameB z, rfl, ?_⟩
          have x13 : Ext H H3 := x2.trans x3
          cases hn : nameB z with
          | false =>
            exact ⟨_, rfl, bad (by rw [eb]; show (!nameB z || _) = true; rw [hn]; rfl) H3 x13⟩
          | true =>
            have fl := flat_take hb
            have cont : ∀ H4, Ext H H4 → (if inV (.str z) (xs.take i) = true then (∃ v, ([some (.ref a), some (.int (i : Nat)), some (.str z)] : L2.St)[1]? = some (some v) ∧ Q v H4) else Ext H H4 ∧ (∃ u v, ([some (.ref a), some (.int (i : Nat)), some (.str z)] : L2.St) = [some (.ref a), u, v]) ∧ ∀ j, j < i + 1 → badAt xs j = false) := fun H4 x4 => by
              cases hi2 : inV (.str z) (xs.take i) with
              | true => exact ⟨_, rfl, bad (by rw [eb, hi2, Bool.or_true]) H4 x4⟩
              | false => exact ⟨x4, ⟨_, _, rfl⟩, notbad (by rw [eb, hi2]; show (!nameB z || false) = false; rw [hn]; rfl)⟩
            refine ⟨_, rfl, _, rfl, _, rfl, _, rfl, .inl ⟨a, xs, rfl, sq.ext x13, fun p hp => ?_⟩⟩
            rw [cut_take hi]
            refine ⟨p, _, rfl, .inl (SqL.of upd_same), rfl, fl, _, rfl, ?_⟩
            exact cont _ (x13.upd' hp)
        · refine ⟨_, rfl, _, rfl, .inr ⟨t, ty.ext x2, kt, fun H3 x3 => ?_⟩⟩
          refine ⟨false, rfl, ?_⟩
          exact ⟨_, rfl, bad (by
            rw [eb]
            have e : nameV y2 = false := by
              cases y2 <;> first | rfl | exact absurd rfl (hns _)
            rw [e]; rfl) H3 (x2.trans x3)⟩
      · intro σ H1 p
        exact q0 H1 p.1 p.2.2
    · refine .inr ⟨sq, ?_⟩
      refine for_it (walk_enumT (xs := xs)) (fun i σ H' => Ext H H' ∧ (∃ u v, σ = [some (.ref a), u, v]) ∧ ∀ j, j < i → badAt xs j = false) ⟨Ext.rfl', ⟨none, none, rfl⟩, fun j hj => absurd hj (Nat.not_lt_zero _)⟩ (fun i σ H' _ p => sq.ext p.1) ?_ ?_
      · intro i x σ H1 H2 hi p y
        obtain ⟨x1, ⟨u, v, rfl⟩, hb⟩ := p
        obtain ⟨T, y1, y2, rfl, hT, rfl, e1, e2⟩ := y
        cases e1
        have e2 : xs[i]? = some y2 := e2
        have x2 : Ext H (upd H1 T (.tup [.int i, y2])) := x1.upd' hT
        refine ⟨T, _, rfl, SqT.of upd_same, rfl, _, _, rfl, _, _, rfl, rfl, ?_⟩
        have hmem : y2 ∈ xs := List.mem_of_getElem? e2
        have notbad : badAt xs i = false → ∀ j, j < i + 1 → badAt xs j = false := fun h j hj => by
          rcases Nat.lt_or_eq_of_le (Nat.le_of_lt_succ hj) with z | z
          · exact hb j z
          · rw [z]; exact h
        have eb : badAt xs i = (!nameV y2 || inV y2 (xs.take i)) := by
          unfold badAt
          rw [e2]
        have bad : badAt xs i = true → ∀ H', Ext H H' → Q (.int (i : Nat)) H' := fun h H' z => q1 i H' z hi h hb
        rcases th y2 hmem with ⟨z, rfl, hz⟩ | ⟨hns, t, ty, kt⟩
        · refine ⟨_, rfl, _, rfl, .inl ⟨z, rfl, hz, fun H3 x3 => ?_⟩⟩
          refine ⟨nameB z, rfl, ?_⟩
          have x13 : Ext H H3 := x2.trans x3
          cases hn : nameB z with
          | false =>
            exact ⟨_, rfl, bad (by rw [eb]; show (!nameB z || _) = true; rw [hn]; rfl) H3 x13⟩
          | true =>
            have fl := flat_take hb
            have cont : ∀ H4, Ext H H4 → (if inV (.str z) (xs.take i) = true then (∃ v, ([some (.ref a), some (.int (i : Nat)), some (.str z)] : L2.St)[1]? = some (some v) ∧ Q v H4) else Ext H H4 ∧ (∃ u v, ([some (.ref a), some (.int (i : Nat)), some (.str z)] : L2.St) = [some (.ref a), u, v]) ∧ ∀ j, j < i + 1 → badAt xs j = false) := fun H4 x4 => by
              cases hi2 : inV (.str z) (xs.take i) with
              | true => exact ⟨_, rfl, bad (by rw [eb, hi2, Bool.or_true]) H4 x4⟩
              | false => exact ⟨x4, ⟨_, _, rfl⟩, notbad (by rw [eb, hi2]; show (!nameB z || false) = false; rw [hn]; rfl)⟩
            refine ⟨_, rfl, _, rfl, _, rfl, _, rfl, .inr ⟨a, xs, rfl, sq.ext x13, fun hw => ?_, fun _ p hp => ?_⟩⟩
            · have h2 := hw.2
              rw [HT.sIx_nat, Nat.min_eq_left (Nat.le_of_lt hi)] at h2
              exact absurd hi (by omega)
            rw [cut_take hi]
            refine ⟨p, _, rfl, .inr (SqT.of upd_same), rfl, fl, _, rfl, ?_⟩
            exact cont _ (x13.upd' hp)
        · refine ⟨_, rfl, _, rfl, .inr ⟨t, ty.ext x2, kt, fun H3 x3 => ?_⟩⟩
          refine ⟨false, rfl, ?_⟩
          exact ⟨_, rfl, bad (by
            rw [eb]
            have e : nameV y2 = false := by
              cases y2 <;> first | rfl | exact absurd rfl (hns _)
            rw [e]; rfl) H3 (x2.trans x3)⟩
      · intro σ H1 p
        exact q0 H1 p.1 p.2.2
end
end My

namespace L2
open PySem
theorem tyx_sqL {K : PySem.W.Frag} {H : Hp} {a : Addr} {xs : List V} (h : SqL K H a xs) : TyX K H (.ref a) (.type "list") := by
  rcases h with (h | ⟨o, h⟩) | ⟨o, its, n, h1, h2, _⟩
  · exact .base (.lst h)
  · exact .base (.frz h)
  · exact .kList h1 h2
theorem tyx_sqT {K : PySem.W.Frag} {H : Hp} {a : Addr} {xs : List V} (h : SqT K H a xs) : TyX K H (.ref a) (.type "tuple") := by
  rcases h with (h | ⟨o, h⟩) | ⟨o, its, n, h1, h2, _⟩
  · exact .base (.tup h)
  · exact .fTuple h
  · exact .kTuple h1 h2
end L2
namespace My
open PySem PySem.Spec PyProof.Rows L2
theorem scWrongPart : FnScope ["folders", "things", "at"] ["folders", "things"] (defScope sWrongPart) := ⟨rfl, rfl, rfl, by decide +kernel, rfl, by decide +kernel, by decide +kernel⟩
def optV : Option Nat → V
  | none => .non
  | some i => .int (i : Nat)
def wrongOf (xs : List V) : Option Nat := (List.range xs.length).find? (badAt xs)
def spWN (K : PySem.W.Frag) : Sp := fun vs H Q _ => ∃ a xs, vs = [.ref a] ∧ SeqAt2 K H a xs ∧ (∀ y ∈ xs, Thing K H y) ∧ ∀ H', Ext H H' → Q (optV (wrongOf xs)) H'
theorem wrong_none {xs : List V} (h : ∀ i, i < xs.length → badAt xs i = false) : wrongOf xs = none := List.find?_range_eq_none.mpr fun i hi => by rw [h i hi]; rfl
theorem wrong_some {xs : List V} {i : Nat} (hi : i < xs.length) (h : badAt xs i = true) (h2 : ∀ j, j < i → badAt xs j = false) : wrongOf xs = some i := List.find?_range_eq_some.mpr ⟨h, List.mem_range.mpr hi, fun j hj => by rw [h2 j hj]; rfl⟩
theorem wn_imp {K : PySem.W.Frag} (vs : List V) (H : Hp) (Q : VK) (E : XK) (h : spWN K vs H Q E) : spWrongName K vs H Q E := by
  obtain ⟨a, xs, rfl, sq, th, q⟩ := h
  refine ⟨a, xs, rfl, sq, th, fun H' x h => ?_, fun i H' x hi h h2 => ?_⟩
  · have z := q H' x
    rw [wrong_none h] at z
    exact z
  · have z := q H' x
    rw [wrong_some hi h h2] at z
    exact z
/-- a list or a tuple of things, or neither -/
def Lk (K : PySem.W.Frag) (H : Hp) (x : V) : Option (List V) → Prop
  | some xs => ∃ a, x = .ref a ∧ SeqAt2 K H a xs ∧ ∀ y ∈ xs, Thing K H y
  | none => ∃ t, TyX K H x t ∧ PySem.W.kitAny K t [.type "list", .type "tuple"] = some false
theorem Lk.ext {K : PySem.W.Frag} {H H' : Hp} {x : V} {o : Option (List V)} (h : Lk K H x o) (e : Ext H H') : Lk K H' x o := by
  cases o with
  | none =>
    obtain ⟨t, ty, k⟩ := h
    exact ⟨t, ty.ext e, k⟩
  | some xs =>
    obtain ⟨a, rfl, sq, th⟩ := h
    exact ⟨a, rfl, sq.ext e, fun y hy => (th y hy).ext e⟩
theorem Lk.kit {K : PySem.W.Frag} {H : Hp} {x : V} {o : Option (List V)} (h : Lk K H x o) : ∃ t, TyX K H x t ∧ PySem.W.kitAny K t [.type "list", .type "tuple"] = some o.isSome := by
  cases o with
  | none => exact h
  | some xs =>
    obtain ⟨a, rfl, sq, _⟩ := h
    rcases sq with sq | sq
    · exact ⟨_, tyx_sqL sq, kitAny_cons (b := true) (kit_ty (by decide +kernel)) (fun z => nomatch z) (fun _ => rfl)⟩
    · exact ⟨_, tyx_sqT sq, kitAny_cons (b := false) (kit_ty (by decide +kernel)) (fun _ => kitAny_cons (b := true) (kit_ty (by decide +kernel)) (fun z => nomatch z) (fun _ => rfl)) (fun z => nomatch z)⟩
theorem kit_no {K : PySem.W.Frag} {a : String} (h1 : kitB a "list" = some false) (h2 : kitB a "tuple" = some false) : PySem.W.kitAny K (.type a) [.type "list", .type "tuple"] = some false :=
  kitAny_cons (b := false) (kit_ty h1) (fun _ => kitAny_cons (b := false) (kit_ty h2) (fun _ => kitAny_nil) (fun z => nomatch z)) (fun z => nomatch z)
/-- BadHouse's index | None -/
def partOf (o o' : Option (List V)) : Option Nat := match o with
  | none => some 0
  | some xs => if xs.length = 0 then some 0 else match o' with
    | some ys => wrongOf (xs ++ ys)
    | none => match wrongOf xs with
      | none => some xs.length
      | some i => some i
def spWrongPart (K : PySem.W.Frag) : Sp := fun vs H Q _ => ∃ x y o o', vs = [x, y] ∧ Lk K H x o ∧ Lk K H y o' ∧ (∀ xs ys, o = some xs → o' = some ys → (xs ++ ys).length ≤ sizeLine) ∧ ∀ H', Ext H H' → Q (optV (partOf o o')) H'
section
variable {P : Program} {w : World} {K : PySem.W.Frag} {mg : Str → Option Value} {base : Heap} {f fL fW : Addr} {fd fdL fdW : FuncData}
theorem ok_wrongPart (Fn : FnP K "wrong_part" sWrongPart f fd) (FL : FnOk P w K mg base CX0 1 fL fdL ["thing"] (spIsList K)) (gL : mg "is_list" = some (.ref fL)) (kL : PySem.W.keepIn K (.ref fL) = true) (bL : Binds K fdL ["thing"] [])
    (FW : FnOk P w K mg base CX0 2 fW fdW ["things"] (spWN K)) (gW : mg "wrong_name" = some (.ref fW)) (kW : PySem.W.keepIn K (.ref fW) = true) (bW : Binds K fdW ["things"] []) (gN : mg "len" = none) :
    FnOk P w K mg base CX0 3 f fd ["folders", "things"] (spWrongPart K) := by
  refine Fn.ok scWrongPart (fun vs H Q E h => ?_) (fun cdv A outer s H vs Q E hr h => ⟨_, PSs.nox
    (pss_cons (ps_if (PW.pt (pw_or (pt_not (pt_val (pe_call FL (hr.mono (by decide)) (by rfl) gL kL bL .nil pass0 (pa_cons (pv 0) pa_nil)))) (pw_or1 (pt_cmpR op_eq (pe_callB call_len (by rfl) gN boot_len (pa_cons (pv 0) pa_nil)) pe_int (nomark _))))) (pss_one (ps_ret pe_int)) pss_nil)
    (pss_cons (ps_if (pt_val (pe_call FL (hr.mono (by decide)) (by rfl) gL kL bL .nil pass0 (pa_cons (pv 1) pa_nil))) (pss_one (ps_ret (pe_call FW hr (by rfl) gW kW bW .nil pass0 (pa_cons (pe_lst (StX.pa_star (pv 0) (StX.pa_star (pv 1) pa_nil))) pa_nil)))) pss_nil)
    (pss_cons (ps_set (i := 2) scWrongPart.nd rfl (.inl rfl) (pe_call FW hr (by rfl) gW kW bW .nil pass0 (pa_cons (pv 0) pa_nil)))
    (pss_one (ps_ret (pe_ifExp (pt_cmpR op_isN (pv 2) pe_non (nomark _)) (pe_callB call_len (by rfl) gN boot_len (pa_cons (pv 0) pa_nil)) (pv 2))))))), ?_⟩)
  · obtain ⟨x, y, o, o', rfl, _⟩ := h
    rfl
  · obtain ⟨x, y, o, o', rfl, hx, hy, hz, q⟩ := h
    obtain ⟨tx, tyx, kx⟩ := hx.kit
    refine ⟨x, rfl, x, tx, _, rfl, tyx, kx, fun H1 x1 => ?_⟩
    refine ⟨_, rfl, ?_⟩
    cases o with
    | none => exact q H1 x1
    | some xs =>
      obtain ⟨a, rfl, sq, th⟩ := hx
      have sq1 := sq.ext x1
      refine iteF ?_
      refine ⟨_, rfl, _, xs.length, rfl, ?_, rfl, _, rfl, ?_⟩
      · exact sq1.elim (fun z => .inl ⟨_, z, rfl⟩) fun z => .inr ⟨_, z, rfl⟩
      refine ite2 (fun h0 => ?_) (fun h0 => ?_)
      · have e : partOf (some xs) o' = some 0 := if_pos (by simpa using h0)
        have z := q H1 x1
        rw [e] at z
        exact z
      · have n0 : ¬ xs.length = 0 := by simpa using h0
        obtain ⟨ty, tyy, ky⟩ := (hy.ext x1).kit
        refine ⟨y, rfl, y, ty, _, rfl, tyy, ky, fun H2 x2 => ?_⟩
        refine ⟨_, rfl, ?_⟩
        have sq2 := sq1.ext x2
        have th2 : ∀ z ∈ xs, Thing K H2 z := fun z hz => ((th z hz).ext x1).ext x2
        cases o' with
        | some ys =>
          obtain ⟨b, rfl, sqy, thy⟩ := hy
          have sy2 := (sqy.ext x1).ext x2
          refine iteT ?_
          refine ⟨_, rfl, a, xs, rfl, sq2.symm, _, rfl, b, ys, rfl, sy2.symm, ?_⟩
          have hlen := hz xs ys rfl rfl
          refine ⟨(show (xs ++ (ys ++ [])).length ≤ sizeLine by rw [List.append_nil]; exact hlen), fun p hp => ⟨p, xs ++ ys, rfl, .inl (SqL.of (by rw [upd_same, List.append_nil])), fun z hz => ?_, fun H3 x3 => ?_⟩⟩
          · refine Thing.ext ?_ (Ext.upd hp)
            rcases List.mem_append.mp hz with hz | hz
            · exact th2 z hz
            · exact ((thy z hz).ext x1).ext x2
          · have e : partOf (some xs) (some ys) = wrongOf (xs ++ ys) := if_neg n0
            rw [← e]
            exact q H3 (((x1.trans x2).upd' hp).trans x3)
        | none =>
          refine iteF ?_
          refine ⟨_, rfl, a, xs, rfl, sq2, th2, fun H3 x3 => ?_⟩
          have z := q H3 ((x1.trans x2).trans x3)
          refine ⟨_, rfl, rfl, _, rfl, ?_⟩
          cases hw : wrongOf xs with
          | none =>
            have e : partOf (some xs) none = some xs.length := by
              show (if xs.length = 0 then some 0 else match wrongOf xs with | none => some xs.length | some i => some i) = _
              rw [if_neg n0, hw]
            rw [e] at z
            refine iteT ?_
            exact ⟨_, rfl, _, xs.length, rfl, (sq2.ext x3).elim (fun z => .inl ⟨_, z, rfl⟩) (fun z => .inr ⟨_, z, rfl⟩), z⟩
          | some i =>
            have e : partOf (some xs) none = some i := by
              show (if xs.length = 0 then some 0 else match wrongOf xs with | none => some xs.length | some i => some i) = _
              rw [if_neg n0, hw]
            rw [e] at z
            refine iteF ?_
            exact ⟨_, rfl, z⟩
end
end My

namespace My
open PySem PySem.Spec PyProof.Rows L2
theorem scHInit : FnScope ["self", "folders", "things", "at"] ["self", "folders", "things"] (defScope sHInit) := ⟨rfl, rfl, rfl, by decide +kernel, rfl, by decide +kernel, by decide +kernel⟩
theorem scHLen : FnScope ["self"] ["self"] (defScope sHLen) := ⟨rfl, rfl, rfl, by decide +kernel, rfl, by decide +kernel, by decide +kernel⟩
theorem scHHas : FnScope ["self", "x"] ["self", "x"] (defScope sHHas) := ⟨rfl, rfl, rfl, by decide +kernel, rfl, by decide +kernel, by decide +kernel⟩
theorem scHIter : FnScope ["self"] ["self"] (defScope sHIter) := ⟨rfl, rfl, rfl, by decide +kernel, rfl, by decide +kernel, by decide +kernel⟩
theorem scHEq : FnScope ["self", "other"] ["self", "other"] (defScope sHEq) := ⟨rfl, rfl, rfl, by decide +kernel, rfl, by decide +kernel, by decide +kernel⟩
/-- a house stands at a: its folders, its things -/
def HouseAt (H : Hp) (K : PySem.W.Frag) (C a : Addr) (fo th : List V) : Prop := ∃ dx fs f t n, H a = some (.ins C dx fs) ∧ fs.lookup ("folders" : Str) = some (V.ref f) ∧ fs.lookup ("things" : Str) = some (V.ref t) ∧ fs.lookup ("nodes" : Str) = some (V.ref n) ∧
  SqT K H f fo ∧ SqT K H t th ∧ SqT K H n (fo ++ th)
theorem HouseAt.ext {H H' : Hp} {K : PySem.W.Frag} {C a : Addr} {fo th : List V} (h : HouseAt H K C a fo th) (e : Ext H H') : HouseAt H' K C a fo th := by
  obtain ⟨dx, fs, f, t, n, h1, h2, h3, h4, h5, h6, h7⟩ := h
  exact ⟨dx, fs, f, t, n, e _ _ h1, h2, h3, h4, h5.ext e, h6.ext e, h7.ext e⟩
/-- what the written part says of the class -/
structure HouC (K : PySem.W.Frag) (C : Addr) : Prop where
  cl : Cls K C
  nf : NoAttr K C "folders"
  nt : NoAttr K C "things"
  nn : NoAttr K C "nodes"
  ha : PySem.W.findIn K (.ref C) "__class__" = some (some (.builtin "object.__class__"))
  hn : PySem.W.specialIn K (.builtin "object.__class__") "__get__" = some (some (.builtin "getset_descriptor.__get__"))
  htk : PySem.W.takesIn K (.builtin "object.__class__") = some true
  hm : PySem.W.mroIn K C (.type "object") = some true
/-- all but what stands at a stays -/
def But (H H' : Hp) (a : Addr) : Prop := ∀ b u, b ≠ a → H b = some u → H' b = some u
theorem ext_but {H H' : Hp} {a : Addr} (e : Ext H H') : But H H' a := fun b u _ k => e b u k
theorem But.trans {H H1 H2 : Hp} {a : Addr} (x : But H H1 a) (y : But H1 H2 a) : But H H2 a := fun b u n k => y b u n (x b u n k)
theorem But.upd {H H1 : Hp} {a : Addr} {o : HO} (x : But H H1 a) : But H (L2.upd H1 a o) a := fun b u n k => by
  rw [upd_ne n]
  exact x b u n k
theorem sqT_but {K : PySem.W.Frag} {H H' : Hp} {a C dx f : Addr} {fs : List (Str × V)} {xs : List V} (h : SqT K H f xs) (b : But H H' a) (ha : H a = some (.ins C dx fs)) : SqT K H' f xs := by
  rcases h with (h | ⟨o, h⟩) | h
  · exact .inl (.inl (b _ _ (ne_of h ha (fun z => nomatch z)) h))
  · exact .inl (.inr ⟨o, b _ _ (ne_of h ha (fun z => nomatch z)) h⟩)
  · exact .inr h
theorem sqL_but {K : PySem.W.Frag} {H H' : Hp} {a C dx f : Addr} {fs : List (Str × V)} {xs : List V} (h : SqL K H f xs) (b : But H H' a) (ha : H a = some (.ins C dx fs)) : SqL K H' f xs := by
  rcases h with (h | ⟨o, h⟩) | h
  · exact .inl (.inl (b _ _ (ne_of h ha (fun z => nomatch z)) h))
  · exact .inl (.inr ⟨o, b _ _ (ne_of h ha (fun z => nomatch z)) h⟩)
  · exact .inr h
/-- tuple(a) -/
theorem tup_of {K : PySem.W.Frag} {H : Hp} {a : Addr} {xs : List V} {Q : VK} (sq : SeqAt2 K H a xs) (q : ∀ t H', Ext H H' → SqT K H' t xs → Q (.ref t) H') :
    ∃ p ys, [V.ref a] = [.ref p] ∧ ((SqL K H p ys ∧ ∀ l, H l = none → Q (.ref l) (L2.upd H l (.tup ys))) ∨ (SqT K H p ys ∧ Q (.ref p) H)) := by
  rcases sq with sq | sq
  · exact ⟨a, xs, rfl, .inl ⟨sq, fun l hl => q l _ (Ext.upd hl) (SqT.of upd_same)⟩⟩
  · exact ⟨a, xs, rfl, .inr ⟨sq, q a H Ext.rfl' sq⟩⟩
/-- a + b, tuples -/
theorem cat_of {K : PySem.W.Frag} {H : Hp} {a b : Addr} {xs ys : List V} {Q : VK} (h1 : SqT K H a xs) (h2 : SqT K H b ys) (hz : (xs ++ ys).length ≤ sizeLine) (q : ∀ t H', Ext H H' → SqT K H' t (xs ++ ys) → Q (.ref t) H') : rCatA K (.ref a) (.ref b) H Q := by
  refine ⟨a, b, xs, ys, rfl, rfl, h1, h2, by rw [← List.length_append]; exact hz, fun e => ?_, fun _ e => ?_, fun _ _ p hp => q p _ (Ext.upd hp) (SqT.of upd_same)⟩
  · subst e
    exact q b H Ext.rfl' h2
  · subst e
    exact q a H Ext.rfl' (by rw [List.append_nil]; exact h1)
def rTup (K : PySem.W.Frag) : List V → Hp → VK → Prop := fun xs H Q => ∃ a zs, xs = [.ref a] ∧ SeqAt2 K H a zs ∧ ∀ t H', Ext H H' → SqT K H' t zs → Q (.ref t) H'
theorem call_tup {X : Cx} : CallR X (.type "tuple") (rTup X.K) := by
  intro pins s σ H xs us Q I rv h
  obtain ⟨a, zs, rfl, sq, q⟩ := h
  exact call_tuple_of pins s σ H _ us Q I rv (tup_of sq q)
def rCat (K : PySem.W.Frag) : R2 := fun x y H Q => ∃ a b xs ys, x = .ref a ∧ y = .ref b ∧ SqT K H a xs ∧ SqT K H b ys ∧ (xs ++ ys).length ≤ sizeLine ∧ ∀ t H', Ext H H' → SqT K H' t (xs ++ ys) → Q (.ref t) H'
theorem op_cat {X : Cx} : OpR X (binaryOp .Add) (rCat X.K) := by
  intro pins s σ H x y v u Q I rx ry h
  obtain ⟨a, b, xs, ys, rfl, rfl, h1, h2, hz, q⟩ := h
  exact op_catA pins s σ H _ _ v u Q I rx ry (cat_of h1 h2 hz q)
/-- House.__init__ -/
def spHInit (K : PySem.W.Frag) (C CB : Addr) : Sp := fun vs H Q E => ∃ a dx x y o o', vs = [.ref a, x, y] ∧ H a = some (.ins C dx []) ∧ Lk K H x o ∧ Lk K H y o' ∧ (∀ xs ys, o = some xs → o' = some ys → (xs ++ ys).length ≤ sizeLine) ∧
  (∀ xs ys H', o = some xs → o' = some ys → partOf o o' = none → But H H' a → HouseAt H' K C a xs ys → Q .non H') ∧
  ∀ i d H', partOf o o' = some i → Ext H H' → H d = none → H' d = some (.xd [(("index" : Str), V.int (i : Nat))]) → E (.ref CB) (some d) H'
theorem part_some {o o' : Option (List V)} (h : partOf o o' = none) : ∃ xs ys, o = some xs ∧ o' = some ys := by
  cases o with
  | none => cases h
  | some xs =>
    cases o' with
    | some ys => exact ⟨xs, ys, rfl, rfl⟩
    | none =>
      unfold partOf at h
      split at h
      · cases h
      · rename_i z
        cases z
        split at h
        · cases h
        · split at h
          · rename_i z
            cases z
          · split at h <;> cases h
section
variable {P : Program} {w : World} {K : PySem.W.Frag} {mg : Str → Option Value} {base : Heap} {f fW C CB : Addr} {fd fdW : FuncData} {dvs : List V}
theorem ok_hInit (Fn : FunD K "__init__" "House.__init__" (defArgs sHInit) (defBody sHInit) (defScope sHInit) dvs [] f fd) (T : HouC K C) (FW : FnOk P w K mg base CX0 3 fW fdW ["folders", "things"] (spWrongPart K)) (gW : mg "wrong_part" = some (.ref fW)) (kW : PySem.W.keepIn K (.ref fW) = true) (bW : Binds K fdW ["folders", "things"] [])
    (EB : Er P w K mg base "BadHouse" "index" CB) (gT : mg "tuple" = none) :
    FnOk P w K mg base (L2.CX P w) 4 f fd ["self", "folders", "things"] (spHInit K C CB) := by
  obtain ⟨fI, fdI, TB, FB, bB, _⟩ := EB
  refine Fn.ok scHInit (fun vs H Q E h => ?_) (fun cdv A outer s H vs Q E hr h => ⟨_,
    (pss_cons (ps_set (i := 3) scHInit.nd rfl (.inl rfl) (pe_call FW hr (by rfl) gW kW bW .nil pass0 (pa_cons (pv 1) (pa_cons (pv 2) pa_nil))))
    (pss_cons (ps_if (pt_cmpR op_notN (pv 3) pe_non (nomark _)) (pss_one (ps_raise rfl (takes_of rfl rfl rfl rfl) (pmk_oex TB.oex TB.iC TB.tI FB (hr.mono (by decide)) bB .nil pass0 (by rfl) TB.gl (pa_cons (pv 3) pa_nil)))) pss_nil)
    (pss_cons (ps_fld (pv 0) (pe_callTy call_tup (by rfl) gT (by decide +kernel) (pa_cons (pv 1) pa_nil)) rfl)
    (pss_cons (ps_fld (pv 0) (pe_callTy call_tup (by rfl) gT (by decide +kernel) (pa_cons (pv 2) pa_nil)) rfl)
    (pss_one (ps_fld (pv 0) (pe_op op_cat (pe_fld (pv 0) rfl) (pe_fld (pv 0) rfl)) rfl)))))), ?_⟩)
  · obtain ⟨a, dx, x, y, o, o', rfl, _⟩ := h
    rfl
  · obtain ⟨a, dx, x, y, o, o', rfl, ha, hx, hy, hz, qn, qe⟩ := h
    refine ⟨_, rfl, _, rfl, x, y, o, o', rfl, hx, hy, hz, fun H1 x1 => ?_⟩
    refine ⟨_, rfl, rfl, _, rfl, ?_⟩
    cases hp : partOf o o' with
    | some i =>
      refine iteT ?_
      refine ⟨_, rfl, Nat.le_of_ble_eq_true rfl, fun e he => ?_⟩
      refine ⟨e, _, rfl, upd_same, fun d hd ne => ⟨rfl, d, [("index", optV (some i))], upd_same, ?_, ?_, ?_⟩⟩
      · rw [upd_ne ne, upd_same]
      · rw [upd_ne ne] at hd
        exact hd
      · rw [upd_ne ne] at hd
        refine qe i d _ hp (fun b u k => ?_) ?_ upd_same
        · have k1 := x1 b u k
          rw [upd_ne (ne_of_none k1 hd), del_ne (ne_of_none k1 he), upd_ne (ne_of_none k1 he), upd_ne (ne_of_none k1 hd), upd_ne (ne_of_none k1 he)]
          exact k1
        · cases hh : H d with
          | none => rfl
          | some u => exact absurd (x1 d u hh) (by rw [hd]; exact fun z => nomatch z)
    | none =>
      refine iteF ?_
      obtain ⟨xs, ys, rfl, rfl⟩ := part_some hp
      obtain ⟨ax, rfl, sqx, _⟩ := hx
      obtain ⟨ay, rfl, sqy, _⟩ := hy
      have hz' := hz xs ys rfl rfl
      refine ⟨_, rfl, ax, xs, rfl, sqx.ext x1, fun t2 H2 x2 s2 => ?_⟩
      have a2 : H2 a = some (.ins C dx []) := x2 _ _ (x1 _ _ ha)
      refine ⟨_, rfl, a, C, dx, _, rfl, a2, T.cl, T.nf, Nat.le_of_ble_eq_true rfl, ?_⟩
      obtain ⟨H3, hH3⟩ : ∃ H3, H3 = L2.upd H2 a (.ins C dx (putF "folders" (.ref t2) [])) := ⟨_, rfl⟩
      rw [← hH3]
      have a3 : H3 a = some (.ins C dx (putF "folders" (.ref t2) [])) := by rw [hH3, upd_same]
      have b3 : But H2 H3 a := by
        rw [hH3]
        exact But.upd (ext_but Ext.rfl')
      have b03 : But H H3 a := (ext_but (x1.trans x2)).trans b3
      have sqy3 : SeqAt2 K H3 ay ys := sqy.elim (fun z => .inl (sqL_but z b03 ha)) fun z => .inr (sqT_but z b03 ha)
      refine ⟨_, rfl, ay, ys, rfl, sqy3, fun t4 H4 x4 s4 => ?_⟩
      refine ⟨_, rfl, a, C, dx, _, rfl, x4 _ _ a3, T.cl, T.nt, Nat.le_of_ble_eq_true rfl, ?_⟩
      obtain ⟨H5, hH5⟩ : ∃ H5, H5 = L2.upd H4 a (.ins C dx (putF "things" (.ref t4) (putF "folders" (.ref t2) []))) := ⟨_, rfl⟩
      rw [← hH5]
      have a5 : H5 a = some (.ins C dx (putF "things" (.ref t4) (putF "folders" (.ref t2) []))) := by rw [hH5, upd_same]
      have b5 : But H4 H5 a := by
        rw [hH5]
        exact But.upd (ext_but Ext.rfl')
      have s2' : SqT K H5 t2 xs := sqT_but (sqT_but s2 (b3.trans (ext_but x4)) a2) b5 (x4 _ _ a3)
      have s4' : SqT K H5 t4 ys := sqT_but s4 b5 (x4 _ _ a3)
      refine ⟨_, rfl, a, C, dx, _, _, rfl, a5, T.cl, T.nf, rfl, _, rfl, a, C, dx, _, _, rfl, a5, T.cl, T.nt, rfl, t2, t4, xs, ys, rfl, rfl, s2', s4', hz', fun t6 H6 x6 s6 => ?_⟩
      refine ⟨_, rfl, a, C, dx, _, rfl, x6 _ _ a5, T.cl, T.nn, Nat.le_of_ble_eq_true rfl, ?_⟩
      obtain ⟨H7, hH7⟩ : ∃ H7, H7 = L2.upd H6 a (.ins C dx (putF "nodes" (.ref t6) (putF "things" (.ref t4) (putF "folders" (.ref t2) [])))) := ⟨_, rfl⟩
      rw [← hH7]
      have b7 : But H6 H7 a := by
        rw [hH7]
        exact But.upd (ext_but Ext.rfl')
      have a6 := x6 _ _ a5
      refine qn xs ys H7 rfl rfl hp (((b03.trans (ext_but x4)).trans b5).trans ((ext_but x6).trans b7)) ?_
      exact ⟨dx, _, t2, t4, t6, by rw [hH7, upd_same], rfl, rfl, rfl, sqT_but (s2'.ext x6) b7 a6, sqT_but (s4'.ext x6) b7 a6, sqT_but s6 b7 a6⟩
end
end My

namespace PySem
namespace MyN
open PySem.W Builtin PySem.SeqAt PySem.MeetsSeq MeetsSeq2
open AutoSeq1 (wpAny_loadPart')
/-- str.__eq__ with an object that holds no text -/
theorem str_no_plain (b : Str) (u : Tok) (l : Addr) (ob : Obj) (hd : ob.data = .plain) :
    Meets (Builtin.«str.__eq__» ⟨[.str b u, .ref l], []⟩) (fun _ R s => s.heap.get? l = some ob ∧ R (.ok (.ret .notImplemented)) s) :=
  .of_wp fun P1 w1 A1 R1 s1 z => by
    obtain ⟨hp, gs, dr, tk, oz⟩ := s1
    obtain ⟨z1, z2⟩ := z
    obtain ⟨oc, od, dt, sl⟩ := ob
    simp only at hd
    subst hd
    wp_walk using wpAny_loadPart' z1, wpAny_load z1
    exact ⟨_, rfl, z2⟩
theorem str_no_dict (b : Str) (u : Tok) (l : Addr) (ob : Obj) (es : Array DictEntry) (ep : Nat) (hd : ob.data = .dict es ep) :
    Meets (Builtin.«str.__eq__» ⟨[.str b u, .ref l], []⟩) (fun _ R s => s.heap.get? l = some ob ∧ R (.ok (.ret .notImplemented)) s) :=
  .of_wp fun P1 w1 A1 R1 s1 z => by
    obtain ⟨hp, gs, dr, tk, oz⟩ := s1
    obtain ⟨z1, z2⟩ := z
    obtain ⟨oc, od, dt, sl⟩ := ob
    simp only at hd
    subst hd
    wp_walk using wpAny_loadPart' z1, wpAny_load z1
    exact ⟨_, rfl, z2⟩
/-- dict.__eq__ with a text -/
theorem dict_no_str (b : Str) (u : Tok) (l : Addr) (ob : Obj) (hc : ob.cls = .type "dict") :
    Meets (Builtin.«dict.__eq__» ⟨[.ref l, .str b u], []⟩) (fun _ R s => s.heap.get? l = some ob ∧ R (.ok (.ret .notImplemented)) s) :=
  .of_wp fun P1 w1 A1 R1 s1 z => by
    obtain ⟨hp, gs, dr, tk, oz⟩ := s1
    obtain ⟨z1, z2⟩ := z
    obtain ⟨oc, od, dt, sl⟩ := ob
    simp only at hc
    subst hc
    have f1 := F.sub_str_dict
    wp_walk using wpAny_loadPart' z1, wpAny_load z1
    exact ⟨_, rfl, z2⟩
theorem eq_str_dict {A : Around} {s : Shared} {l : Addr} {ob : Obj} {es : Array DictEntry} {ep : Nat} (b : Str) (u : Tok) (hl : s.heap.get? l = some ob) (hc : ob.cls = .type "dict") (hd : ob.data = .dict es ep) (hu : A.units < cLine) : EqAt A s (.str b u) (.ref l) false := fun prog w E Q h => by
  unfold eqBool
  refine wpAny_holding ?_
  refine wpAny_ite_split (fun hab => absurd (eq_of_beq hab) nofun) (fun _ => ?_)
  refine wpAny_bind (rc_eq_decline_or (k := false) (typeIs_str s b u) ⟨_, hl, hc⟩ (by decide) F.sub_dict_str F.slot_str_eq F.slot_dict_eq_refl
    (fun _ hq => call_meets F.slot_str_eq (typeIs_str s b u) F.entry_str_eq (F.args_str_eq_2 _ _) (str_no_dict b u l ob es ep hd) ⟨hl, hq⟩)
    (fun _ hq => call_meets F.slot_dict_eq_refl ⟨_, hl, hc⟩ F.entry_dict_eq (F.args_dict_eq_2 _ _) (dict_no_str b u l ob hc) ⟨hl, hq⟩)
    (fun _ hq => wpAny_of_eq (rfl : isSame (.str b u) (.ref l) = pure false) hq) (.inr hu) (wpAny_truthy_bool h))
section
variable {prog : Program} {w : World} {A : Around} {E : Value → Shared → Prop} {s : Shared} {K : Frag} {x C f : Addr} {ox : Obj} {od : Option Obj}
/-- text == x, x an instance with its own __eq__: that one is asked -/
theorem eqb_str_own {b : Str} {u : Tok} {Q : Bool → Shared → Prop} (hu : A.units < cLine) (X : K.In s.heap) (I : InstAt s.heap x ox C od) (hp : ox.data = .plain) (nf : subIn K (.ref C) (.type "str") = some false)
    (hs : findIn K (.ref C) "__eq__" = some (some (.ref f))) (hf : isFn K (.ref f) = true)
    (h : wpAny (model prog w) A (call (.ref f) [.ref x, .str b u]) (fun r s' => ∃ k, r = .bool k ∧ Q k s') E s) : wpAny (model prog w) A (eqBool (.str b u) (.ref x)) Q E s := by
  have hx : s.heap.get? x = some ox := I.1
  have one : wpAny (model prog w) A (tryCompare (.ref x) "__eq__" (.str b u)) (fun r s' => ∃ k, r = some (.bool k) ∧ Q k s') E s := by
    unfold tryCompare
    refine wpAny_bind (ifBound_K X I hs hf (wpAny_mono h (fun v s' hv => ?_) fun _ _ e => e))
    obtain ⟨k, rfl, q⟩ := hv
    exact wpAny_pure ⟨k, rfl, q⟩
  unfold eqBool
  refine wpAny_holding ?_
  refine wpAny_ite_split (fun hab => absurd (eq_of_beq hab) nofun) (fun _ => ?_)
  refine wpAny_bind ?_
  have z := (typeIs_str s b u)
  simp only [richCompare, z.oneThing_none]
  refine wpAny_holding (wpAny_bind (wpAny_cRoomFor_or (.inr hu) ?_))
  refine wpAny_bind (wpAny_typeOf z (wpAny_bind (I.type.here ?_)))
  have ne : (Value.type "str" != Value.ref C) = true := rfl
  simp only [ne, if_true]
  refine wpAny_bind ((looks_subIn X nf).here ?_)
  simp only [Bool.false_eq_true, if_false, Bool.not_false, if_true]
  refine wpAny_bind (m := tryCompare (.str b u) _ (.ref x)) (wpAny_tryCompare_declines z F.slot_str_eq (call_meets F.slot_str_eq z F.entry_str_eq (F.args_str_eq_2 _ _) (str_no_plain b u x ox hp) ⟨hx, rfl, ?_⟩))
  refine wpAny_bind (m := tryCompare (.ref x) _ (.str b u)) (wpAny_mono one (fun r s' hr => ?_) fun _ _ e => e)
  obtain ⟨k, rfl, q⟩ := hr
  exact wpAny_pure (wpAny_truthy_bool q)
/-- x in a tuple, none of the items is equal to x; I stands all along -/
theorem in_none {l : Addr} {items : Array Value} {y : Value} {Q : Value → Shared → Prop} (J : Shared → Prop) (hl : s.heap.IsTuple l items)
    (turn : ∀ v, v ∈ items → ∀ s', J s' → wpAny (model prog w) A.in1 (eqBool v y) (fun r s2 => r = false ∧ J s2) E s') (fin : ∀ s', J s' → Q (.bool false) s') (h : J s) :
    wpAny (model prog w) A (compareOp .In y (.ref l)) Q E s := by
  obtain ⟨⟨cls, dd, data, sl⟩, ho, hc, n, hd⟩ := id hl
  simp only at hc hd
  subst hc hd
  have hT : s.TypeIs (.ref l) "tuple" := ⟨_, ho, rfl⟩
  have body : wpAny (model prog w) A (call (.builtin "tuple.__contains__") [.ref l, y]) (fun v s' => v = .bool false ∧ J s') E s := by
    refine GQ.call_here F.slot_tuple_contains hT F.entry_tuple_contains (F.args_tuple_contains_2 _ _) ?_
    obtain ⟨hp, gs, dr, tk, oz⟩ := s
    have go : ∀ v, v ∈ items.toList → ∀ s', J s' → wpAny (model prog w) A.in1 (eqBool v y) (fun r s2 => r = false ∧ J s2) (fun e s' => wants (fun v s' => v = Value.bool false ∧ J s') E (.error e) s') s' := fun v hv s' hj => turn v (by simpa using hv) s' hj
    wp_walk using wpAny_loadPart' ho, wpAny_forIn_array _ (fun rest b s' => b.1 = none ∧ (∀ v, v ∈ rest → v ∈ items.toList) ∧ J s') _
    case turn =>
      rintro v rest b s' ⟨hb, hmem, hJ⟩
      refine wpAny_bind (wpAny_mono (go v (hmem v (List.mem_cons_self ..)) s' hJ) (fun r s2 q => ?_) fun _ _ e => e)
      obtain ⟨rfl, hJ2⟩ := q
      wp_walk
      exact ⟨rfl, fun z hz => hmem z (List.mem_cons_of_mem _ hz), hJ2⟩
    case fin =>
      rintro ⟨b1, b2⟩ s' ⟨hb, -, hJ⟩
      simp only at hb
      subst hb
      wp_walk
      exact ⟨rfl, hJ⟩
    case h =>
      exact ⟨rfl, fun v hv => by simpa using hv, h⟩
  show wpAny _ A (do return .bool (← contains (.ref l) y)) Q E s
  refine wpAny_bind (wpAny_contains_slot hT F.slot_tuple_contains (wpAny_mono body (fun v s' hv => ?_) fun _ _ e => e))
  obtain ⟨rfl, hJ⟩ := hv
  exact wpAny_truthy_bool (wpAny_pure (fin s' hJ))
end
end MyN
end PySem

namespace L2
open PySem PySem.Spec PyProof.Rows
section
variable {X : Cx} {CI : CXT} {f : Addr} {fd : FuncData} {ps : List Str} {sp : Sp} {EI : XK} {n : Nat} {C : Addr}
/-- a list, a tuple or a dict -/
def NoText (K : PySem.W.Frag) (H : Hp) (x : V) : Prop := (∃ a xs, x = .ref a ∧ (SqL K H a xs ∨ SqT K H a xs)) ∨ ∃ a kvs, x = .ref a ∧ H a = some (.dK kvs)
theorem NoText.eqAt {pins : List (Addr × Obj)} {σ : St} {H : Hp} {s : Shared} {A : Around} {x : V} {u : Value} (I : Inv X pins σ H s) (rx : RelV x u) (h : NoText X.K H x) (hu : A.units < cLine) (b : Str) (t : Tok) : SeqAt.EqAt A s (.str b t) u false := by
  rcases h with ⟨a, xs, rfl, h | h⟩ | ⟨a, kvs, rfl, h⟩
  · cases rx
    obtain ⟨its, r, pl, _⟩ := I.list h
    exact SeqAt.EqAt.str_list b t pl.isList hu
  · cases rx
    obtain ⟨its, r, pl, _⟩ := I.tuple h
    exact SeqAt.EqAt.str_tuple b t (show s.heap.IsTuple a its.toArray from pl) hu
  · cases rx
    obtain ⟨_, _, vs, _, o, es, ep, h1, h2, h3, _⟩ := (show ObjOk X.prog X.w H s.heap a (.dK kvs) from I.hok a _ h)
    exact MyN.eq_str_dict b t h1 h2.1 h3 hu
theorem vals_str : ∀ {zs : List Str} {us : List Value}, Vals (zs.map V.str) us → ∀ u ∈ us, ∃ z t, z ∈ zs ∧ u = .str z t
  | [], _, .nil, u, hu => by cases hu
  | z :: zs, _, .cons r t, u, hu => by
    rcases List.mem_cons.mp hu with rfl | hu
    · obtain ⟨t, e⟩ := r
      exact ⟨z, t, List.mem_cons_self, e⟩
    · obtain ⟨z', t', h1, h2⟩ := vals_str t u hu
      exact ⟨z', t', List.mem_cons_of_mem _ h1, h2⟩
/-- x in a tuple of texts, x a list, a tuple, a dict -/
def rInN (K : PySem.W.Frag) : R2 := fun x y H Q => ∃ (p : Addr) (zs : List Str), y = .ref p ∧ SqT K H p (zs.map V.str) ∧ NoText K H x ∧ Q (.bl false) H
theorem op_inN (hu : X.A.units + 1 < cLine) : OpR X (compareOp .In) (rInN X.K) := by
  intro pins s σ H x y v u Q I rx ry h
  obtain ⟨p, zs, rfl, hq, nt, q⟩ := h
  cases ry
  obtain ⟨its, r, pl, hz⟩ := I.tuple hq
  refine SeqAt.in_tupleAt (fun _ => false) (show s.heap.IsTuple p its.toArray from pl) (fun w hw => ?_) ⟨.bl _, H, I, rfl, ?_⟩
  · obtain ⟨z, t, _, rfl⟩ := vals_str r w (by simpa using hw)
    exact nt.eqAt I rx (show X.A.in1.units < cLine from hu) z t
  · rw [show its.toArray.any (fun _ => false) = false by simp]
    exact q
/-- x in a tuple of texts, x an instance with its own == that gives False for them -/
def rInI (K : PySem.W.Frag) (C : Addr) (sp : Sp) (E : XK) : R2 := fun x y H Q => ∃ (p : Addr) (zs : List Str) (a dx : Addr) (fs : List (Str × V)), y = .ref p ∧ SqT K H p (zs.map V.str) ∧ x = .ref a ∧ H a = some (.ins C dx fs) ∧
  (∀ z H1, z ∈ zs → Ext H H1 → sp [.ref a, .str z] H1 (fun v H2 => v = .bl false ∧ Ext H1 H2) E) ∧ ∀ H', Ext H H' → Q (.bl false) H'
theorem op_inI (hr : Room (n + 1) X.A) (M : OwnM X.K C "__eq__" f) (nf : PySem.W.subIn X.K (.ref C) (.type "str") = some false) (F : FnOk X.prog X.w X.K X.mg X.base CI n f fd ps sp) (hb : Binds X.K fd ps []) (hx : Passes CI X EI) : OpR X (compareOp .In) (rInI X.K C sp EI) := by
  intro pins s σ H x y v u Q I rx ry h
  obtain ⟨p, zs, a, dx, fs, rfl, hq, rfl, ha, hsp, q⟩ := h
  cases ry
  cases rx
  obtain ⟨its, r, pl, hz⟩ := I.tuple hq
  have sb : Sub X n X.A.in1 := Sub.in1 (⟨hr, rfl⟩ : Sub X (n + 1) X.A)
  refine MyN.in_none (fun s' => ∃ H', Inv X pins σ H' s' ∧ Ext H H') (show s.heap.IsTuple p its.toArray from pl) (fun w hw s' hJ => ?_) (fun s' hJ => ?_) ⟨H, I, Ext.rfl'⟩
  · obtain ⟨z, t, hz, rfl⟩ := vals_str r w (by simpa using hw)
    obtain ⟨H', I', x'⟩ := hJ
    have ha' := x' _ _ ha
    obtain ⟨mA, J, _⟩ := ins_get I'.hok ha'
    obtain ⟨od, J, _⟩ := J.look
    refine MyN.eqb_str_own sb.room.units0 I'.kIn J rfl nf M.at_ M.fn ?_
    refine wpAny_mono (run_sub sb F (envSub I' sb) hb hx I' (rv2 a (y := .str z) (u := .str z t) ⟨t, rfl⟩) (hsp z H' hz x')) (fun w2 s2 hq2 => ?_) fun _ _ z => z
    obtain ⟨y2, H2, I2, rz, rfl, x2⟩ := hq2
    cases rz
    exact ⟨false, rfl, rfl, H2, I2, x'.trans x2⟩
  · obtain ⟨H', I', x'⟩ := hJ
    exact ⟨.bl false, H', I', rfl, q H' x'⟩
end
end L2

namespace My
open PySem PySem.Spec PyProof.Rows L2
/-! ### tuples and lists of texts as data -/
theorem dpAll_str {K : PySem.W.Frag} {H : Hp} : ∀ zs : List Str, DpAll K H (zs.map V.str) (zs.map PyData.str)
  | [] => .nil
  | z :: zs => .cons (.str z) (dpAll_str zs)
def OkS (zs : List Str) : Prop := ∀ z, z ∈ zs → PyData.strOk z = true
theorem canLay_str : ∀ zs : List Str, OkS zs → PyData.canLayAll0 (zs.map PyData.str) = true
  | [], _ => rfl
  | z :: zs, h => by
    show (PyData.strOk z && PyData.canLayAll0 (zs.map PyData.str)) = true
    rw [canLay_str zs fun y hy => h y (List.mem_cons_of_mem _ hy), h z List.mem_cons_self]
    rfl
theorem depths_str : ∀ zs : List Str, PyData.depthAll (zs.map PyData.str) ≤ 1
  | [] => Nat.zero_le _
  | z :: zs => Nat.max_le.mpr ⟨Nat.le_of_ble_eq_true rfl, depths_str zs⟩
theorem shaped_strT (zs : List Str) (h0 : OkS zs) : SeqAt.shaped (.tuple (zs.map PyData.str)) = true := by
  refine Bool.and_eq_true_iff.mpr ⟨canLay_str zs h0, decide_eq_true ?_⟩
  have h := depths_str zs
  show PyData.depthAll (zs.map PyData.str) + 1 ≤ 64
  omega
theorem shaped_strL (zs : List Str) (h0 : OkS zs) : SeqAt.shaped (.list (zs.map PyData.str)) = true := by
  refine Bool.and_eq_true_iff.mpr ⟨canLay_str zs h0, decide_eq_true ?_⟩
  have h := depths_str zs
  show PyData.depthAll (zs.map PyData.str) + 1 ≤ 64
  omega
theorem eqvAll_str : ∀ zs ws : List Str, PyData.eqvAll (zs.map PyData.str) (ws.map PyData.str) = decide (zs = ws)
  | [], [] => rfl
  | [], _ :: _ => rfl
  | _ :: _, [] => rfl
  | z :: zs, w :: ws => by
    show (PyData.eqv (.str z) (.str w) && PyData.eqvAll (zs.map PyData.str) (ws.map PyData.str)) = _
    rw [eqvAll_str zs ws]
    show ((z == w) && decide (zs = ws)) = _
    by_cases h : z = w
    · subst h
      simp
    · simp [h]
theorem eqv_strT (zs ws : List Str) : PyData.eqv (.tuple (zs.map PyData.str)) (.tuple (ws.map PyData.str)) = decide (zs = ws) := eqvAll_str zs ws
/-- a house of names -/
def Hou (H : Hp) (K : PySem.W.Frag) (C a : Addr) (fo th : List Str) : Prop := HouseAt H K C a (fo.map V.str) (th.map V.str) ∧ OkS fo ∧ OkS th
theorem Hou.ext {H H' : Hp} {K : PySem.W.Frag} {C a : Addr} {fo th : List Str} (h : Hou H K C a fo th) (e : Ext H H') : Hou H' K C a fo th := ⟨HouseAt.ext h.1 e, h.2⟩
theorem Hou.ins {H : Hp} {K : PySem.W.Frag} {C a : Addr} {fo th : List Str} (h : Hou H K C a fo th) : ∃ dx fs, H a = some (.ins C dx fs) := by
  obtain ⟨⟨dx, fs, _, _, _, h1, _⟩, _⟩ := h
  exact ⟨dx, fs, h1⟩
def spHLen (K : PySem.W.Frag) (C : Addr) : Sp := fun vs H Q _ => ∃ a fo th, vs = [.ref a] ∧ Hou H K C a fo th ∧ Q (.int ((fo ++ th).length : Nat)) H
def spHEq (K : PySem.W.Frag) (C : Addr) : Sp := fun vs H Q _ => ∃ a fo th y, vs = [.ref a, y] ∧ Hou H K C a fo th ∧ ((∃ t, TyX K H y t ∧ PySem.W.kitOne K t (.ref C) = some false ∧ Q (.bl false) H) ∨
  ∃ b fo2 th2, y = .ref b ∧ Hou H K C b fo2 th2 ∧ Q (.bl (decide (fo = fo2) && decide (th = th2))) H)
def spHHas (K : PySem.W.Frag) (C : Addr) : Sp := fun vs H Q _ => ∃ a fo th y, vs = [.ref a, y] ∧ Hou H K C a fo th ∧ ((flatV y = true ∧ Q (.bl (inV y ((fo ++ th).map V.str))) H) ∨ (NoText K H y ∧ Q (.bl false) H) ∨
  ∃ b fo2 th2, y = .ref b ∧ Hou H K C b fo2 th2 ∧ ∀ H', Ext H H' → Q (.bl false) H')
theorem tyH {K : PySem.W.Frag} {H : Hp} {C a : Addr} {fo th : List Str} (T : HouC K C) (h : Hou H K C a fo th) : TyX K H (.ref a) (.ref C) := by
  obtain ⟨dx, fs, e⟩ := h.ins
  exact .base (.ins e T.cl T.ha T.hn T.htk T.hm)
section
variable {P : Program} {w : World} {K : PySem.W.Frag} {mg : Str → Option Value} {base : Heap} {f fE C : Addr} {fd fdE : FuncData}
theorem ok_hLen (Fn : FunD K "__len__" "House.__len__" (defArgs sHLen) (defBody sHLen) (defScope sHLen) [] [] f fd) (T : HouC K C) (gN : mg "len" = none) : FnOk P w K mg base CX0 1 f fd ["self"] (spHLen K C) := by
  refine Fn.ok scHLen (fun vs H Q E h => ?_) (fun cdv A outer s H vs Q E hr h => ⟨_, PSs.nox (pss_one (ps_ret (pe_callB call_len (by rfl) gN boot_len (pa_cons (pe_fld (pv 0) rfl) pa_nil)))), ?_⟩)
  · obtain ⟨a, fo, th, rfl, _⟩ := h
    rfl
  · obtain ⟨a, fo, th, rfl, ⟨⟨dx, fs, f, t, n, h1, h2, h3, h4, h5, h6, h7⟩, ok1, ok2⟩, q⟩ := h
    refine ⟨_, rfl, a, C, dx, fs, _, rfl, h1, T.cl, T.nn, h4, _, _, rfl, .inr ⟨_, h7, rfl⟩, ?_⟩
    rw [← List.map_append, List.length_map]
    exact q
theorem ok_hIter (Fn : FunD K "__iter__" "House.__iter__" (defArgs sHIter) (defBody sHIter) (defScope sHIter) [] [] f fd) (T : HouC K C) (gI : mg "iter" = none) : FnOk P w K mg base CX0 1 f fd ["self"] (spIter K C "nodes" base.objs.size) := by
  refine Fn.ok scHIter (fun vs H Q E h => ?_) (fun cdv A outer s H vs Q E hr h => ⟨_, PSs.nox (pss_one (ps_ret (pe_callB call_iterT (by rfl) gI boot_iter (pa_cons (pe_fld (pv 0) rfl) pa_nil)))), ?_⟩)
  · obtain ⟨a, _, _, _, _, rfl, _⟩ := h
    rfl
  · obtain ⟨a, dx, fs, l, zs, rfl, h1, h2, h3, q⟩ := h
    exact ⟨_, rfl, a, C, dx, fs, _, rfl, h1, T.cl, T.nn, h2, l, zs, rfl, h3, q⟩
theorem ok_hEq (Fn : FunD K "__eq__" "House.__eq__" (defArgs sHEq) (defBody sHEq) (defScope sHEq) [] [] f fd) (T : HouC K C) (gI : mg "isinstance" = none) (gH : mg "House" = some (.ref C)) (kC : PySem.W.kitOne K (.ref C) (.ref C) = some true) :
    FnOk P w K mg base CX0 1 f fd ["self", "other"] (spHEq K C) := by
  refine Fn.ok scHEq (fun vs H Q E h => ?_) (fun cdv A outer s H vs Q E hr h => ⟨_, PSs.nox (pss_one (ps_ret
    (pe_and (pe_callB call_isi (by rfl) gI boot_isinstance (pa_cons (pv 1) (pa_cons (pe_glob (v := .ref C) (by rfl) gH rfl) pa_nil)))
    (pe_and (pe_cmpR (op_eqD hr.units) (pe_fld (pv 0) rfl) (pe_fld (pv 1) rfl) (nomark _))
    (pe_one (pe_cmpR (op_eqD hr.units) (pe_fld (pv 0) rfl) (pe_fld (pv 1) rfl) (nomark _))))))), ?_⟩)
  · obtain ⟨a, _, _, _, rfl, _⟩ := h
    rfl
  · obtain ⟨a, fo, th, y, rfl, ho, h⟩ := h
    rcases h with ⟨t, ty, kt, q⟩ | ⟨b, fo2, th2, rfl, ho2, q⟩
    · refine ⟨_, rfl, y, .ref C, t, .ref C, false, rfl, .own C, ty, kt, false, rfl, ?_⟩
      exact q
    · refine ⟨_, rfl, .ref b, .ref C, .ref C, .ref C, true, rfl, .own C, tyH T ho2, kC, true, rfl, ?_⟩
      refine iteT ?_
      obtain ⟨⟨dx, fs, f, t, n, h1, h2, h3, h4, h5, h6, h7⟩, ok1, ok2⟩ := ho
      obtain ⟨⟨dx', fs', f', t', n', g1, g2, g3, g4, g5, g6, g7⟩, pk1, pk2⟩ := ho2
      refine ⟨_, rfl, a, C, dx, fs, _, rfl, h1, T.cl, T.nf, h2, _, rfl, b, C, dx', fs', _, rfl, g1, T.cl, T.nf, g2, _, _, .tup h5 (dpAll_str fo), .tup g5 (dpAll_str fo2), shaped_strT fo ok1, shaped_strT fo2 pk1, _, rfl, ?_⟩
      rw [eqv_strT]
      refine ite2 (fun e => ?_) (fun e => ?_)
      · refine ⟨_, rfl, a, C, dx, fs, _, rfl, h1, T.cl, T.nt, h3, _, rfl, b, C, dx', fs', _, rfl, g1, T.cl, T.nt, g3, _, _, .tup h6 (dpAll_str th), .tup g6 (dpAll_str th2), shaped_strT th ok2, shaped_strT th2 pk2, ?_⟩
        rw [eqv_strT]
        rw [e, Bool.true_and] at q
        exact q
      · have e' : decide (fo = fo2) = false := by simpa using e
        rw [e', Bool.false_and] at q
        exact q
theorem ok_hHas (Fn : FunD K "__contains__" "House.__contains__" (defArgs sHHas) (defBody sHHas) (defScope sHHas) [] [] f fd) (T : HouC K C) (nf : PySem.W.subIn K (.ref C) (.type "str") = some false) (Me : OwnM K C "__eq__" fE)
    (FE : FnOk P w K mg base CX0 1 fE fdE ["self", "other"] (spHEq K C)) (bE : Binds K fdE ["self", "other"] []) (kS : PySem.W.kitOne K (.type "str") (.ref C) = some false) : FnOk P w K mg base CX0 3 f fd ["self", "x"] (spHHas K C) := by
  refine Fn.ok scHHas (fun vs H Q E h => ?_) (fun cdv A outer s H vs Q E hr h => ⟨_, PSs.nox (pss_one (ps_ret
    (pe_cmpR (OpR.or op_in_seq (OpR.or (op_inN (Nat.lt_of_le_of_lt (Nat.add_le_add_left (by decide : 1 ≤ 64) _) hr.units)) (op_inI (EI := E0) hr Me nf FE bE pass0))) (pv 1) (pe_fld (pv 0) rfl) (by rfl)))), ?_⟩)
  · obtain ⟨a, _, _, _, rfl, _⟩ := h
    rfl
  · obtain ⟨a, fo, th, y, rfl, ho, h⟩ := h
    have ho' := ho
    obtain ⟨⟨dx, fs, f, t, n, h1, h2, h3, h4, h5, h6, h7⟩, ok1, ok2⟩ := ho
    rw [← List.map_append] at h7
    refine ⟨_, rfl, _, rfl, a, C, dx, fs, _, rfl, h1, T.cl, T.nn, h4, ?_⟩
    rcases h with ⟨fy, q⟩ | ⟨ny, q⟩ | ⟨b, fo2, th2, rfl, ho2, q⟩
    · exact .inl ⟨n, _, rfl, .inr h7, fy, by rw [List.all_map]; exact List.all_eq_true.mpr fun _ _ => rfl, q⟩
    · exact .inr (.inl ⟨n, fo ++ th, rfl, h7, ny, q⟩)
    · obtain ⟨dx', fs', g1⟩ := ho2.ins
      refine .inr (.inr ⟨n, fo ++ th, b, dx', fs', rfl, h7, rfl, g1, fun z H1 _ x1 => ?_, q⟩)
      exact ⟨b, fo2, th2, .str z, rfl, ho2.ext x1, .inl ⟨_, .base (.str z), kS, rfl, Ext.rfl'⟩⟩
end
end My

namespace L2
open PySem PySem.Spec PyProof.Rows
/-- C(..) where __init__ may raise, wished for at the caller's slots -/
def tMakeS (C : Addr) (sp : Sp) (ws : List V) (W : L2.St → XK) (t : TA) : TE := fun σ H Q => t σ H fun vs H1 => ∀ x dx, H1 x = none → H1 dx = none → dx ≠ x →
  sp (.ref x :: (vs ++ ws)) (upd (upd H1 dx (.own x)) x (.ins C dx [])) (fun v H2 => v = .non ∧ Q (.ref x) H2) (W σ)
section
variable {X : Cx} {CI : CXT} {n : Nat} {fI C : Addr} {fd : FuncData} {ps : List Str} {sp : Sp} {ws : List V} {wu : List Value} {W : L2.St → XK} {x : Str} {p pos : Pos} {e : Expr} {es : List Expr} {t : TA}
theorem make_sub {pins : List (Addr × Obj)} {σ : L2.St} {H : Hp} {s : Shared} {Q : VK} {us : List Value} {vs : List V} {EW : XK} (M : Mk X.K C fI) (Fi : FnOk X.prog X.w X.K X.mg X.base CI n fI fd ps sp) (room : Room (n + 1) X.A)
    (bi : Binds X.K fd ps wu) (rw' : Vals ws wu) (let_ : PassesAt CI X σ EW) (I : Inv X pins σ H s) (rv : Vals vs us)
    (go : ∀ y dy, H y = none → H dy = none → dy ≠ y → sp (.ref y :: (vs ++ ws)) (upd (upd H dy (.own y)) y (.ins C dy [])) (fun v H2 => v = .non ∧ Q (.ref y) H2) EW) :
    wpAny (model X.prog X.w) X.A (call (.ref C) us) (EP X pins σ Q) X.xe s := by
  have want := go (s.heap.objs.size + 1) s.heap.objs.size (I.hok.fresh (Nat.le_succ _)) (I.hok.fresh (Nat.le_refl _)) (Nat.ne_of_lt (Nat.lt_succ_self _))
  have J := Inv.made (C := C) I
  have all : Vals (V.ref (s.heap.objs.size + 1) :: (vs ++ ws)) (Value.ref (s.heap.objs.size + 1) :: (us ++ wu)) := .cons rfl (rv.append rw')
  have many : (Value.ref (s.heap.objs.size + 1) :: us ++ wu).length = ps.length := all.length.symm.trans (Fi.len _ _ _ _ want)
  have ran := Fi.run _ X.stack _ _ ⟨Value.ref (s.heap.objs.size + 1) :: us, []⟩ _ _ _ EW (room.make C us []) (J.env0.make C us []) (bi _ _ J.kIn many) all want
  refine wpAny_call (make_map (f := fI) I.kIn M.makes M.init (beq_iff_eq.mp M.fn) (codeAny_mono ran ?_))
  rintro (er | fl) s' back
  · exact let_ pins _ _ er s' J back
  · cases fl with
    | ret u =>
      obtain ⟨v, H', J', ru, ⟨ev, q⟩⟩ := J.after back
      subst ev
      exact ⟨ru, .ref _, H', J', rfl, q⟩
    | next => exact back.elim
    | brk => exact back.elim
    | cont => exact back.elim
theorem pe_makeS (M : Mk X.K C fI) (Fi : FnOk X.prog X.w X.K X.mg X.base CI n fI fd ps sp) (room : Room (n + 1) X.A) (gl : Gl X x) (gm : X.mg x = some (.ref C)) (bi : Binds X.K fd ps wu) (rw' : Vals ws wu) (let_ : ∀ σ, PassesAt CI X σ (W σ))
    (ha : PA X (e :: es) t) (nd : (x == ("__debug__" : Str)) = false := by decide) (h1 : starEach (e :: es) X.env = (false, eval e X.env) :: starEach es X.env := by rfl) (h2 : (backTo pos (starEach es X.env)).any (·.1) = false := by rfl) :
    PE X (.Call (.Name x p) (e :: es) [] pos) (tMakeS C sp ws W t) :=
  ⟨fun pins s σ H Q I h => wpAny_Call_Name_kw (ld_glob I gl gm (PySem.W.callWith_K (h₀ := X.base) I.ok.mod.kin M.kp (thn (ha.run pos pins s σ H _ I h) fun _ _ ⟨_, _, I1, r, q⟩ => ⟨I1.kIn, make_sub M Fi room bi rw' (let_ σ) I1 r q⟩) h1 h2) nd)⟩
end
end L2

namespace L2
open PySem PySem.Spec PyProof.Rows
/-- a dict == a text -/
def rEqDS : R2 := fun x y H Q => ∃ a kvs z, x = .ref a ∧ y = .str z ∧ H a = some (.dK kvs) ∧ Q (.bl false) H
theorem op_eqDS {X : Cx} (hu : X.A.units < cLine) : OpR X (compareOp .Eq) rEqDS := by
  intro pins s σ H x y v u Q I rx ry h
  obtain ⟨a, kvs, z, rfl, rfl, ha, q⟩ := h
  cases rx
  obtain ⟨t, rfl⟩ := ry
  obtain ⟨_, _, vs, _, o, es, ep, h1, h2, h3, _⟩ := (show ObjOk X.prog X.w H s.heap a (.dK kvs) from I.hok a _ ha)
  show wpAny _ _ (richCompare .Eq (.ref a) (.str z t)) _ _ s
  exact SeqAt.rc_eq_decline_or (k := false) ⟨_, h1, h2.1⟩ (PySem.typeIs_str s z t) (by decide) F.sub_str_dict F.slot_dict_eq F.slot_str_eq_refl
    (fun _ hq => call_meets F.slot_dict_eq ⟨_, h1, h2.1⟩ F.entry_dict_eq (F.args_dict_eq_2 _ _) (MyN.dict_no_str z t a o h2.1) ⟨h1, hq⟩)
    (fun _ hq => call_meets F.slot_str_eq_refl (PySem.typeIs_str s z t) F.entry_str_eq (F.args_str_eq_2 _ _) (MyN.str_no_dict z t a o es ep h3) ⟨h1, hq⟩)
    (fun _ hq => wpAny_of_eq (rfl : isSame (.ref a) (.str z t) = pure false) hq) (.inr hu) ⟨.bl false, H, I, rfl, q⟩
end L2

namespace L2
open PySem PySem.Spec PyProof.Rows
theorem wp_notB {M : Model} {A : Around} {E : Value → Shared → Prop} {s : Shared} {m : Sem Bool} {Q Q' : Value → Shared → Prop}
  (h : wpAny M A (m >>= fun z => pure (Value.bool z)) Q E s) (hq : ∀ b s', Q (.bool b) s' → Q' (.bool (!b)) s') : wpAny M A (m >>= fun z => pure (Value.bool (!z))) Q' E s := by
  intro Γ p hi
  have z := h Γ p hi
  have z2 : Sem.wp M Γ (m.bind fun z => Sem.pure (Value.bool z)) (fun a x s' => Q a s') (fun e x s' => E e s') p s := z
  show Sem.wp M Γ (m.bind fun z => Sem.pure (Value.bool (!z))) (fun a x s' => Q' a s') (fun e x s' => E e s') p s
  rw [Sem.wp_bind] at z2 ⊢
  exact Sem.wp_mono _ _ _ (fun a p' s' q => hq a s' q) (fun _ _ _ e => e) _ _ z2
def rNot (r : R2) : R2 := fun x y H Q => r x y H (fun v H' => ∃ b, v = .bl b ∧ Q (.bl (!b)) H')
theorem OpR.notIn {X : Cx} {r : R2} (h : OpR X (compareOp .In) r) : OpR X (compareOp .NotIn) (rNot r) := by
  intro pins s σ H x y v u Q I rx ry h2
  have z := h pins s σ H x y v u _ I rx ry h2
  refine wp_notB z fun b s' q => ?_
  obtain ⟨w, H', I', rw', c, rfl, q⟩ := q
  have e : b = c := by cases rw'; rfl
  subst e
  exact ⟨.bl (!b), H', I', rfl, q⟩
end L2

namespace My
open PySem PySem.Spec PyProof.Rows L2
/-! ### names -/
def oddNm : List Str := ["zz", "zzz", "zy", "zr", "zs", "zt", "zu", "zv"]
def Nm (z : Str) : Prop := nameB z = true ∧ z.length ≠ 4 ∧ z ≠ "zq" ∧ z.length ≤ 8 ∧ PyData.strOk z = true ∧ ∀ b ∈ oddNm, z ≠ b
instance (z : Str) : Decidable (Nm z) := by unfold Nm; exact inferInstance
def az : Str := "abcdefghijklmnopqrstuvwxy"
def ap : Str := "abcdefghijklmnop"
def spares : List Str := ap.cps.toList.map fun c => ("z" : Str) ++ (⟨#[c]⟩ : Str) ++ ("q" : Str)
theorem spares_nm : ∀ z ∈ spares, Nm z := by decide +kernel
theorem spares_nd : spares.Nodup := by decide +kernel
theorem spares_len : spares.length = 16 := by decide +kernel
theorem nodup_sub : ∀ (as bs : List Str), as.Nodup → (∀ x, x ∈ as → x ∈ bs) → as.length ≤ bs.length
  | [], bs, _, _ => Nat.zero_le _
  | a :: as, bs, nd, h => by
    obtain ⟨na, nd'⟩ := List.nodup_cons.mp nd
    have ha := h a List.mem_cons_self
    have ih := nodup_sub as (bs.erase a) nd' fun x hx => (List.mem_erase_of_ne (fun e => by rw [e] at hx; exact na hx)).mpr (h x (List.mem_cons_of_mem _ hx))
    rw [List.length_erase_of_mem ha] at ih
    have : 0 < bs.length := List.length_pos_of_mem ha
    rw [List.length_cons]
    omega
theorem inV_str (z : Str) (zs : List Str) : inV (.str z) (zs.map V.str) = decide (z ∈ zs) := by
  unfold inV
  rw [List.any_map, Bool.eq_iff_iff, List.any_eq_true, decide_eq_true_iff]
  constructor
  · rintro ⟨x, hx, e⟩
    have e' : x = z := eq_of_beq e
    exact e' ▸ hx
  · intro h
    exact ⟨z, h, beq_self_eq_true z⟩
/-- the first of the spare ones that is not found as yet -/
def freshOf (w : Str) (zs : List Str) : List Str := (w :: spares).filter fun z => !decide (z ∈ zs)
theorem fresh_ne {w : Str} {zs : List Str} (h : zs.length < 16) : ∃ z r, freshOf w zs = z :: r := by
  cases e : freshOf w zs with
  | cons z r => exact ⟨z, r, rfl⟩
  | nil =>
    exfalso
    have hall : ∀ x, x ∈ spares → x ∈ zs := fun x hx => by
      have h1 := List.filter_eq_nil_iff.mp e x (List.mem_cons_of_mem _ hx)
      simpa using h1
    have := nodup_sub spares zs spares_nd hall
    rw [spares_len] at this
    omega
theorem fresh_mem {w z : Str} {zs r : List Str} (h : freshOf w zs = z :: r) (hw : Nm w) : Nm z ∧ z ∉ zs := by
  have hm : z ∈ freshOf w zs := by rw [h]; exact List.mem_cons_self
  obtain ⟨h1, h2⟩ := List.mem_filter.mp hm
  refine ⟨?_, by simpa using h2⟩
  rcases List.mem_cons.mp h1 with rfl | h1
  · exact hw
  · exact spares_nm z h1
/-- a word of signs from a to y -/
theorem joinL_one : ∀ cs : List Nat, TL.joinL [] (cs.map fun c => [c]) = cs
  | [] => rfl
  | [_] => rfl
  | c :: d :: r => by
    show [c] ++ ([] ++ TL.joinL [] ((d :: r).map fun c => [c])) = _
    rw [joinL_one (d :: r)]
    rfl
theorem join_one (cs : List Nat) : (Txt.join "" (cs.map fun c => (⟨#[c]⟩ : Str))).cps.toList = cs := by
  rw [TL.join_eq]
  have h := TL.tl_join "" (cs.map fun c => (⟨#[c]⟩ : Str))
  rw [List.map_map] at h
  exact h.trans (joinL_one cs)
theorem word_nm {z : Str} {cs : List Nat} (e : z.cps.toList = cs) (hc : ∀ c, c ∈ cs → c ∈ az.cps.toList) (hn : cs.length ∈ [1, 1, 2, 3, 8]) : Nm z := by
  have len : z.length = cs.length := by
    show z.cps.size = _
    rw [← Array.length_toList, e]
  have all : ∀ c, c ∈ cs → c ∈ letters.cps.toList ∧ c < 122 := fun c h => by
    have h1 := hc c h
    have key : ∀ c, c ∈ az.cps.toList → c ∈ letters.cps.toList ∧ c < 122 := by decide +kernel
    exact key c h1
  have l18 : 1 ≤ cs.length ∧ cs.length ≤ 8 ∧ cs.length ≠ 4 := by
    simp only [List.mem_cons, List.not_mem_nil, or_false] at hn
    omega
  refine ⟨?_, by rw [len]; exact l18.2.2, fun h => ?_, by rw [len]; exact l18.2.1, ?_, fun b hb h => ?_⟩
  · unfold nameB
    rw [decide_eq_true (by rw [len]; omega), decide_eq_true (by rw [len]; omega), Bool.true_and, Bool.true_and, List.all_eq_true]
    intro b hb
    unfold signB at hb
    obtain ⟨c, hc', rfl⟩ := List.mem_map.mp hb
    rw [e] at hc'
    exact decide_eq_true (all c hc').1
  · have h122 : (122 : Nat) ∈ cs := by
      rw [← e, h]
      decide +kernel
    exact absurd (all 122 h122).2 (Nat.lt_irrefl _)
  · show z.cps.all _ = true
    rw [← Array.all_toList, e, List.all_eq_true]
    intro c h
    exact decide_eq_true (Nat.lt_trans (all c h).2 (by decide))
  · have h122 : (122 : Nat) ∈ cs := by
      rw [← e, h]
      exact (show ∀ b ∈ oddNm, (122 : Nat) ∈ b.cps.toList by decide +kernel) b hb
    exact absurd (all 122 h122).2 (Nat.lt_irrefl _)
theorem sum_one : ∀ cs : List Nat, (((cs.map fun c => (⟨#[c]⟩ : Str))).map (·.length)).sum = cs.length
  | [] => rfl
  | c :: r => by
    show 1 + (((r.map fun c => (⟨#[c]⟩ : Str))).map (·.length)).sum = _
    rw [sum_one r, List.length_cons, Nat.add_comm]
theorem pool_ext {H H' : Hp} {p : Addr} {n : Int} (h : Pool H p n) (e : Ext H H') : Pool H' p n := by
  obtain ⟨g, m, c, h1, h2⟩ := h
  exact ⟨g, m, c, e _ _ h1, h2⟩
theorem pool_at {H H' : Hp} {p : Addr} {n : Int} (h : Pool H p n) (e : H' p = H p) : Pool H' p n := by
  obtain ⟨g, m, c, h1, h2⟩ := h
  exact ⟨g, m, c, by rw [e]; exact h1, h2⟩
theorem pool_ne {H : Hp} {p l : Addr} {n : Int} (h : Pool H p n) (e : H l = none) : l ≠ p := fun z => by
  obtain ⟨g, m, c, h1, _⟩ := h
  rw [z, h1] at e
  cases e
theorem But.ext {H H1 H2 : Hp} {a : Addr} (b : But H H1 a) (e : Ext H1 H2) : But H H2 a := b.trans (ext_but e)
/-- names: unlike, none of four signs, none zq -/
def Nms (zs : List Str) : Prop := zs.Nodup ∧ ∀ z, z ∈ zs → Nm z
structure HouseTxt (P : Program) (w : World) (K : PySem.W.Frag) (mg : Str → Option Value) (C CB : Addr) where
  T : HouC K C
  gH : mg "House" = some (.ref C)
  kCC : PySem.W.kitOne K (.ref C) (.ref C) = some true
  ne : PySem.W.findIn K (.ref C) "__ne__" = some (some (.builtin "object.__ne__"))
  noStr : PySem.W.subIn K (.ref C) (.type "str") = some false
  nb : ∀ T, T ∈ ["NoneType", "list", "tuple", "int", "str"] → PySem.W.notFirst K C (.type T) = true ∧ PySem.W.kitOne K (.type T) (.ref C) = some false
  fI : Addr
  fdI : FuncData
  M : Mk K C fI
  I : ∀ base, FnOk P w K mg base (L2.CX P w) 4 fI fdI ["self", "folders", "things"] (spHInit K C CB)
  bI : Binds K fdI ["self", "folders", "things"] []
  uD : Value
  bD : Binds K fdI ["self", "folders", "things"] [uD]
  aD : Addr
  eD : uD = .ref aD
  tD : ∀ H, SqT K H aD []
  fL : Addr
  fdL : FuncData
  mL : OwnM K C "__len__" fL
  L : ∀ base, FnOk P w K mg base CX0 1 fL fdL ["self"] (spHLen K C)
  bL : Binds K fdL ["self"] []
  fS : Addr
  fdS : FuncData
  mS : OwnM K C "__contains__" fS
  S : ∀ base, FnOk P w K mg base CX0 3 fS fdS ["self", "x"] (spHHas K C)
  bS : Binds K fdS ["self", "x"] []
  fW : Addr
  fdW : FuncData
  mW : OwnM K C "__iter__" fW
  W : ∀ base : Heap, FnOk P w K mg base CX0 1 fW fdW ["self"] (spIter K C "nodes" base.objs.size)
  bW : Binds K fdW ["self"] []
  fE : Addr
  fdE : FuncData
  mE : OwnM K C "__eq__" fE
  E : ∀ base, FnOk P w K mg base CX0 1 fE fdE ["self", "other"] (spHEq K C)
  bE : Binds K fdE ["self", "other"] []
/-! ### lists of truths as data -/
theorem dpAll_bl {K : PySem.W.Frag} {H : Hp} : ∀ bs : List Bool, DpAll K H (bs.map V.bl) (bs.map PyData.bool)
  | [] => .nil
  | b :: bs => .cons (.bl b) (dpAll_bl bs)
theorem canLay_bl : ∀ bs : List Bool, PyData.canLayAll0 (bs.map PyData.bool) = true
  | [] => rfl
  | b :: bs => by
    show (PyData.canLay0 (.bool b) && PyData.canLayAll0 (bs.map PyData.bool)) = true
    rw [canLay_bl bs]
    rfl
theorem depths_bl : ∀ bs : List Bool, PyData.depthAll (bs.map PyData.bool) ≤ 1
  | [] => Nat.zero_le _
  | b :: bs => by
    have h := depths_bl bs
    show max (PyData.depth (.bool b)) (PyData.depthAll (bs.map PyData.bool)) ≤ 1
    exact Nat.max_le.mpr ⟨by decide +revert, h⟩
theorem shaped_bl (bs : List Bool) : SeqAt.shaped (.list (bs.map PyData.bool)) = true := by
  refine Bool.and_eq_true_iff.mpr ⟨canLay_bl bs, decide_eq_true ?_⟩
  have h := depths_bl bs
  show PyData.depthAll (bs.map PyData.bool) + 1 ≤ 64
  omega
theorem inV_no {y : V} (h : ∀ z, eqV (.str z) y = false) (zs : List Str) : inV y (zs.map V.str) = false := by
  unfold inV
  rw [List.any_map, List.any_eq_false]
  intro z _ e
  have e' : eqV (.str z) y = true := e
  rw [h z] at e'
  cases e'
/-! ### lists of lists as data -/
theorem canLay_ds : ∀ ds : List PyData, (∀ d, d ∈ ds → d.canLay0 = true ∧ d.depth ≤ 2) → PyData.canLayAll0 ds = true ∧ PyData.depthAll ds ≤ 2
  | [], _ => ⟨rfl, Nat.zero_le _⟩
  | d :: ds, h => by
    obtain ⟨h1, h2⟩ := canLay_ds ds fun x hx => h x (List.mem_cons_of_mem _ hx)
    obtain ⟨h3, h4⟩ := h d List.mem_cons_self
    refine ⟨?_, Nat.max_le.mpr ⟨h4, h2⟩⟩
    show (d.canLay0 && PyData.canLayAll0 ds) = true
    rw [h1, h3]
    rfl
theorem shaped_ds (ds : List PyData) (h : ∀ d, d ∈ ds → d.canLay0 = true ∧ d.depth ≤ 2) : SeqAt.shaped (.list ds) = true := by
  obtain ⟨h1, h2⟩ := canLay_ds ds h
  refine Bool.and_eq_true_iff.mpr ⟨h1, decide_eq_true ?_⟩
  show PyData.depthAll ds + 1 ≤ 64
  omega
theorem flat_tup (zs : List Str) (h : OkS zs) : (PyData.tuple (zs.map PyData.str)).canLay0 = true ∧ (PyData.tuple (zs.map PyData.str)).depth ≤ 2 := ⟨canLay_str zs h, Nat.succ_le_succ (depths_str zs)⟩
theorem flat_lst (zs : List Str) (h : OkS zs) : (PyData.list (zs.map PyData.str)).canLay0 = true ∧ (PyData.list (zs.map PyData.str)).depth ≤ 2 := ⟨canLay_str zs h, Nat.succ_le_succ (depths_str zs)⟩
theorem dpAll_rep {K : PySem.W.Frag} {H : Hp} {d : PyData} : ∀ ws : List V, (∀ x, x ∈ ws → Dp K H x d) → DpAll K H ws (List.replicate ws.length d)
  | [], _ => .nil
  | x :: ws, h => .cons (h x List.mem_cons_self) (dpAll_rep ws fun y hy => h y (List.mem_cons_of_mem _ hy))
theorem flat_rep {α : Type} (n : Nat) (x : α) : (List.replicate n [x]).flatten = List.replicate n x := by
  induction n with
  | zero => rfl
  | succ n ih => rw [List.replicate_succ, List.flatten_cons, ih]; rfl
def Nok (zs : List Str) : Prop := zs.Nodup ∧ ∀ z, z ∈ zs → nameB z = true ∧ PyData.strOk z = true ∧ z.length ≤ sizeLine
theorem Nms.ok {zs : List Str} (h : Nms zs) : Nok zs := ⟨h.1, fun z hz => ⟨(h.2 z hz).1, (h.2 z hz).2.2.2.2.1, Nat.le_trans (h.2 z hz).2.2.2.1 (by rw [sizeLine_eq]; decide)⟩⟩
theorem Nok.perm {zs ws : List Str} (h : Nok zs) (p : ws.Perm zs) : Nok ws := ⟨p.nodup_iff.mpr h.1, fun z hz => h.2 z (p.mem_iff.mp hz)⟩
theorem Nok.zq {zs : List Str} (h : Nms zs) : Nok ("zq" :: zs) := by
  refine ⟨List.nodup_cons.mpr ⟨fun z => (h.2 _ z).2.2.1 rfl, h.1⟩, fun z hz => ?_⟩
  rcases List.mem_cons.mp hz with rfl | hz
  · decide +kernel
  · exact h.ok.2 z hz
theorem wrong_ok {zs : List Str} (h : Nok zs) : wrongOf (zs.map V.str) = none := by
  refine wrong_none fun i hi => ?_
  rw [List.length_map] at hi
  unfold badAt
  rw [List.getElem?_map, List.getElem?_eq_getElem hi]
  show (!nameB zs[i] || inV (.str zs[i]) ((zs.map V.str).take i)) = false
  rw [(h.2 _ (List.getElem_mem hi)).1, ← List.map_take, inV_str]
  have nd := h.1
  rw [← List.take_append_drop i zs, List.nodup_append] at nd
  have hd : zs[i] ∈ zs.drop i := by
    rw [List.drop_eq_getElem_cons hi]
    exact List.mem_cons_self
  rw [decide_eq_false fun hm => nd.2.2 _ hm _ hd rfl]
  rfl
theorem part_ok {fo th : List Str} (h : Nok (fo ++ th)) (hf : fo ≠ []) : partOf (some (fo.map V.str)) (some (th.map V.str)) = none := by
  have hl : ¬ (fo.map V.str).length = 0 := by
    rw [List.length_map]
    exact fun e => hf (List.eq_nil_of_length_eq_zero e)
  show (if (fo.map V.str).length = 0 then some 0 else wrongOf (fo.map V.str ++ th.map V.str)) = none
  rw [if_neg hl, ← List.map_append, wrong_ok h]
theorem things_ok {K : PySem.W.Frag} {H : Hp} {zs : List Str} (h : ∀ z, z ∈ zs → z.length ≤ sizeLine) : ∀ y, y ∈ zs.map V.str → Thing K H y := fun y hy => by
  obtain ⟨z, hz, rfl⟩ := List.mem_map.mp hy
  exact .inl ⟨z, rfl, h z hz⟩
/-- House(..) of good names -/
theorem mk_at {K : PySem.W.Frag} {C CB a b x' dx : Addr} {H : Hp} {fo th : List Str} {R : Hp → Prop} {E : XK} (sf : SeqAt2 K H a (fo.map V.str)) (st : SeqAt2 K H b (th.map V.str)) (ok : Nok (fo ++ th)) (hf : fo ≠ []) (hl : (fo ++ th).length ≤ sizeLine)
    (h1 : H x' = none) (h2 : H dx = none) (h3 : dx ≠ x') (q : ∀ H', Ext H H' → Hou H' K C x' fo th → R H') : spHInit K C CB [.ref x', .ref a, .ref b] (L2.upd (L2.upd H dx (.own x')) x' (.ins C dx [])) (fun v H2 => v = .non ∧ R H2) E := by
  have xn : Ext H (L2.upd (L2.upd H dx (.own x')) x' (.ins C dx [])) := fun c u k => by
    rw [upd_ne (ne_of_none k h1), upd_ne (ne_of_none k h2)]
    exact k
  have okf : ∀ z, z ∈ fo → _ := fun z hz => ok.2 z (List.mem_append_left _ hz)
  have okt : ∀ z, z ∈ th → _ := fun z hz => ok.2 z (List.mem_append_right _ hz)
  refine ⟨x', dx, _, _, some (fo.map V.str), some (th.map V.str), rfl, upd_same, ⟨a, rfl, sf.ext xn, things_ok fun z hz => (okf z hz).2.2⟩, ⟨b, rfl, st.ext xn, things_ok fun z hz => (okt z hz).2.2⟩, fun xs ys e1 e2 => ?_, fun xs ys H' e1 e2 _ bt hs => ⟨rfl, ?_⟩, fun i d H' e => ?_⟩
  · cases e1
    cases e2
    rw [← List.map_append, List.length_map]
    exact hl
  · cases e1
    cases e2
    refine q H' (fun c u k => bt c u (ne_of_none k h1) (xn c u k)) ⟨hs, fun z hz => (okf z hz).2.1, fun z hz => (okt z hz).2.1⟩
  · rw [part_ok ok hf] at e
    cases e
theorem HouseTxt.vD {P : Program} {w : World} {K : PySem.W.Frag} {mg : Str → Option Value} {C CB : Addr} (Z : HouseTxt P w K mg C CB) : Vals [V.ref Z.aD] [Z.uD] := .cons Z.eD .nil
theorem sqT_upd {K : PySem.W.Frag} {H : Hp} {l f : Addr} {ys zs xs : List V} (h : SqT K H f xs) (hl : H l = some (.lst ys)) : SqT K (L2.upd H l (.lst zs)) f xs := by
  rcases h with (h | ⟨o, h⟩) | h
  · exact .inl (.inl (by rw [upd_ne (ne_of h hl (fun z => nomatch z))]; exact h))
  · exact .inl (.inr ⟨o, by rw [upd_ne (ne_of h hl (fun z => nomatch z))]; exact h⟩)
  · exact .inr h
theorem hou_upd {H : Hp} {K : PySem.W.Frag} {C b l : Addr} {fo th : List Str} {ys zs : List V} (h : Hou H K C b fo th) (hl : H l = some (.lst ys)) : Hou (L2.upd H l (.lst zs)) K C b fo th := by
  obtain ⟨⟨dx, fs, f, t, n, h1, h2, h3, h4, h5, h6, h7⟩, ok⟩ := h
  exact ⟨⟨dx, fs, f, t, n, by rw [upd_ne (ne_of h1 hl (fun z => nomatch z))]; exact h1, h2, h3, h4, sqT_upd h5 hl, sqT_upd h6 hl, sqT_upd h7 hl⟩, ok⟩
def Has (P : Program) (w : World) (K : PySem.W.Frag) (mg : Str → Option Value) (base : Heap) (k : Nat) (x : Str) (ps : List Str) (sp : Sp) : Prop :=
  ∃ (f : Addr) (fd : FuncData), FnOk P w K mg base CX0 k f fd ps sp ∧ mg x = some (.ref f) ∧ PySem.W.keepIn K (.ref f) = true ∧ Binds K fd ps []
theorem pe_has {X : Cx} {k : Nat} {x : Str} {ps : List Str} {sp : Sp} {e : Expr} {es : List Expr} {t : TA} {p pos : Pos} (h : Has X.prog X.w X.K X.mg X.base k x ps sp) (hr : Room k X.A) (ha : PA X (e :: es) t) (hg : Gl X x := by rfl)
    (hdb : (x == ("__debug__" : Str)) = false := by decide) (h1 : starEach (e :: es) X.env = (false, eval e X.env) :: starEach es X.env := by rfl) (h2 : (backTo pos (starEach es X.env)).any (·.1) = false := by rfl) :
    PE X (.Call (.Name x p) (e :: es) [] pos) (tCall sp [] E0 t) := by
  obtain ⟨f, fd, F, m, kp, b⟩ := h
  exact pe_call F hr hg m kp b .nil pass0 ha hdb h1 h2
/-- list(a) -/
def rLst (K : PySem.W.Frag) : List V → Hp → VK → Prop := fun xs H Q => ∃ a zs, xs = [.ref a] ∧ SqL K H a zs ∧ ∀ l, H l = none → Q (.ref l) (L2.upd H l (.lst zs))
theorem call_lst {X : Cx} : CallR X (.type "list") (rLst X.K) := by
  intro pins s σ H xs us Q I rv h
  obtain ⟨a, zs, rfl, sq, q⟩ := h
  exact call_list_of pins s σ H _ us Q I rv ⟨a, zs, rfl, .inl sq, q⟩
theorem pool_mono {H : Hp} {p : Addr} {n m : Int} (h : Pool H p n) (e : n ≤ m) : Pool H p m := by
  obtain ⟨g, mm, c, h1, h2, h3, h4, h5, h6⟩ := h
  exact ⟨g, mm, c, h1, h2, h3, h4, h5, by omega⟩
theorem pool_upd {H : Hp} {p l : Addr} {o : HO} {n : Int} (h : Pool H p n) (e : l ≠ p) : Pool (L2.upd H l o) p n := pool_at h (upd_ne (Ne.symm e))
theorem cutV_take {xs : List V} {k : Nat} (h : k ≤ xs.length) : cutV xs none (some ((k : Nat) : Int)) = xs.take k := by
  unfold cutV
  rw [HT.sIx_none, HT.sIx_nat, Nat.min_eq_left h, Nat.sub_zero, List.drop_zero]
theorem cutV_drop {xs : List V} {k : Nat} (h : k ≤ xs.length) : cutV xs (some ((k : Nat) : Int)) none = xs.drop k := by
  unfold cutV
  rw [HT.sIx_none, HT.sIx_nat, Nat.min_eq_left h, List.take_of_length_le (by rw [List.length_drop]; exact Nat.le_refl _)]
end My

namespace L2
open PySem PySem.Spec PyProof.Rows
theorem PG.or {X : Cx} {t : Expr} {g g' : TG} (h : PG X t g) (h' : PG X t g') : PG X t (fun v σ H Q => g v σ H Q ∨ g' v σ H Q) :=
  ⟨fun pins s σ H v u Q I rv q => q.elim (h.run pins s σ H v u Q I rv) (h'.run pins s σ H v u Q I rv)⟩
theorem opK {X : Cx} {f : Value → Value → Sem Value} {r : PySem.W.Frag → R2} {K : PySem.W.Frag} (e : X.K = K) (h : OpR X f (r X.K)) : OpR X f (r K) := e ▸ h
theorem ixK {X : Cx} {r : PySem.W.Frag → R2} {K : PySem.W.Frag} (e : X.K = K) (h : IxR X (r X.K)) : IxR X (r K) := e ▸ h
theorem caK {X : Cx} {v : Value} {r : PySem.W.Frag → List V → Hp → VK → Prop} {K : PySem.W.Frag} (e : X.K = K) (h : CallR X v (r X.K)) : CallR X v (r K) := e ▸ h
theorem peK {X : Cx} {x : Expr} {r : PySem.W.Frag → TE} {K : PySem.W.Frag} (e : X.K = K) (h : PE X x (r X.K)) : PE X x (r K) := e ▸ h
end L2
namespace My
open PySem PySem.Spec PyProof.Rows L2
/-- an unpacking of a list or a tuple -/
def gSeq (K : PySem.W.Frag) (n : Nat) (t : TGs) : TG := fun v σ H Q => ∃ a xs, v = .ref a ∧ SeqAt2 K H a xs ∧ xs.length = n ∧ t xs σ H Q
theorem pg_seq {X : Cx} {pos : Pos} {es : List Expr} {k : Nat} {t : TGs} {n : Nat} (hc : X.calm = true) (h : PGs X es t) (h1 : (assignEach es X.env).length = n := by rfl) (h2 : List.findIdx? (fun x => x.fst) (assignEach es X.env) = none := by rfl) : PG X (Expr.Tuple es k pos) (gSeq X.K n t) :=
  ⟨fun pins s σ H v u Q I rv q => (PG.or (pg_tup hc h h1 h2) (pg_unl hc h h1 h2)).run pins s σ H v u Q I rv (by
    obtain ⟨a, xs, e, sq, l, q⟩ := q
    exact sq.elim (fun z => .inr ⟨a, xs, e, z, l, q⟩) fun z => .inl ⟨a, xs, e, z, l, q⟩)⟩
/-! ### facts -/
def wordsS : List Str := ["below", "not", "line"]
/-- what may stand in a fact: flat, or a list, a tuple, a dict -/
def Itm (K : PySem.W.Frag) (H : Hp) (x : V) : Prop := flatV x = true ∨ NoText K H x
theorem NoText.ext {K : PySem.W.Frag} {H H' : Hp} {x : V} (h : NoText K H x) (e : Ext H H') : NoText K H' x := by
  rcases h with ⟨a, xs, rfl, h | h⟩ | ⟨a, kvs, rfl, h⟩
  · exact .inl ⟨a, xs, rfl, .inl (h.ext e)⟩
  · exact .inl ⟨a, xs, rfl, .inr (h.ext e)⟩
  · exact .inr ⟨a, kvs, rfl, e _ _ h⟩
theorem Itm.ext {K : PySem.W.Frag} {H H' : Hp} {x : V} (h : Itm K H x) (e : Ext H H') : Itm K H' x := h.elim .inl fun z => .inr (NoText.ext z e)
theorem noText_inV {K : PySem.W.Frag} {H : Hp} {x : V} (h : NoText K H x) (zs : List Str) : inV x (zs.map V.str) = false := by
  refine inV_no (fun z => ?_) zs
  rcases h with ⟨a, xs, rfl, _⟩ | ⟨a, kvs, rfl, _⟩ <;> rfl
theorem eqV_strE {z : Str} {y : V} (h : eqV (.str z) y = true) : y = .str z := by
  cases y with
  | str w =>
    have e : z = w := eq_of_beq h
    rw [e]
  | _ => exact absurd (show false = true from h) Bool.false_ne_true
theorem inV_mem {y : V} {zs : List Str} (h : inV y (zs.map V.str) = true) : ∃ z, z ∈ zs ∧ y = .str z := by
  unfold inV at h
  rw [List.any_eq_true] at h
  obtain ⟨x, hx, e⟩ := h
  obtain ⟨z, hz, rfl⟩ := List.mem_map.mp hx
  exact ⟨z, hz, eqV_strE e⟩
theorem flat_strs (zs : List Str) : (zs.map V.str).all flatV = true := by
  rw [List.all_map]
  exact List.all_eq_true.mpr fun _ _ => rfl
/-- x in, not in a tuple of texts -/
def rInW (K : PySem.W.Frag) (neg : Bool) : R2 := fun x y H Q => ∃ (p : Addr) (zs : List Str), y = .ref p ∧ SqT K H p (zs.map V.str) ∧ Itm K H x ∧ Q (.bl (neg ^^ inV x (zs.map V.str))) H
theorem op_notInW {X : Cx} (hu : X.A.units + 1 < cLine) : OpR X (compareOp .NotIn) (rInW X.K true) := by
  intro pins s σ H x y v u Q I rx ry h
  obtain ⟨p, zs, rfl, sq, it, q⟩ := h
  rw [show (true ^^ inV x (zs.map V.str)) = !inV x (zs.map V.str) by cases inV x (zs.map V.str) <;> rfl] at q
  refine (OpR.or op_notIn_seq (OpR.notIn (op_inN hu))) pins s σ H x _ v u Q I rx ry ?_
  rcases it with fl | nt
  · exact .inl ⟨p, _, rfl, .inr sq, fl, flat_strs _, q⟩
  · rw [noText_inV nt] at q
    exact .inr ⟨p, zs, rfl, sq, nt, false, rfl, q⟩
theorem op_inW {X : Cx} (hu : X.A.units + 1 < cLine) : OpR X (compareOp .In) (rInW X.K false) := by
  intro pins s σ H x y v u Q I rx ry h
  obtain ⟨p, zs, rfl, sq, it, q⟩ := h
  rw [show (false ^^ inV x (zs.map V.str)) = inV x (zs.map V.str) by cases inV x (zs.map V.str) <;> rfl] at q
  refine (OpR.or op_in_seq (op_inN hu)) pins s σ H x _ v u Q I rx ry ?_
  rcases it with fl | nt
  · exact .inl ⟨p, _, rfl, .inr sq, fl, flat_strs _, q⟩
  · rw [noText_inV nt] at q
    exact .inr ⟨p, zs, rfl, sq, nt, q⟩
/-- x in, not in a house -/
def rInH (K : PySem.W.Frag) (C : Addr) (neg : Bool) : R2 := fun x y H Q => ∃ h fo th, y = .ref h ∧ Hou H K C h fo th ∧ Itm K H x ∧ Q (.bl (neg ^^ inV x ((fo ++ th).map V.str))) H
theorem op_inH {X : Cx} {C CB : Addr} (Z : HouseTxt X.prog X.w X.K X.mg C CB) (hr : Room 3 X.A) : OpR X (compareOp .In) (rInH X.K C false) := by
  intro pins s σ H x y v u Q I rx ry h
  obtain ⟨a, fo, th, rfl, ho, it, q⟩ := h
  rw [show (false ^^ inV x ((fo ++ th).map V.str)) = inV x ((fo ++ th).map V.str) by cases inV x ((fo ++ th).map V.str) <;> rfl] at q
  obtain ⟨dx, fs, hi⟩ := ho.ins
  refine (op_inO (EI := E0) hr Z.mS (Z.S _) Z.bS pass0) pins s σ H x _ v u Q I rx ry ⟨a, dx, fs, rfl, hi, a, fo, th, x, rfl, ho, ?_⟩
  rcases it with fl | nt
  · exact .inl ⟨fl, _, rfl, q⟩
  · rw [noText_inV nt] at q
    exact .inr (.inl ⟨nt, _, rfl, q⟩)
theorem op_notInH {X : Cx} {C CB : Addr} (Z : HouseTxt X.prog X.w X.K X.mg C CB) (hr : Room 3 X.A) : OpR X (compareOp .NotIn) (rInH X.K C true) := by
  intro pins s σ H x y v u Q I rx ry h
  obtain ⟨a, fo, th, rfl, ho, it, q⟩ := h
  refine (OpR.notIn (op_inH Z hr)) pins s σ H x _ v u Q I rx ry ⟨a, fo, th, rfl, ho, it, _, rfl, ?_⟩
  rw [Bool.false_xor]
  rw [Bool.true_xor] at q
  exact q
def factB (fo th : List Str) (w o p : V) : Bool := inV w (wordsS.map V.str) && (inV o ((fo ++ th).map V.str) && (inV p ((fo ++ th).map V.str) && (!decide (o = p) && (decide (w = .str "line") || inV p (fo.map V.str)))))
/-- whether x is a fact -/
def FactOf (K : PySem.W.Frag) (H : Hp) (fo th : List Str) (x : V) (b : Bool) : Prop := (b = false ∧ ∃ t, TyX K H x t ∧ PySem.W.kitAny K t [.type "list", .type "tuple"] = some false) ∨
  (b = false ∧ ∃ a xs, x = .ref a ∧ SeqAt2 K H a xs ∧ xs.length ≠ 3) ∨ ∃ a w o p, x = .ref a ∧ SeqAt2 K H a [w, o, p] ∧ Itm K H w ∧ Itm K H o ∧ Itm K H p ∧ b = factB fo th w o p
theorem FactOf.ext {K : PySem.W.Frag} {H H' : Hp} {fo th : List Str} {x : V} {b : Bool} (h : FactOf K H fo th x b) (e : Ext H H') : FactOf K H' fo th x b := by
  rcases h with ⟨h0, t, h1, h2⟩ | ⟨h0, a, xs, h1, h2, h3⟩ | ⟨a, w, o, p, h1, h2, h3, h4, h5, h6⟩
  · exact .inl ⟨h0, t, h1.ext e, h2⟩
  · exact .inr (.inl ⟨h0, a, xs, h1, h2.ext e, h3⟩)
  · exact .inr (.inr ⟨a, w, o, p, h1, h2.ext e, h3.ext e, h4.ext e, h5.ext e, h6⟩)
theorem seq_kit {K : PySem.W.Frag} {H : Hp} {a : Addr} {xs : List V} (h : SeqAt2 K H a xs) : ∃ t, TyX K H (.ref a) t ∧ PySem.W.kitAny K t [.type "list", .type "tuple"] = some true := by
  rcases h with h | h
  · exact ⟨_, tyx_sqL h, by rfl⟩
  · exact ⟨_, tyx_sqT h, by rfl⟩
def spIsFact (K : PySem.W.Frag) (C : Addr) : Sp := fun vs H Q _ => ∃ h x fo th b, vs = [.ref h, x] ∧ Hou H K C h fo th ∧ FactOf K H fo th x b ∧ ∀ H', Ext H H' → Q (.bl b) H'
abbrev nm_is_fact : List Str := ["house", "thing", "word", "one", "other"]
theorem sc_is_fact : FnScope nm_is_fact ["house", "thing"] (defScope s_is_fact) := ⟨rfl, rfl, rfl, by decide +kernel, rfl, by decide +kernel, by decide +kernel⟩
section
variable {P : Program} {w : World} {K : PySem.W.Frag} {mg : Str → Option Value} {base : Heap} {f C CB : Addr} {fd : FuncData}
theorem ok_isFact (Fn : FnP K "is_fact" s_is_fact f fd) (Z : HouseTxt P w K mg C CB) (his_list : Has P w K mg base 1 "is_list" ["thing"] (spIsList K)) (gB_len : mg "len" = none) {aW : Addr} (gW : mg "WORDS" = some (.ref aW)) (tW : ∀ H, SqT K H aW (wordsS.map V.str)) :
    FnOk P w K mg base CX0 5 f fd ["house", "thing"] (spIsFact K C) := by
  refine Fn.ok sc_is_fact (fun vs H Q E h => ?_) (fun cdv A outer s H vs Q E hr h => ⟨_, PSs.nox
    (pss_cons (ps_if (PW.pt (pw_or (pt_not (pt_val (pe_has his_list (hr.mono (by decide)) (pa_cons (pv 1) pa_nil)))) (pw_or1 (pt_cmpR op_ne (pe_callB call_len (by rfl) gB_len boot_len (pa_cons (pv 1) pa_nil)) pe_int (nomark _))))) (pss_one (ps_ret pe_bl)) pss_nil)
      (pss_cons (ps_asg (pv 1) (pg_seq rfl (pgs_cons (pg_name (i := 2) sc_is_fact.nd rfl (Or.inl rfl)) (pgs_cons (pg_name (i := 3) sc_is_fact.nd rfl (Or.inl rfl)) (pgs_cons (pg_name (i := 4) sc_is_fact.nd rfl (Or.inl rfl)) pgs_nil)))))
      (pss_cons (ps_if (PW.pt (pw_or (pt_cmpR (op_notInW (hu_of hr)) (pv 2) (pe_glob (v := .ref aW) (by rfl) gW rfl) (by rfl)) (pw_or (pt_cmpR (op_notInH Z (hr.mono (by decide))) (pv 3) (pv 0) (by rfl)) (pw_or1 (pt_cmpR (op_notInH Z (hr.mono (by decide))) (pv 4) (pv 0) (by rfl)))))) (pss_one (ps_ret pe_bl)) pss_nil)
      (pss_one (ps_ret (pe_and (pe_cmpR op_ne (pv 3) (pv 4) (nomark _)) (pe_one (pe_or (pe_cmpR op_eq (pv 2) pe_str (nomark _)) (pe_one (pe_cmpR op_in_seq (pv 4) (pe_fld (pv 0) rfl) (by rfl))))))))))), ?_⟩)
  · obtain ⟨h, x, fo, th, b, rfl, _⟩ := h
    rfl
  · obtain ⟨ho, x, fo, th, b, rfl, hou, hx, q⟩ := h
    have hx0 := hx
    rcases hx with ⟨rfl, t, ty, kt⟩ | ⟨rfl, a, xs, rfl, sq, nl⟩ | ⟨a, v1, v2, v3, rfl, sq, i1, i2, i3, rfl⟩
    · refine ⟨_, rfl, x, t, false, rfl, ty, kt, fun H1 x1 => ?_⟩
      exact ⟨false, rfl, q H1 x1⟩
    · obtain ⟨t, ty, kt⟩ := seq_kit sq
      refine ⟨_, rfl, _, t, true, rfl, ty, kt, fun H1 x1 => ?_⟩
      have sq1 := sq.ext x1
      refine ⟨true, rfl, _, rfl, _, xs.length, rfl, ?_, ?_⟩
      · exact sq1.elim (fun z => .inl ⟨_, z, rfl⟩) fun z => .inr ⟨_, z, rfl⟩
      refine ⟨rfl, _, rfl, ?_⟩
      refine ite2 (fun _ => q H1 x1) fun hn => absurd ?_ hn
      have : ¬ (V.int (xs.length : Nat) = V.int 3) := fun e => nl (by injection e with e; omega)
      rw [decide_eq_false this]
      rfl
    · obtain ⟨t, ty, kt⟩ := seq_kit sq
      refine ⟨_, rfl, _, t, true, rfl, ty, kt, fun H1 x1 => ?_⟩
      have sq1 := sq.ext x1
      refine ⟨true, rfl, _, rfl, _, 3, rfl, ?_, ?_⟩
      · exact sq1.elim (fun z => .inl ⟨_, z, rfl⟩) fun z => .inr ⟨_, z, rfl⟩
      refine ⟨rfl, _, rfl, ?_⟩
      refine iteNS rfl ?_
      have j1 := i1.ext x1
      have j2 := i2.ext x1
      have j3 := i3.ext x1
      have hou1 := hou.ext x1
      refine ⟨_, rfl, a, _, rfl, sq1, rfl, ?_⟩
      have qF : ∀ H2, Ext H1 H2 → factB fo th v1 v2 v3 = false → Q (.bl false) H2 := fun H2 x2 e => by
        have z := q H2 (x1.trans x2)
        rw [e] at z
        exact z
      refine ⟨_, _, rfl, _, _, rfl, _, _, rfl, rfl, ?_⟩
      -- the word
      refine ⟨_, rfl, aW, wordsS, rfl, tW H1, j1, _, rfl, ?_⟩
      refine ite2 (fun e => qF H1 Ext.rfl' ?_) fun e => ?_
      · have e' : inV v1 (wordsS.map V.str) = false := by simpa using e
        unfold factB
        rw [e', Bool.false_and]
      have e1 : inV v1 (wordsS.map V.str) = true := by simpa using e
      refine ⟨_, rfl, _, rfl, ho, fo, th, rfl, hou1, j2, _, rfl, ?_⟩
      refine ite2 (fun e => qF H1 Ext.rfl' ?_) fun e => ?_
      · have e' : inV v2 ((fo ++ th).map V.str) = false := by simpa using e
        unfold factB
        rw [e1, e', Bool.false_and]
        rfl
      have e2 : inV v2 ((fo ++ th).map V.str) = true := by simpa using e
      refine ⟨_, rfl, _, rfl, ho, fo, th, rfl, hou1, j3, _, rfl, ?_⟩
      refine ite2 (fun e => qF H1 Ext.rfl' ?_) fun e => ?_
      · have e' : inV v3 ((fo ++ th).map V.str) = false := by simpa using e
        unfold factB
        rw [e1, e2, e', Bool.false_and]
        rfl
      have e3 : inV v3 ((fo ++ th).map V.str) = true := by simpa using e
      obtain ⟨z1, _, rfl⟩ := inV_mem e1
      obtain ⟨z2, _, rfl⟩ := inV_mem e2
      obtain ⟨z3, _, rfl⟩ := inV_mem e3
      have ef : factB fo th (.str z1) (.str z2) (.str z3) = (!decide (V.str z2 = V.str z3) && (decide (V.str z1 = .str "line") || inV (.str z3) (fo.map V.str))) := by
        unfold factB
        rw [e1, e2, e3, Bool.true_and, Bool.true_and, Bool.true_and]
      rw [ef] at q
      refine ⟨_, rfl, _, rfl, rfl, _, rfl, ?_⟩
      refine ite2 (fun e => ?_) fun e => ?_
      · refine ⟨_, rfl, rfl, _, rfl, ?_⟩
        rw [e, Bool.true_and] at q
        refine ite2 (fun e' => ?_) fun e' => ?_
        · rw [e', Bool.true_or] at q
          exact q H1 x1
        · have e'' : decide (V.str z1 = .str "line") = false := by simpa using e'
          rw [e'', Bool.false_or] at q
          obtain ⟨⟨dx, fs, f, t, n, h1, h2, h3, h4, h5, h6, h7⟩, ok1, ok2⟩ := hou1
          exact ⟨_, rfl, _, rfl, ho, C, dx, fs, _, rfl, h1, Z.T.cl, Z.T.nf, h2, f, _, rfl, .inr h5, rfl, flat_strs _, q H1 x1⟩
      · have e'' : (!decide (V.str z2 = V.str z3)) = false := by simpa using e
        rw [e'', Bool.false_and] at q
        exact q H1 x1
end
end My

namespace My
open PySem PySem.Spec PyProof.Rows L2
/-! ### a fact as it is told -/
/-- the nodes of a line in the order of the house -/
def ordS (ns : List Str) (a b : Str) : List Str := ns.filter fun n => decide (n = a) || decide (n = b)
theorem ord_two : ∀ {ns : List Str} {a b : Str}, ns.Nodup → a ∈ ns → b ∈ ns → a ≠ b → ∃ c d, ordS ns a b = [c, d] ∧ ((c = a ∧ d = b) ∨ (c = b ∧ d = a))
  | [], a, b, _, ha, _, _ => by cases ha
  | n :: ns, a, b, nd, ha, hb, ne => by
    obtain ⟨nn, nd'⟩ := List.nodup_cons.mp nd
    have one : ∀ (x : Str), x ∈ ns → ∀ y, y ∉ ns → ordS ns x y = [x] ∧ ordS ns y x = [x] := by
      intro x hx y hy
      clear ha hb ne nn nd
      induction ns with
      | nil => cases hx
      | cons m ms ih =>
        obtain ⟨nm, ndm⟩ := List.nodup_cons.mp nd'
        have hym : m ≠ y := fun e => hy (by rw [e]; exact List.mem_cons_self)
        have hy' : y ∉ ms := fun e => hy (List.mem_cons_of_mem _ e)
        have none_ : ∀ u v : Str, u ∉ ms → v ∉ ms → ordS ms u v = [] := fun u v hu hv => by
          unfold ordS
          rw [List.filter_eq_nil_iff]
          intro k hk
          have h1 : k ≠ u := fun e => hu (e ▸ hk)
          have h2 : k ≠ v := fun e => hv (e ▸ hk)
          simp [h1, h2]
        rcases List.mem_cons.mp hx with rfl | hx'
        · have z1 := none_ x y nm hy'
          have z2 := none_ y x hy' nm
          unfold ordS at z1 z2 ⊢
          rw [List.filter_cons, List.filter_cons, z1, z2]
          simp
        · have hmx : m ≠ x := fun e => nm (e ▸ hx')
          obtain ⟨i1, i2⟩ := ih ndm hx' hy'
          unfold ordS at i1 i2 ⊢
          rw [List.filter_cons, List.filter_cons, i1, i2]
          simp [hmx, hym]
    rcases List.mem_cons.mp ha with rfl | ha'
    · have hb' : b ∈ ns := (List.mem_cons.mp hb).resolve_left fun e => ne e.symm
      have z := (one b hb' a nn).2
      refine ⟨a, b, ?_, .inl ⟨rfl, rfl⟩⟩
      unfold ordS at z ⊢
      rw [List.filter_cons, z]
      simp
    · rcases List.mem_cons.mp hb with rfl | hb'
      · have z := (one a ha' b nn).1
        refine ⟨b, a, ?_, .inr ⟨rfl, rfl⟩⟩
        unfold ordS at z ⊢
        rw [List.filter_cons, z]
        simp
      · have h1 : n ≠ a := fun e => nn (e ▸ ha')
        have h2 : n ≠ b := fun e => nn (e ▸ hb')
        obtain ⟨c, d, e, h⟩ := ord_two nd' ha' hb' ne
        refine ⟨c, d, ?_, h⟩
        unfold ordS at e ⊢
        rw [List.filter_cons, e]
        simp [h1, h2]
/-- a fact of strings -/
def IsF (fo th : List Str) (w a b : Str) : Prop := w ∈ wordsS ∧ a ∈ fo ++ th ∧ b ∈ fo ++ th ∧ a ≠ b ∧ (w = "line" ∨ b ∈ fo)
theorem fact_is {fo th : List Str} {w o p : V} (h : factB fo th w o p = true) : ∃ z a b, w = .str z ∧ o = .str a ∧ p = .str b ∧ IsF fo th z a b := by
  unfold factB at h
  obtain ⟨h1, h⟩ := Bool.and_eq_true_iff.mp h
  obtain ⟨h2, h⟩ := Bool.and_eq_true_iff.mp h
  obtain ⟨h3, h⟩ := Bool.and_eq_true_iff.mp h
  obtain ⟨h4, h5⟩ := Bool.and_eq_true_iff.mp h
  obtain ⟨z, hz, rfl⟩ := inV_mem h1
  obtain ⟨a, ha, rfl⟩ := inV_mem h2
  obtain ⟨b, hb, rfl⟩ := inV_mem h3
  refine ⟨z, a, b, rfl, rfl, rfl, hz, ha, hb, fun e => ?_, ?_⟩
  · subst e
    simp at h4
  · rcases Bool.or_eq_true_iff.mp h5 with h | h
    · have := of_decide_eq_true h
      injection this with e
      exact .inl e
    · obtain ⟨c, hc, e⟩ := inV_mem h
      injection e with e
      exact .inr (e ▸ hc)
theorem is_fact {fo th : List Str} {z a b : Str} (h : IsF fo th z a b) : factB fo th (.str z) (.str a) (.str b) = true := by
  obtain ⟨h1, h2, h3, h4, h5⟩ := h
  unfold factB
  rw [inV_str, inV_str, inV_str, inV_str, decide_eq_true h1, decide_eq_true h2, decide_eq_true h3]
  have : decide (V.str a = V.str b) = false := decide_eq_false fun e => h4 (by injection e)
  rw [this]
  rcases h5 with rfl | h5
  · simp
  · rw [decide_eq_true h5]
    simp
/-- the fact as told -/
def toldS (ns : List Str) (w a b : Str) : List Str := if w = "line" then "line" :: ordS ns a b else [w, a, b]
theorem told_three {fo th : List Str} {w a b : Str} (nd : (fo ++ th).Nodup) (h : IsF fo th w a b) : ∃ c d, toldS (fo ++ th) w a b = [w, c, d] ∧ ((c = a ∧ d = b) ∨ (w = "line" ∧ c = b ∧ d = a)) := by
  unfold toldS
  by_cases e : w = "line"
  · rw [if_pos e]
    obtain ⟨c, d, h1, h2⟩ := ord_two nd h.2.1 h.2.2.1 h.2.2.2.1
    refine ⟨c, d, by rw [h1, e], h2.imp id fun z => ⟨e, z⟩⟩
  · rw [if_neg e]
    exact ⟨a, b, rfl, .inl ⟨rfl, rfl⟩⟩
def spAsTold (K : PySem.W.Frag) (C : Addr) : Sp := fun vs H Q _ => ∃ h x fo th w a b, vs = [.ref h, .ref x] ∧ Hou H K C h fo th ∧ (fo ++ th).Nodup ∧ (fo ++ th).length < sizeLine ∧ IsF fo th w a b ∧ SeqAt2 K H x [.str w, .str a, .str b] ∧
  ∀ t H', Ext H H' → H' t = some (.tup ((toldS (fo ++ th) w a b).map V.str)) → Q (.ref t) H'
abbrev nm_as_told : List Str := ["house", "fact", "word", "one", "other", "first", "second", "node"]
theorem sc_as_told : FnScope nm_as_told ["house", "fact"] (defScope s_as_told) := ⟨rfl, rfl, rfl, by decide +kernel, rfl, by decide +kernel, by decide +kernel⟩
section
variable {P : Program} {w : World} {K : PySem.W.Frag} {mg : Str → Option Value} {base : Heap} {f C CB : Addr} {fd : FuncData}
theorem ok_asTold (Fn : FnP K "as_told" s_as_told f fd) (Z : HouseTxt P w K mg C CB) : FnOk P w K mg base CX0 1 f fd ["house", "fact"] (spAsTold K C) := by
  refine Fn.ok sc_as_told (fun vs H Q E h => ?_) (fun cdv A outer s H vs Q E hr h => ⟨_, PSs.nox
    (pss_cons (ps_asg (pv 1) (pg_seq rfl (pgs_cons (pg_name (i := 2) sc_as_told.nd rfl (Or.inl rfl)) (pgs_cons (pg_name (i := 3) sc_as_told.nd rfl (Or.inr rfl)) (pgs_cons (pg_name (i := 4) sc_as_told.nd rfl (Or.inr rfl)) pgs_nil)))))
      (pss_cons (ps_if (pt_cmpR op_ne (pv 2) pe_str (nomark _)) (pss_one (ps_ret (pe_tup (pa_cons (pv 2) (pa_cons (pv 3) (pa_cons (pv 4) pa_nil)))))) pss_nil)
      (pss_cons (ps_asg (pe_lc (own := [("node", 7)]) (g := (gName 7)) rfl sc_as_told.nd (pi_tup (pe_fld (pv 0) rfl)) (blkOk_by (N := nm_as_told) (sc := defScope s_as_told) (by decide +kernel)) (fun _ _ _ _ _ => (pg_name (i := 7) sc_as_told.nd rfl (Or.inl rfl))) (fun _ _ _ _ _ => pts_one (pt_cmpR (opK (r := fun K => rIn K false) (K := K) rfl op_in_seq) (pv 7) (pe_tup (pa_cons (pv 3) (pa_cons (pv 4) pa_nil))) (by rfl))) (fun _ _ _ _ _ => (pv 7))) (pg_unl rfl (pgs_cons (pg_name (i := 5) sc_as_told.nd rfl (Or.inl rfl)) (pgs_cons (pg_name (i := 6) sc_as_told.nd rfl (Or.inl rfl)) pgs_nil))))
      (pss_one (ps_ret (pe_tup (pa_cons (pv 2) (pa_cons (pv 5) (pa_cons (pv 6) pa_nil))))))))), ?_⟩)
  · obtain ⟨h, x, fo, th, w, a, b, rfl, _⟩ := h
    rfl
  · obtain ⟨ho, x, fo, th, wo, a, b, rfl, hou, nd, hz, hf, sq, q⟩ := h
    refine ⟨_, rfl, x, _, rfl, sq, rfl, ?_⟩
    refine ⟨_, _, rfl, _, _, rfl, _, _, rfl, rfl, ?_⟩
    refine ⟨_, rfl, rfl, _, rfl, ?_⟩
    unfold toldS at q
    refine ite2 (fun e => ?_) fun e => ?_
    · have e' : wo ≠ "line" := fun z => by
        subst z
        exact absurd e (by decide)
      rw [if_neg e'] at q
      refine ⟨_, rfl, _, rfl, _, rfl, Nat.le_of_ble_eq_true rfl, fun t ht => q t _ (Ext.upd ht) upd_same⟩
    · have e' : wo = "line" := by
        have z : V.str wo = V.str "line" := by simpa using e
        injection z
      rw [if_pos e'] at q
      subst e'
      obtain ⟨⟨dx, fs, f, t, n, h1, h2, h3, h4, h5, h6, h7⟩, ok1, ok2⟩ := hou
      refine ⟨_, rfl, ho, C, dx, fs, _, rfl, h1, Z.T.cl, Z.T.nn, h4, n, rfl, ⟨_, h7⟩, fun D hD => ?_⟩
      have enodes : fo.map V.str ++ th.map V.str = (fo ++ th).map V.str := (List.map_append ..).symm
      refine lc_tup (K := K) (a := n) (xs := (fo ++ th).map V.str) (fun i H' => Ext H H' ∧ H' D = some (.lst ((ordS ((fo ++ th).take i) a b).map V.str))) ⟨Ext.upd hD, upd_same⟩ (fun i H' _ p => by rw [← enodes]; exact h7.ext p.1) ?_ ?_
      · intro i v H1 hv ⟨x1, l1⟩
        obtain ⟨z, hz', rfl⟩ : ∃ z, (fo ++ th)[i]? = some z ∧ V.str z = v := by
          rw [List.getElem?_map] at hv
          cases hh : (fo ++ th)[i]? with
          | none => rw [hh] at hv; cases hv
          | some z => rw [hh] at hv; injection hv with hv; exact ⟨z, rfl, hv⟩
        have il : i < (fo ++ th).length := (List.getElem?_eq_some_iff.mp hz').1
        have tk : (fo ++ th).take (i + 1) = (fo ++ th).take i ++ [z] := by
          rw [List.take_add_one, hz']
          rfl
        refine ⟨rfl, _, rfl, _, rfl, _, rfl, Nat.le_of_ble_eq_true rfl, fun T hT => ⟨T, _, rfl, .inr (SqT.of upd_same), rfl, rfl, _, rfl, ?_⟩⟩
        have x2 : Ext H (upd H1 T (.tup [.str a, .str b])) := x1.upd' hT
        have l2 : (upd H1 T (.tup [.str a, .str b])) D = some (.lst ((ordS ((fo ++ th).take i) a b).map V.str)) := Ext.upd hT _ _ l1
        have ein : inV (.str z) [.str a, .str b] = (decide (z = a) || decide (z = b)) := by
          have := inV_str z [a, b]
          rw [show ([.str a, .str b] : List V) = [a, b].map V.str from rfl, this]
          simp
        refine ite2 (fun e => ?_) fun e => ?_
        · have e' : (decide (z = a) || decide (z = b)) = true := by rw [← ein]; exact e
          refine ⟨_, rfl, _, l2, ?_, ?_, ?_⟩
          · rw [List.length_map]
            refine Nat.lt_of_le_of_lt (List.length_filter_le _ _) ?_
            rw [List.length_take]
            omega
          · exact x2.over hD
          · rw [upd_same, tk]
            unfold ordS
            rw [List.filter_append, List.map_append, List.filter_cons, if_pos e']
            rfl
        · have e' : ¬ (decide (z = a) || decide (z = b)) = true := by rw [← ein]; exact e
          refine ⟨x2, ?_⟩
          rw [l2, tk]
          unfold ordS
          rw [List.filter_append, List.filter_cons, if_neg e', List.filter_nil, List.append_nil]
      · intro H1 ⟨x1, l1⟩
        rw [List.length_map, List.take_length] at l1
        obtain ⟨c, d, ecd, _⟩ := ord_two nd hf.2.1 hf.2.2.1 hf.2.2.2.1
        rw [ecd] at l1 q
        refine ⟨D, _, rfl, SqL.of l1, rfl, _, _, rfl, _, _, rfl, rfl, ?_⟩
        exact ⟨_, rfl, _, rfl, _, rfl, Nat.le_of_ble_eq_true rfl, fun t ht => q t _ (x1.upd' ht) upd_same⟩
end
end My

namespace My
open PySem PySem.Spec PyProof.Rows L2
/-! ### what is against a fact -/
/-- rows of texts, each a tuple -/
def Rows (K : PySem.W.Frag) (H : Hp) : List V → List (List Str) → Prop
  | [], [] => True
  | x :: xs, r :: rs => (∃ t, x = .ref t ∧ SqT K H t (r.map V.str)) ∧ Rows K H xs rs
  | _, _ => False
theorem Rows.ext {K : PySem.W.Frag} {H H' : Hp} (e : Ext H H') : ∀ {xs : List V} {rs : List (List Str)}, Rows K H xs rs → Rows K H' xs rs
  | [], [], _ => True.intro
  | _ :: _, _ :: _, ⟨⟨t, e1, h⟩, hr⟩ => ⟨⟨t, e1, h.ext e⟩, Rows.ext e hr⟩
  | [], _ :: _, h => h.elim
  | _ :: _, [], h => h.elim
theorem Rows.len {K : PySem.W.Frag} {H : Hp} : ∀ {xs : List V} {rs : List (List Str)}, Rows K H xs rs → xs.length = rs.length
  | [], [], _ => rfl
  | _ :: _, _ :: _, ⟨_, hr⟩ => congrArg (· + 1) (Rows.len hr)
  | [], _ :: _, h => h.elim
  | _ :: _, [], h => h.elim
theorem Rows.app {K : PySem.W.Frag} {H : Hp} : ∀ {xs ys : List V} {rs ss : List (List Str)}, Rows K H xs rs → Rows K H ys ss → Rows K H (xs ++ ys) (rs ++ ss)
  | [], _, [], _, _, h => h
  | _ :: _, _, _ :: _, _, ⟨h1, h2⟩, h => ⟨h1, Rows.app h2 h⟩
  | [], _, _ :: _, _, h, _ => h.elim
  | _ :: _, _, [], _, h, _ => h.elim
theorem Rows.at_ {K : PySem.W.Frag} {H : Hp} : ∀ {xs : List V} {rs : List (List Str)} {i : Nat} {x : V}, Rows K H xs rs → xs[i]? = some x → ∃ t r, x = .ref t ∧ SqT K H t (r.map V.str) ∧ rs[i]? = some r
  | _ :: _, r :: _, 0, _, ⟨⟨t, e1, h⟩, _⟩, e => by
    injection e with e
    subst e
    exact ⟨t, r, e1, h, rfl⟩
  | _ :: xs, _ :: rs, i + 1, x, ⟨_, h⟩, e => Rows.at_ (xs := xs) (rs := rs) h e
  | [], [], _, _, _, e => by cases e
  | [], _ :: _, _, _, h, _ => h.elim
  | _ :: _, [], _, _, h, _ => h.elim
/-- a list of rows -/
def RowsAt (K : PySem.W.Frag) (H : Hp) (l : Addr) (rs : List (List Str)) : Prop := ∃ xs, H l = some (.lst xs) ∧ Rows K H xs rs
theorem RowsAt.ext {K : PySem.W.Frag} {H H' : Hp} {l : Addr} {rs : List (List Str)} (h : RowsAt K H l rs) (e : Ext H H') : RowsAt K H' l rs := by
  obtain ⟨xs, h1, h2⟩ := h
  exact ⟨xs, e _ _ h1, h2.ext e⟩
theorem Rows.upd {K : PySem.W.Frag} {H : Hp} {l : Addr} {ys zs : List V} (hl : H l = some (.lst ys)) : ∀ {xs : List V} {rs : List (List Str)}, Rows K H xs rs → Rows K (L2.upd H l (.lst zs)) xs rs
  | [], [], _ => True.intro
  | _ :: _, _ :: _, ⟨⟨t, e1, h⟩, hr⟩ => ⟨⟨t, e1, sqT_upd h hl⟩, Rows.upd hl hr⟩
  | [], _ :: _, h => h.elim
  | _ :: _, [], h => h.elim
def agS (fo : List Str) (w c d : Str) : List (List Str) := if w = "below" then [["not", c, d]] else if w = "not" then [["below", c, d]] else (([(c, d), (d, c)] : List (Str × Str)).filter fun p => decide (p.2 ∈ fo)).map fun p => ["not", p.1, p.2]
/-- the same of a fact as it stands -/
def agF (fo th : List Str) (w a b : Str) : List (List Str) := match toldS (fo ++ th) w a b with
  | [w, c, d] => agS fo w c d
  | _ => []
end My

namespace My
open PySem PySem.Spec PyProof.Rows L2
/-- list(a) of a list or a tuple -/
def rLstS (K : PySem.W.Frag) : List V → Hp → VK → Prop := fun xs H Q => ∃ a zs, xs = [.ref a] ∧ SeqAt2 K H a zs ∧ ∀ l, H l = none → Q (.ref l) (L2.upd H l (.lst zs))
theorem call_lstS {X : Cx} : CallR X (.type "list") (rLstS X.K) := by
  intro pins s σ H xs us Q I rv h
  obtain ⟨a, zs, rfl, sq, q⟩ := h
  exact call_list_of pins s σ H _ us Q I rv ⟨a, zs, rfl, sq, q⟩
/-! ### dicts with text keys -/
abbrev Dic : Type := List (Str × V)
def kd (d : Dic) : List (Key × V) := d.map fun p => (Sum.inr p.1, p.2)
def getD (d : Dic) (z : Str) : Option V := (d.find? fun p => decide (p.1 = z)).map (·.2)
theorem val_kd (z : Str) : ∀ d : Dic, valV (kd d) (Sum.inr z) = getD d z
  | [] => rfl
  | (y, v) :: d => by
    have ih := val_kd z d
    unfold valV getD kd at *
    rw [List.map_cons, List.find?_cons, List.find?_cons]
    by_cases e : y = z
    · subst e
      simp
    · have e2 : ¬ ((Sum.inr y : Key) = Sum.inr z) := fun h => e (by injection h)
      simp only [e, e2, decide_false]
      exact ih
def setD (d : Dic) (z : Str) (v : V) : Dic := if (d.any fun p => decide (p.1 = z)) = true then d.map fun p => if p.1 = z then (p.1, v) else p else d ++ [(z, v)]
theorem any_kd (z : Str) (d : Dic) : ((kd d).any fun kv => decide (kv.1 = Sum.inr z)) = d.any fun p => decide (p.1 = z) := by
  unfold kd
  rw [List.any_map]
  congr 1
  funext p
  show decide ((Sum.inr p.1 : Key) = Sum.inr z) = decide (p.1 = z)
  by_cases e : p.1 = z
  · rw [decide_eq_true e, decide_eq_true (by rw [e])]
  · rw [decide_eq_false e, decide_eq_false fun h => e (by injection h)]
theorem put_kd (d : Dic) (z : Str) (v : V) : putK (kd d) (Sum.inr z) v = kd (setD d z v) := by
  unfold putK setD
  rw [any_kd]
  by_cases h : (d.any fun p => decide (p.1 = z)) = true
  · rw [if_pos h, if_pos h]
    unfold kd
    rw [List.map_map, List.map_map]
    refine List.map_congr_left fun p _ => ?_
    show (if (Sum.inr p.1 : Key) = Sum.inr z then ((Sum.inr p.1 : Key), v) else (Sum.inr p.1, p.2)) = _
    by_cases e : p.1 = z
    · rw [if_pos (by rw [e])]
      simp [e]
    · rw [if_neg fun h => e (by injection h)]
      simp [e]
  · rw [if_neg h, if_neg h]
    unfold kd
    rw [List.map_append]
    rfl
theorem setD_len (d : Dic) (z : Str) (v : V) : (setD d z v).length ≤ d.length + 1 := by
  unfold setD
  split
  · rw [List.length_map]
    exact Nat.le_succ _
  · rw [List.length_append]
    exact Nat.le_refl _
theorem setD_mem {d : Dic} {z : Str} {v : V} {p : Str × V} (h : p ∈ setD d z v) : p ∈ d ∨ p.2 = v := by
  unfold setD at h
  split at h
  · obtain ⟨q, hq, e⟩ := List.mem_map.mp h
    by_cases c : q.1 = z
    · rw [if_pos c] at e
      exact .inr (by rw [← e])
    · rw [if_neg c] at e
      exact .inl (e ▸ hq)
  · rcases List.mem_append.mp h with h | h
    · exact .inl h
    · rw [List.mem_singleton.mp h]
      exact .inr rfl
theorem getD_mem {d : Dic} {z : Str} {v : V} (h : getD d z = some v) : ∃ p, p ∈ d ∧ p.2 = v := by
  unfold getD at h
  cases e : d.find? fun p => decide (p.1 = z) with
  | none => rw [e] at h; cases h
  | some p =>
    rw [e] at h
    injection h with h
    exact ⟨p, List.mem_of_find?_eq_some e, h⟩
/-- the worths: None or folders -/
def DicOk (fo : List Str) (d : Dic) : Prop := ∀ p, p ∈ d → p.2 = .non ∨ ∃ z, z ∈ fo ∧ p.2 = .str z
def Opt (fo : List Str) (v : V) : Prop := v = .non ∨ ∃ z, z ∈ fo ∧ v = .str z
theorem getD_opt {fo : List Str} {d : Dic} (h : DicOk fo d) (z : Str) : Opt fo ((getD d z).getD .non) := by
  cases e : getD d z with
  | none => exact .inl rfl
  | some v =>
    obtain ⟨p, hp, e2⟩ := getD_mem e
    rw [← e2]
    exact h p hp
def stepV (d : Dic) : V → V
  | .str z => (getD d z).getD .non
  | v => v
theorem step_opt {fo : List Str} {d : Dic} (h : DicOk fo d) {v : V} (hv : Opt fo v) : Opt fo (stepV d v) := by
  rcases hv with rfl | ⟨z, _, rfl⟩
  · exact .inl rfl
  · exact getD_opt h z
/-! ### rows as data -/
def rowsD (rs : List (List Str)) : PyData := .list (rs.map fun r => .tuple (r.map PyData.str))
def OkR (rs : List (List Str)) : Prop := ∀ r, r ∈ rs → OkS r
theorem rows_dp {K : PySem.W.Frag} {H : Hp} : ∀ {xs : List V} {rs : List (List Str)}, Rows K H xs rs → DpAll K H xs (rs.map fun r => PyData.tuple (r.map PyData.str))
  | [], [], _ => .nil
  | _ :: _, r :: _, ⟨⟨t, e, h⟩, hr⟩ => by
    subst e
    exact .cons (.tup h (dpAll_str r)) (rows_dp hr)
  | [], _ :: _, h => h.elim
  | _ :: _, [], h => h.elim
theorem rows_shaped {rs : List (List Str)} (h : OkR rs) : SeqAt.shaped (rowsD rs) = true := shaped_ds _ fun d hd => by
  obtain ⟨r, hr, rfl⟩ := List.mem_map.mp hd
  exact flat_tup r (h r hr)
theorem eqvAll_rows : ∀ rs ss : List (List Str), PyData.eqvAll (rs.map fun r => PyData.tuple (r.map PyData.str)) (ss.map fun r => PyData.tuple (r.map PyData.str)) = decide (rs = ss)
  | [], [] => rfl
  | [], _ :: _ => rfl
  | _ :: _, [] => rfl
  | r :: rs, s :: ss => by
    show (PyData.eqv (.tuple (r.map PyData.str)) (.tuple (s.map PyData.str)) && PyData.eqvAll (rs.map fun r => PyData.tuple (r.map PyData.str)) (ss.map fun r => PyData.tuple (r.map PyData.str))) = _
    rw [eqvAll_rows rs ss, eqv_strT]
    by_cases h : r = s
    · subst h
      simp
    · simp [h]
theorem eqv_rows (rs ss : List (List Str)) : PyData.eqv (rowsD rs) (rowsD ss) = decide (rs = ss) := eqvAll_rows rs ss
def Three (rs : List (List Str)) : Prop := ∀ r, r ∈ rs → ∃ w a b, r = [w, a, b]
theorem filter_all {α : Type} (p : α → Bool) : ∀ xs : List α, decide (xs.filter (fun x => !p x) = ([] : List α)) = xs.all p
  | [] => rfl
  | x :: xs => by
    have ih := filter_all p xs
    rw [List.filter_cons, List.all_cons]
    cases h : p x with
    | true => simpa using ih
    | false => simp
theorem kd_len (d : Dic) : (kd d).length = d.length := List.length_map _
theorem ext_none {H H' : Hp} {p : Addr} (e : Ext H H') (h : H' p = none) : H p = none := by
  cases hh : H p with
  | none => rfl
  | some u => exact absurd (e p u hh) (by rw [h]; exact fun z => nomatch z)
theorem strs_at {zs : List Str} {i : Nat} {v : V} (h : (zs.map V.str)[i]? = some v) : ∃ z, zs[i]? = some z ∧ v = .str z := by
  rw [List.getElem?_map] at h
  cases e : zs[i]? with
  | none => rw [e] at h; cases h
  | some z =>
    rw [e] at h
    injection h with h
    exact ⟨z, rfl, h.symm⟩
/-! ### lines in the order of the house -/
theorem ord_app (a b : Str) (xs ys : List Str) : ordS (xs ++ ys) a b = ordS xs a b ++ ordS ys a b := List.filter_append ..
theorem ord_none {ns : List Str} {a b : Str} (ha : a ∉ ns) (hb : b ∉ ns) : ordS ns a b = [] := by
  unfold ordS
  rw [List.filter_eq_nil_iff]
  intro k hk
  have h1 : k ≠ a := fun e => ha (e ▸ hk)
  have h2 : k ≠ b := fun e => hb (e ▸ hk)
  simp [h1, h2]
theorem ord_comm (ns : List Str) (a b : Str) : ordS ns a b = ordS ns b a := by
  unfold ordS
  congr 1
  funext n
  rw [Bool.or_comm]
theorem ord_lt : ∀ {ns : List Str} {a b : Str} {i j : Nat}, ns.Nodup → ns[i]? = some a → ns[j]? = some b → i < j → ordS ns a b = [a, b]
  | n :: ns, a, b, 0, j + 1, nd, ha, hb, _ => by
    obtain ⟨nn, nd'⟩ := List.nodup_cons.mp nd
    injection ha with ha
    subst ha
    have hb' : b ∈ ns := List.mem_of_getElem? hb
    have nb : n ≠ b := fun e => nn (e ▸ hb')
    obtain ⟨c, d, e, h⟩ := ord_two nd List.mem_cons_self (List.mem_cons_of_mem _ hb') nb
    have e0 := e
    unfold ordS at e
    rw [List.filter_cons, if_pos (by simp)] at e
    injection e with e1 e2
    rw [e0]
    rcases h with ⟨h1, h2⟩ | ⟨h1, h2⟩
    · rw [h1, h2]
    · exact absurd (e1.trans h1) nb
  | n :: ns, a, b, i + 1, j + 1, nd, ha, hb, h => by
    obtain ⟨nn, nd'⟩ := List.nodup_cons.mp nd
    have ha' : a ∈ ns := List.mem_of_getElem? (i := i) ha
    have hb' : b ∈ ns := List.mem_of_getElem? (i := j) hb
    have h1 : n ≠ a := fun e => nn (e ▸ ha')
    have h2 : n ≠ b := fun e => nn (e ▸ hb')
    have ih := ord_lt (ns := ns) (i := i) (j := j) nd' ha hb (Nat.lt_of_succ_lt_succ h)
    unfold ordS at ih ⊢
    rw [List.filter_cons, ih]
    simp [h1, h2]
theorem agF_line {fo th : List Str} {a b c d : Str} (h : ordS (fo ++ th) a b = [c, d]) : agF fo th "line" a b = (([(c, d), (d, c)] : List (Str × Str)).filter fun p => decide (p.2 ∈ fo)).map fun p => [("not" : Str), p.1, p.2] := by
  unfold agF toldS
  rw [if_pos rfl, h]
  show agS fo "line" c d = _
  unfold agS
  rw [if_neg (by decide), if_neg (by decide)]
theorem agF_other {fo th : List Str} {w a b : Str} (h : w ≠ "line") : agF fo th w a b = agS fo w a b := by
  unfold agF toldS
  rw [if_neg h]
theorem strs_idx {ns : List Str} {j : Nat} {z : Str} (nd : ns.Nodup) (h : ns[j]? = some z) : ∀ (m : Nat) (z' : V), m < j → (ns.map V.str)[m]? = some z' → eqV z' (.str z) = false := fun m z' hm e => by
  obtain ⟨y, hy, rfl⟩ := strs_at e
  cases hh : eqV (.str y) (.str z) with
  | false => rfl
  | true =>
    have e2 : (V.str z) = .str y := eqV_strE hh
    injection e2 with e2
    subst e2
    obtain ⟨h1, e1⟩ := List.getElem?_eq_some_iff.mp h
    obtain ⟨h2, e3⟩ := List.getElem?_eq_some_iff.mp hy
    have := (List.getElem_inj nd).mp (e1.trans e3.symm)
    omega
theorem ag_three {fo th : List Str} {w a b : Str} (nd : (fo ++ th).Nodup) (h : IsF fo th w a b) : ∀ r, r ∈ agF fo th w a b → ∃ w2 a2 b2, r = [w2, a2, b2] ∧ w2 ∈ wordsS ∧ a2 ∈ fo ++ th ∧ b2 ∈ fo ++ th := fun r hr => by
  obtain ⟨c, d, et, hcd⟩ := told_three nd h
  have hc : c ∈ fo ++ th := by
    rcases hcd with ⟨rfl, rfl⟩ | ⟨_, rfl, rfl⟩
    · exact h.2.1
    · exact h.2.2.1
  have hd : d ∈ fo ++ th := by
    rcases hcd with ⟨rfl, rfl⟩ | ⟨_, rfl, rfl⟩
    · exact h.2.2.1
    · exact h.2.1
  unfold agF at hr
  rw [et] at hr
  have hr : r ∈ agS fo w c d := hr
  unfold agS at hr
  split at hr
  · rw [List.mem_singleton.mp hr]
    exact ⟨_, _, _, rfl, by decide, hc, hd⟩
  · split at hr
    · rw [List.mem_singleton.mp hr]
      exact ⟨_, _, _, rfl, by decide, hc, hd⟩
    · obtain ⟨p, hp, rfl⟩ := List.mem_map.mp hr
      have hp := (List.mem_filter.mp hp).1
      rcases List.mem_cons.mp hp with rfl | hp
      · exact ⟨_, _, _, rfl, by decide, hc, hd⟩
      · rw [List.mem_singleton.mp hp]
        exact ⟨_, _, _, rfl, by decide, hd, hc⟩
theorem ag_len {fo th : List Str} {w a b : Str} (nd : (fo ++ th).Nodup) (h : IsF fo th w a b) : (agF fo th w a b).length ≤ 2 := by
  obtain ⟨c, d, et, _⟩ := told_three nd h
  unfold agF
  rw [et]
  show (agS fo w c d).length ≤ 2
  unfold agS
  split
  · exact Nat.le_of_ble_eq_true rfl
  · split
    · exact Nat.le_of_ble_eq_true rfl
    · rw [List.length_map]
      exact Nat.le_trans (List.length_filter_le _ _) (Nat.le_of_ble_eq_true rfl)
theorem sqT_butL {K : PySem.W.Frag} {H H' : Hp} {p t : Addr} {ys xs : List V} (hp : H p = some (.lst ys)) (b : But H H' p) (h : SqT K H t xs) : SqT K H' t xs := by
  rcases h with (h | ⟨o, h⟩) | h
  · exact .inl (.inl (b _ _ (ne_of h hp (fun z => nomatch z)) h))
  · exact .inl (.inr ⟨o, b _ _ (ne_of h hp (fun z => nomatch z)) h⟩)
  · exact .inr h
theorem Rows.butL {K : PySem.W.Frag} {H H' : Hp} {p : Addr} {ys : List V} (hp : H p = some (.lst ys)) (b : But H H' p) : ∀ {xs : List V} {rs : List (List Str)}, Rows K H xs rs → Rows K H' xs rs
  | [], [], _ => True.intro
  | _ :: _, _ :: _, ⟨⟨t, e1, h⟩, hr⟩ => ⟨⟨t, e1, sqT_butL hp b h⟩, Rows.butL hp b hr⟩
  | [], _ :: _, h => h.elim
  | _ :: _, [], h => h.elim
theorem hou_butL {H H' : Hp} {K : PySem.W.Frag} {C h p : Addr} {fo th : List Str} {ys : List V} (hp : H p = some (.lst ys)) (b : But H H' p) (hh : Hou H K C h fo th) : Hou H' K C h fo th := by
  obtain ⟨⟨dx, fs, f, t, n, h1, h2, h3, h4, h5, h6, h7⟩, k⟩ := hh
  exact ⟨⟨dx, fs, f, t, n, b _ _ (ne_of h1 hp (fun z => nomatch z)) h1, h2, h3, h4, sqT_butL hp b h5, sqT_butL hp b h6, sqT_butL hp b h7⟩, k⟩
theorem Pool.lst {H : Hp} {p : Addr} {n : Int} (h : Pool H p n) : ∃ ys, H p = some (.lst ys) := by
  obtain ⟨g, m, c, h, _⟩ := h
  exact ⟨_, h⟩
theorem ext_but' {H H1 H2 : Hp} {p : Addr} (x : Ext H H1) (h : H p = none) (b : But H1 H2 p) : Ext H H2 := fun a u e => b a u (ne_of_none e h) (x a u e)
theorem cutV_takeA {xs : List V} {k : Nat} : cutV xs none (some ((k : Nat) : Int)) = xs.take k := by
  unfold cutV
  rw [HT.sIx_none, HT.sIx_nat, Nat.sub_zero, List.drop_zero]
  rcases Nat.le_total k xs.length with h | h
  · rw [Nat.min_eq_left h]
  · rw [Nat.min_eq_right h, List.take_of_length_le (Nat.le_refl _), List.take_of_length_le h]
/-! ### what is no fact -/
theorem no_kit {K : PySem.W.Frag} {H : Hp} {fo th : List Str} {x : V} {a : String} (h : TyX K H x (.type a)) (h1 : kitB a "list" = some false) (h2 : kitB a "tuple" = some false) : FactOf K H fo th x false := .inl ⟨rfl, _, h, kit_no h1 h2⟩
theorem no_len {K : PySem.W.Frag} {H : Hp} {fo th : List Str} {a : Addr} {xs : List V} (h : SeqAt2 K H a xs) (n : xs.length ≠ 3) : FactOf K H fo th (.ref a) false := .inr (.inl ⟨rfl, a, xs, rfl, h, n⟩)
theorem no_fact {K : PySem.W.Frag} {H : Hp} {fo th : List Str} {a : Addr} {w o p : V} (h : SeqAt2 K H a [w, o, p]) (h1 : Itm K H w) (h2 : Itm K H o) (h3 : Itm K H p) (e : factB fo th w o p = false) : FactOf K H fo th (.ref a) false := .inr (.inr ⟨a, w, o, p, rfl, h, h1, h2, h3, e.symm⟩)
theorem fb_w {fo th : List Str} {w o p : V} (h : inV w (wordsS.map V.str) = false) : factB fo th w o p = false := by
  unfold factB
  rw [h, Bool.false_and]
theorem fb_o {fo th : List Str} {w o p : V} (h : inV o ((fo ++ th).map V.str) = false) : factB fo th w o p = false := by
  unfold factB
  rw [h, Bool.false_and, Bool.and_false]
theorem fb_p {fo th : List Str} {w o p : V} (h : inV p ((fo ++ th).map V.str) = false) : factB fo th w o p = false := by
  unfold factB
  rw [h, Bool.false_and, Bool.and_false, Bool.and_false]
theorem fb_eq {fo th : List Str} {w o : V} : factB fo th w o o = false := by
  unfold factB
  rw [decide_eq_true (rfl : o = o)]
  simp
theorem fb_fo {fo th : List Str} {w o p : V} (hw : w ≠ .str "line") (h : inV p (fo.map V.str) = false) : factB fo th w o p = false := by
  unfold factB
  rw [h, decide_eq_false hw]
  simp
theorem inV_not {z : Str} {zs : List Str} (h : z ∉ zs) : inV (.str z) (zs.map V.str) = false := by
  rw [inV_str]
  exact decide_eq_false h
theorem inV_non (zs : List Str) : inV .non (zs.map V.str) = false := inV_no (fun _ => rfl) zs
/-- a fact under any L that tells what lies below what -/
def holdsG (L : Str → Str → Bool) (w a b : Str) : Bool := if w = "below" then L a b else if w = "not" then !L a b else L a b || L b a
def holdsGR (L : Str → Str → Bool) : List Str → Bool
  | [w, a, b] => holdsG L w a b
  | _ => true
theorem ag_allG {fo th : List Str} {L : Str → Str → Bool} {w a b : Str} (hL : ∀ x y, y ∉ fo → L x y = false) (nd : (fo ++ th).Nodup) (h : IsF fo th w a b) : (agF fo th w a b).all (holdsGR L) = !holdsG L w a b := by
  have hn : ∀ x y, holdsG L "not" x y = !L x y := fun x y => by
    unfold holdsG
    rw [if_neg (by decide), if_pos rfl]
  by_cases e1 : w = "below"
  · subst e1
    rw [agF_other (by decide)]
    show (holdsG L "not" a b && true) = !holdsG L "below" a b
    rw [hn, Bool.and_true]
    rfl
  by_cases e2 : w = "not"
  · subst e2
    rw [agF_other (by decide), hn, Bool.not_not]
    show (holdsG L "below" a b && true) = L a b
    rw [Bool.and_true]
    rfl
  obtain rfl : w = "line" := by
    have z := h.1
    unfold wordsS at z
    simp at z
    rcases z with z | z | z
    · exact absurd z e1
    · exact absurd z e2
    · exact z
  obtain ⟨c, e, ho, hh⟩ := ord_two nd h.2.1 h.2.2.1 h.2.2.2.1
  rw [agF_line ho]
  have one : ∀ x y : Str, ((([(x, y)] : List (Str × Str)).filter fun p => decide (p.2 ∈ fo)).map fun p => [("not" : Str), p.1, p.2]).all (holdsGR L) = !L x y := fun x y => by
    by_cases m : y ∈ fo
    · rw [List.filter_cons, if_pos (decide_eq_true m)]
      show (holdsG L "not" x y && true) = _
      rw [hn, Bool.and_true]
    · rw [List.filter_cons, if_neg (show ¬ decide ((x, y).2 ∈ fo) = true from fun z => m (of_decide_eq_true z)), hL x y m]
      rfl
  have two : ((([(c, e), (e, c)] : List (Str × Str)).filter fun p => decide (p.2 ∈ fo)).map fun p => [("not" : Str), p.1, p.2]).all (holdsGR L) = (!L c e && !L e c) := by
    rw [← one c e, ← one e c, ← List.all_append, ← List.map_append, ← List.filter_append]
    rfl
  rw [two]
  have hb : holdsG L "line" a b = (L a b || L b a) := by
    unfold holdsG
    rw [if_neg (by decide), if_neg (by decide)]
  rw [hb]
  rcases hh with ⟨rfl, rfl⟩ | ⟨rfl, rfl⟩
  · cases L c e <;> cases L e c <;> rfl
  · cases L c e <;> cases L e c <;> rfl
theorem isF_swap {fo th : List Str} {a b : Str} (h : IsF fo th "line" a b) : IsF fo th "line" b a := ⟨by decide, h.2.2.1, h.2.1, fun e => h.2.2.2.1 e.symm, .inl rfl⟩
theorem wordsOk : ∀ z ∈ wordsS, PyData.strOk z = true := by decide +kernel
end My

namespace L2
open PySem PySem.Spec PyProof.Rows
theorem u65 {k : Nat} {A : Around} (h : Room k A) : A.units + 65 < cLine := by
  have := h.un
  omega
theorem PI.or {X : Cx} {tg e : Expr} {w1 w2 : TI} (h : PI X tg e w1) (h' : PI X tg e w2) : PI X tg e (fun σ H R => w1 σ H R ∨ w2 σ H R) :=
  ⟨fun pins s σ H R I q => q.elim (h.run pins s σ H R I) (h'.run pins s σ H R I)⟩
theorem pi_seqS {X : Cx} {tg l : Expr} {tl : TE} (h : PE X l tl) : PI X tg l (fun σ H R => iList X.K tl σ H R ∨ iTup X.K tl σ H R) := PI.or (pi_list h) (pi_tup h)
end L2
namespace My
open PySem PySem.Spec PyProof.Rows L2
/-! ### facts in a list -/
/-- the first thing that is no fact -/
def firstF (bs : List Bool) : Option Nat := (List.range bs.length).find? fun i => bs[i]? == some false
theorem first_none {bs : List Bool} (h : ∀ i, i < bs.length → bs[i]? = some true) : firstF bs = none := List.find?_range_eq_none.mpr fun i hi => by rw [h i hi]; rfl
theorem first_some {bs : List Bool} {i : Nat} (h : bs[i]? = some false) (h2 : ∀ j, j < i → bs[j]? = some true) : firstF bs = some i := by
  have hi : i < bs.length := (List.getElem?_eq_some_iff.mp h).1
  exact List.find?_range_eq_some.mpr ⟨by rw [h]; rfl, List.mem_range.mpr hi, fun j hj => by rw [h2 j hj]; rfl⟩
/-- whether each of the things is a fact -/
def FactsOf (K : PySem.W.Frag) (H : Hp) (fo th : List Str) (xs : List V) (bs : List Bool) : Prop := xs.length = bs.length ∧ ∀ (i : Nat) (x : V), xs[i]? = some x → ∃ b, bs[i]? = some b ∧ FactOf K H fo th x b
theorem FactsOf.ext {K : PySem.W.Frag} {H H' : Hp} {fo th : List Str} {xs : List V} {bs : List Bool} (h : FactsOf K H fo th xs bs) (e : Ext H H') : FactsOf K H' fo th xs bs := ⟨h.1, fun i x hx => by
  obtain ⟨b, h1, h2⟩ := h.2 i x hx
  exact ⟨b, h1, h2.ext e⟩⟩
/-- what is passed as a list of facts: no list, or things -/
def Passed (K : PySem.W.Frag) (H : Hp) (fo th : List Str) (x : V) (o : Option Nat) : Prop := (o = some 0 ∧ ∃ t, TyX K H x t ∧ PySem.W.kitAny K t [.type "list", .type "tuple"] = some false) ∨
  ∃ a xs bs, x = .ref a ∧ SeqAt2 K H a xs ∧ FactsOf K H fo th xs bs ∧ o = firstF bs
theorem Passed.ext {K : PySem.W.Frag} {H H' : Hp} {fo th : List Str} {x : V} {o : Option Nat} (h : Passed K H fo th x o) (e : Ext H H') : Passed K H' fo th x o := by
  rcases h with ⟨h0, t, h1, h2⟩ | ⟨a, xs, bs, h1, h2, h3, h4⟩
  · exact .inl ⟨h0, t, h1.ext e, h2⟩
  · exact .inr ⟨a, xs, bs, h1, h2.ext e, h3.ext e, h4⟩
def spWrongFact (K : PySem.W.Frag) (C : Addr) : Sp := fun vs H Q _ => ∃ h x fo th o, vs = [.ref h, x] ∧ Hou H K C h fo th ∧ Passed K H fo th x o ∧ ∀ H', Ext H H' → Q (optV o) H'
/-! ### facts as they are told -/
def toldR (ns : List Str) : List Str → List Str
  | [w, a, b] => toldS ns w a b
  | r => r
def onceR (rs : List (List Str)) : List (List Str) := rs.foldl (fun acc r => if r ∈ acc then acc else acc ++ [r]) []
theorem once_snoc (rs : List (List Str)) (r : List Str) : onceR (rs ++ [r]) = if r ∈ onceR rs then onceR rs else onceR rs ++ [r] := by
  unfold onceR
  rw [List.foldl_append]
  rfl
/-- rows of texts, each a list or a tuple -/
def Raws (K : PySem.W.Frag) (H : Hp) (xs : List V) (rs : List (List Str)) : Prop := xs.length = rs.length ∧ ∀ (i : Nat) (x : V), xs[i]? = some x → ∃ (t : Addr) (r : List Str), x = .ref t ∧ rs[i]? = some r ∧ SeqAt2 K H t (r.map V.str)
theorem Raws.ext {K : PySem.W.Frag} {H H' : Hp} {xs : List V} {rs : List (List Str)} (h : Raws K H xs rs) (e : Ext H H') : Raws K H' xs rs := ⟨h.1, fun i x hx => by
  obtain ⟨t, r, h1, h2, h3⟩ := h.2 i x hx
  exact ⟨t, r, h1, h2, h3.ext e⟩⟩
def FactR (fo th : List Str) (rs : List (List Str)) : Prop := ∀ r, r ∈ rs → ∃ w a b, r = [w, a, b] ∧ IsF fo th w a b
theorem fold_mem : ∀ (rs acc : List (List Str)) (r : List Str), r ∈ rs.foldl (fun acc r => if r ∈ acc then acc else acc ++ [r]) acc → r ∈ acc ∨ r ∈ rs
  | [], _, _, h => .inl h
  | x :: rs, acc, r, h => by
    rcases fold_mem rs _ r h with h | h
    · have h : r ∈ (if x ∈ acc then acc else acc ++ [x]) := h
      split at h
      · exact .inl h
      · rcases List.mem_append.mp h with h | h
        · exact .inl h
        · exact .inr (by rw [List.mem_singleton.mp h]; exact List.mem_cons_self)
    · exact .inr (List.mem_cons_of_mem _ h)
theorem once_mem {rs : List (List Str)} {r : List Str} (h : r ∈ onceR rs) : r ∈ rs := (fold_mem rs [] r h).resolve_left fun z => by cases z
theorem once_len : ∀ (rs acc : List (List Str)), (rs.foldl (fun acc r => if r ∈ acc then acc else acc ++ [r]) acc).length ≤ acc.length + rs.length
  | [], _ => Nat.le_refl _
  | x :: rs, acc => by
    refine Nat.le_trans (once_len rs _) ?_
    show (if x ∈ acc then acc else acc ++ [x]).length + rs.length ≤ _
    split
    · rw [List.length_cons]; omega
    · rw [List.length_append, List.length_cons, List.length_cons, List.length_nil]; omega
theorem any_rows (r : List Str) : ∀ rs : List (List Str), ((rs.map fun r => PyData.tuple (r.map PyData.str)).any fun z => PyData.eqv z (.tuple (r.map PyData.str))) = decide (r ∈ rs)
  | [] => rfl
  | s :: rs => by
    rw [List.map_cons, List.any_cons, any_rows r rs, eqv_strT]
    by_cases h : r = s
    · subst h
      simp
    · have h' : ¬ s = r := fun e => h e.symm
      simp [h, h']
/-- told rows: three texts each -/
def Told (ns : List Str) (rs : List (List Str)) : Prop := ∀ r, r ∈ rs → ∃ w a b, r = [w, a, b] ∧ w ∈ wordsS ∧ a ∈ ns ∧ b ∈ ns
theorem told_ok {fo th : List Str} (nd : (fo ++ th).Nodup) {rs : List (List Str)} (h : FactR fo th rs) : Told (fo ++ th) (rs.map (toldR (fo ++ th))) := fun r hr => by
  obtain ⟨x, hx, rfl⟩ := List.mem_map.mp hr
  obtain ⟨w, a, b, rfl, isf⟩ := h x hx
  obtain ⟨c, d, e, hcd⟩ := told_three nd isf
  refine ⟨w, c, d, e, isf.1, ?_, ?_⟩
  · rcases hcd with ⟨rfl, _⟩ | ⟨_, rfl, _⟩
    · exact isf.2.1
    · exact isf.2.2.1
  · rcases hcd with ⟨_, rfl⟩ | ⟨_, _, rfl⟩
    · exact isf.2.2.1
    · exact isf.2.1
def spEachOnce (K : PySem.W.Frag) (C : Addr) : Sp := fun vs H Q _ => ∃ h x fo th xs rs, vs = [.ref h, .ref x] ∧ Hou H K C h fo th ∧ (fo ++ th).Nodup ∧ (fo ++ th).length < sizeLine ∧ (∀ z, z ∈ fo ++ th → PyData.strOk z = true) ∧ SeqAt2 K H x xs ∧ Raws K H xs rs ∧ FactR fo th rs ∧ rs.length < 1000 ∧
  ∀ t ys H', Ext H H' → SqT K H' t ys → Rows K H' ys (onceR (rs.map (toldR (fo ++ th)))) → Q (.ref t) H'
abbrev nm_wrong_fact : List Str := ["house", "facts", "at", "thing"]
theorem sc_wrong_fact : FnScope nm_wrong_fact ["house", "facts"] (defScope s_wrong_fact) := ⟨rfl, rfl, rfl, by decide +kernel, rfl, by decide +kernel, by decide +kernel⟩
abbrev nm_each_once : List Str := ["house", "facts", "rows", "fact", "row"]
theorem sc_each_once : FnScope nm_each_once ["house", "facts"] (defScope s_each_once) := ⟨rfl, rfl, rfl, by decide +kernel, rfl, by decide +kernel, by decide +kernel⟩
section
variable {P : Program} {w : World} {K : PySem.W.Frag} {mg : Str → Option Value} {base : Heap} {f C CB : Addr} {fd : FuncData}
theorem ok_wrongFact (Fn : FnP K "wrong_fact" s_wrong_fact f fd) (his_list : Has P w K mg base 1 "is_list" ["thing"] (spIsList K)) (his_fact : Has P w K mg base 5 "is_fact" ["house", "thing"] (spIsFact K C)) (gB_enumerate : mg "enumerate" = none) :
    FnOk P w K mg base CX0 6 f fd ["house", "facts"] (spWrongFact K C) := by
  refine Fn.ok sc_wrong_fact (fun vs H Q E h => ?_) (fun cdv A outer s H vs Q E hr h => ⟨_, PSs.nox
    (pss_cons (ps_if (pt_not (pt_val (pe_has his_list (hr.mono (by decide)) (pa_cons (pv 1) pa_nil)))) (pss_one (ps_ret pe_int)) pss_nil)
      (pss_cons (ps_for PassesOwn.never rfl (pi_enumS (by rfl) gB_enumerate (pa_cons (pv 1) pa_nil)) (pg_tup rfl (pgs_cons (pg_name (i := 2) sc_wrong_fact.nd rfl (Or.inl rfl)) (pgs_cons (pg_name (i := 3) sc_wrong_fact.nd rfl (Or.inl rfl)) pgs_nil)))
      (pss_one (ps_if (pt_not (pt_val (pe_has his_fact (hr.mono (by decide)) (pa_cons (pv 0) (pa_cons (pv 3) pa_nil))))) (pss_one (ps_ret (pv 2))) pss_nil)))
      (pss_one (ps_ret pe_non)))), ?_⟩)
  · obtain ⟨h, x, fo, th, o, rfl, _⟩ := h
    rfl
  · obtain ⟨h, x, fo, th, o, rfl, hou, hp, q⟩ := h
    rcases hp with ⟨rfl, t, ty, kt⟩ | ⟨a, xs, bs, rfl, sq, fs, rfl⟩
    · exact ⟨_, rfl, x, t, false, rfl, ty, kt, fun H1 x1 => ⟨false, rfl, q H1 x1⟩⟩
    · obtain ⟨t, ty, kt⟩ := seq_kit sq
      refine ⟨_, rfl, _, t, true, rfl, ty, kt, fun H1 x1 => ⟨true, rfl, ?_⟩⟩
      have sq1 := sq.ext x1
      refine ⟨_, rfl, a, xs, rfl, ?_⟩
      rcases sq1 with sq1 | sq1
      · refine .inl ⟨sq1, ?_⟩
        refine for_it (walk_enum (xs := xs)) (fun i σ H' => Ext H1 H' ∧ (∃ u v, σ = [some (.ref h), some (.ref a), u, v]) ∧ ∀ j, j < i → bs[j]? = some true) ⟨Ext.rfl', ⟨none, none, rfl⟩, fun j hj => absurd hj (Nat.not_lt_zero _)⟩ (fun i σ H' _ p => sq1.ext p.1) ?_ ?_
        · intro i x σ H2 H3 hi p y
          obtain ⟨x2, ⟨u, v, rfl⟩, hb⟩ := p
          obtain ⟨T, y1, y2, rfl, hT, rfl, e1, e2⟩ := y
          cases e1
          have e2 : xs[i]? = some y2 := e2
          have x3 : Ext H1 (upd H2 T (.tup [.int i, y2])) := x2.upd' hT
          refine ⟨T, _, rfl, SqT.of upd_same, rfl, _, _, rfl, _, _, rfl, rfl, ?_⟩
          obtain ⟨b, hbi, fb⟩ := fs.2 i y2 e2
          refine ⟨_, rfl, _, rfl, h, y2, fo, th, b, rfl, hou.ext (x1.trans x3), fb.ext (x1.trans x3), fun H4 x4 => ⟨b, rfl, ?_⟩⟩
          cases b with
          | true =>
            refine ⟨x3.trans x4, ⟨_, _, rfl⟩, fun j hj => ?_⟩
            rcases Nat.lt_or_eq_of_le (Nat.le_of_lt_succ hj) with z | z
            · exact hb j z
            · rw [z]; exact hbi
          | false =>
            rw [first_some hbi hb] at q
            exact ⟨_, rfl, q H4 (x1.trans (x3.trans x4))⟩
        · intro σ H2 p
          rw [first_none (fun i hi => p.2.2 i (by rw [fs.1]; exact hi))] at q
          exact q H2 (x1.trans p.1)
      · refine .inr ⟨sq1, ?_⟩
        refine for_it (walk_enumT (xs := xs)) (fun i σ H' => Ext H1 H' ∧ (∃ u v, σ = [some (.ref h), some (.ref a), u, v]) ∧ ∀ j, j < i → bs[j]? = some true) ⟨Ext.rfl', ⟨none, none, rfl⟩, fun j hj => absurd hj (Nat.not_lt_zero _)⟩ (fun i σ H' _ p => sq1.ext p.1) ?_ ?_
        · intro i x σ H2 H3 hi p y
          obtain ⟨x2, ⟨u, v, rfl⟩, hb⟩ := p
          obtain ⟨T, y1, y2, rfl, hT, rfl, e1, e2⟩ := y
          cases e1
          have e2 : xs[i]? = some y2 := e2
          have x3 : Ext H1 (upd H2 T (.tup [.int i, y2])) := x2.upd' hT
          refine ⟨T, _, rfl, SqT.of upd_same, rfl, _, _, rfl, _, _, rfl, rfl, ?_⟩
          obtain ⟨b, hbi, fb⟩ := fs.2 i y2 e2
          refine ⟨_, rfl, _, rfl, h, y2, fo, th, b, rfl, hou.ext (x1.trans x3), fb.ext (x1.trans x3), fun H4 x4 => ⟨b, rfl, ?_⟩⟩
          cases b with
          | true =>
            refine ⟨x3.trans x4, ⟨_, _, rfl⟩, fun j hj => ?_⟩
            rcases Nat.lt_or_eq_of_le (Nat.le_of_lt_succ hj) with z | z
            · exact hb j z
            · rw [z]; exact hbi
          | false =>
            rw [first_some hbi hb] at q
            exact ⟨_, rfl, q H4 (x1.trans (x3.trans x4))⟩
        · intro σ H2 p
          rw [first_none (fun i hi => p.2.2 i (by rw [fs.1]; exact hi))] at q
          exact q H2 (x1.trans p.1)
theorem ok_eachOnce (Fn : FnP K "each_once" s_each_once f fd) (has_told : Has P w K mg base 1 "as_told" ["house", "fact"] (spAsTold K C)) (gB_tuple : mg "tuple" = none) : FnOk P w K mg base CX0 2 f fd ["house", "facts"] (spEachOnce K C) := by
  refine Fn.ok sc_each_once (fun vs H Q E h => ?_) (fun cdv A outer s H vs Q E hr h => ⟨_, PSs.nox
    (pss_cons (ps_set (i := 2) sc_each_once.nd rfl (Or.inl rfl) (pe_lst pa_nil))
      (pss_cons (ps_for PassesOwn.never rfl (pi_seqS (pv 1)) (pg_name (i := 3) sc_each_once.nd rfl (Or.inl rfl))
      (pss_cons (ps_set (i := 4) sc_each_once.nd rfl (Or.inl rfl) (pe_has has_told (hr.mono (by decide)) (pa_cons (pv 0) (pa_cons (pv 3) pa_nil))))
      (pss_one (ps_if (pt_cmpR (op_notInD (u65 hr)) (pv 4) (pv 2) (by rfl)) (pss_one (ps_expr (pe_bm PySem.F.plainAttrs_list PySem.F.slot_list_append PySem.F.type_list_append mt_append (pv 2) (pa_cons (pv 4) pa_nil)))) pss_nil))))
      (pss_one (ps_ret (pe_callTy call_tup (by rfl) gB_tuple (by decide +kernel) (pa_cons (pv 2) pa_nil)))))), ?_⟩)
  · obtain ⟨h, x, fo, th, xs, rs, rfl, _⟩ := h
    rfl
  · obtain ⟨h, x, fo, th, xs, rs, rfl, hou, nd, hz, zok, sq, raw, fr, len, q⟩ := h
    refine ⟨Nat.zero_le _, fun l hl => ?_⟩
    obtain ⟨H1, hH1⟩ : ∃ H1, H1 = upd H l (.lst []) := ⟨_, rfl⟩
    rw [← hH1]
    have x1 : Ext H H1 := by
      rw [hH1]
      exact Ext.upd hl
    have l1 : H1 l = some (.lst []) := by rw [hH1, upd_same]
    have tok := told_ok nd fr
    have okr : ∀ ws : List (List Str), (∀ r, r ∈ ws → r ∈ rs.map (toldR (fo ++ th))) → OkR ws := fun ws hw r hr z hz => by
      obtain ⟨w, a, b, rfl, h1, h2, h3⟩ := tok r (hw r hr)
      simp at hz
      rcases hz with rfl | rfl | rfl
      · exact wordsOk _ h1
      · exact zok _ h2
      · exact zok _ h3
    rcases sq with sq | sq
    · refine .inl ⟨_, rfl, x, rfl, ⟨_, sq.ext x1⟩, for_list (K := K) (a := x) (xs := xs) (fun i σ H' => Ext H H' ∧ ∃ u v ys, σ = [some (.ref h), some (.ref x), some (.ref l), u, v] ∧ H' l = some (.lst ys) ∧ ys.length ≤ i ∧ Rows K H' ys (onceR ((rs.take i).map (toldR (fo ++ th))))) ?_ ?_ ?_ ?_⟩
      · exact ⟨x1, none, none, [], rfl, l1, Nat.zero_le _, True.intro⟩
      · rintro i σ H' _ ⟨x', _⟩
        exact sq.ext x'
      · intro i v σ H2 hv P2
        obtain ⟨x2, u, v', ys, rfl, l2, len2, r2⟩ := P2
        obtain ⟨t, r, rfl, hr, sqr⟩ := raw.2 i v hv
        obtain ⟨wd, a, b, rfl, isf⟩ := fr r (List.mem_of_getElem? hr)
        have il : i < rs.length := (List.getElem?_eq_some_iff.mp hr).1
        have tk : (rs.take (i + 1)).map (toldR (fo ++ th)) = (rs.take i).map (toldR (fo ++ th)) ++ [toldS (fo ++ th) wd a b] := by
          rw [List.take_add_one, hr, List.map_append]
          rfl
        obtain ⟨row, hrow⟩ : ∃ row, row = toldS (fo ++ th) wd a b := ⟨_, rfl⟩
        rw [← hrow] at tk
        obtain ⟨old, hold⟩ : ∃ old, old = (rs.take i).map (toldR (fo ++ th)) := ⟨_, rfl⟩
        rw [← hold] at tk r2
        have sub : ∀ r, r ∈ old ++ [row] → r ∈ rs.map (toldR (fo ++ th)) := fun r hr' => by
          rw [← tk] at hr'
          obtain ⟨y, hy, rfl⟩ := List.mem_map.mp hr'
          exact List.mem_map.mpr ⟨y, List.mem_of_mem_take hy, rfl⟩
        refine ⟨_, rfl, _, rfl, h, t, fo, th, wd, a, b, rfl, hou.ext x2, nd, hz, isf, sqr.ext x2, fun tt H3 x3 htt => ?_⟩
        rw [← hrow] at htt
        have ok1 := okr [row] fun r hr' => sub r (List.mem_append_right _ hr')
        have ok2 := okr (onceR old) fun r hr' => sub r (List.mem_append_left _ (once_mem hr'))
        have l3 := x3 _ _ l2
        have r3 := r2.ext x3
        refine ⟨_, rfl, _, rfl, .tuple (row.map PyData.str), _, .tup (SqT.of htt) (dpAll_str row), .lst (SqL.of l3) (rows_dp r3), shaped_strT row (ok1 row List.mem_cons_self), rows_shaped ok2, _, rfl, ?_⟩
        rw [any_rows]
        rw [tk, once_snoc]
        refine ite2 (fun c => ?_) fun c => ?_
        · have c' : row ∉ onceR old := by simpa using c
          rw [if_neg c']
          refine ⟨_, rfl, .inl ⟨rfl, _, .inl (.inl l3)⟩, _, rfl, l, _, _, rfl, rfl, l3, by rw [sizeLine_eq]; omega, ?_⟩
          exact ⟨(x2.trans x3).over hl, _, _, _, rfl, upd_same, by rw [List.length_append]; exact Nat.succ_le_succ len2, Rows.upd l3 (Rows.app r3 ⟨⟨tt, rfl, SqT.of htt⟩, True.intro⟩)⟩
        · have c' : row ∈ onceR old := by simpa using c
          rw [if_pos c']
          exact ⟨x2.trans x3, _, _, ys, rfl, l3, by omega, r3⟩
      · rintro σ H2 ⟨x2, u, v', ys, rfl, l2, len2, r2⟩
        rw [raw.1, List.take_length] at r2
        refine ⟨_, rfl, l, _, rfl, .inl (SqL.of l2), fun t H3 x3 st => ?_⟩
        exact q t ys H3 (x2.trans x3) st (r2.ext x3)
    · refine .inr ⟨_, rfl, x, rfl, ⟨_, sq.ext x1⟩, for_tup (K := K) (a := x) (xs := xs) (fun i σ H' => Ext H H' ∧ ∃ u v ys, σ = [some (.ref h), some (.ref x), some (.ref l), u, v] ∧ H' l = some (.lst ys) ∧ ys.length ≤ i ∧ Rows K H' ys (onceR ((rs.take i).map (toldR (fo ++ th))))) ?_ ?_ ?_ ?_⟩
      · exact ⟨x1, none, none, [], rfl, l1, Nat.zero_le _, True.intro⟩
      · rintro i σ H' _ ⟨x', _⟩
        exact sq.ext x'
      · intro i v σ H2 hv P2
        obtain ⟨x2, u, v', ys, rfl, l2, len2, r2⟩ := P2
        obtain ⟨t, r, rfl, hr, sqr⟩ := raw.2 i v hv
        obtain ⟨wd, a, b, rfl, isf⟩ := fr r (List.mem_of_getElem? hr)
        have il : i < rs.length := (List.getElem?_eq_some_iff.mp hr).1
        have tk : (rs.take (i + 1)).map (toldR (fo ++ th)) = (rs.take i).map (toldR (fo ++ th)) ++ [toldS (fo ++ th) wd a b] := by
          rw [List.take_add_one, hr, List.map_append]
          rfl
        obtain ⟨row, hrow⟩ : ∃ row, row = toldS (fo ++ th) wd a b := ⟨_, rfl⟩
        rw [← hrow] at tk
        obtain ⟨old, hold⟩ : ∃ old, old = (rs.take i).map (toldR (fo ++ th)) := ⟨_, rfl⟩
        rw [← hold] at tk r2
        have sub : ∀ r, r ∈ old ++ [row] → r ∈ rs.map (toldR (fo ++ th)) := fun r hr' => by
          rw [← tk] at hr'
          obtain ⟨y, hy, rfl⟩ := List.mem_map.mp hr'
          exact List.mem_map.mpr ⟨y, List.mem_of_mem_take hy, rfl⟩
        refine ⟨_, rfl, _, rfl, h, t, fo, th, wd, a, b, rfl, hou.ext x2, nd, hz, isf, sqr.ext x2, fun tt H3 x3 htt => ?_⟩
        rw [← hrow] at htt
        have ok1 := okr [row] fun r hr' => sub r (List.mem_append_right _ hr')
        have ok2 := okr (onceR old) fun r hr' => sub r (List.mem_append_left _ (once_mem hr'))
        have l3 := x3 _ _ l2
        have r3 := r2.ext x3
        refine ⟨_, rfl, _, rfl, .tuple (row.map PyData.str), _, .tup (SqT.of htt) (dpAll_str row), .lst (SqL.of l3) (rows_dp r3), shaped_strT row (ok1 row List.mem_cons_self), rows_shaped ok2, _, rfl, ?_⟩
        rw [any_rows]
        rw [tk, once_snoc]
        refine ite2 (fun c => ?_) fun c => ?_
        · have c' : row ∉ onceR old := by simpa using c
          rw [if_neg c']
          refine ⟨_, rfl, .inl ⟨rfl, _, .inl (.inl l3)⟩, _, rfl, l, _, _, rfl, rfl, l3, by rw [sizeLine_eq]; omega, ?_⟩
          exact ⟨(x2.trans x3).over hl, _, _, _, rfl, upd_same, by rw [List.length_append]; exact Nat.succ_le_succ len2, Rows.upd l3 (Rows.app r3 ⟨⟨tt, rfl, SqT.of htt⟩, True.intro⟩)⟩
        · have c' : row ∈ onceR old := by simpa using c
          rw [if_pos c']
          exact ⟨x2.trans x3, _, _, ys, rfl, l3, by omega, r3⟩
      · rintro σ H2 ⟨x2, u, v', ys, rfl, l2, len2, r2⟩
        rw [raw.1, List.take_length] at r2
        refine ⟨_, rfl, l, _, rfl, .inl (SqL.of l2), fun t H3 x3 st => ?_⟩
        exact q t ys H3 (x2.trans x3) st (r2.ext x3)
end
end My

namespace L2
open PySem PySem.Spec PyProof.Rows
/-- x in a tuple of data -/
def rInDT (K : PySem.W.Frag) : R2 := fun x y H Q => ∃ d ds, Dp K H x d ∧ Dp K H y (.tuple ds) ∧ SeqAt.shaped d = true ∧ SeqAt.shaped (.tuple ds) = true ∧ Q (.bl (ds.any fun z => PyData.eqv z d)) H
theorem op_inDT {X : Cx} (hu : X.A.units + 65 < cLine) : OpR X (compareOp .In) (rInDT X.K) := by
  intro pins s σ H x y v u Q I rx ry h
  obtain ⟨d, ds, h1, h2, s1, s2, q⟩ := h
  obtain ⟨as, ra⟩ := Dp.reads I d x v h1 rx
  obtain ⟨bs, rb⟩ := Dp.reads I _ y u h2 ry
  have c1 := Bool.and_eq_true_iff.mp s1
  have c2 := Bool.and_eq_true_iff.mp s2
  have e1 : d.depth ≤ 64 := of_decide_eq_true c1.2
  refine SeqAt.in_tuple_reads rb ra c2.1 c1.1 ?_ ⟨.bl _, H, I, rfl, q⟩
  have := Nat.min_le_right (PyData.depthAll ds) d.depth
  omega
end L2
namespace My
open PySem PySem.Spec PyProof.Rows L2
/-! ### the class Facts -/
structure FacC (K : PySem.W.Frag) (C : Addr) : Prop where
  cl : Cls K C
  nh : NoAttr K C "house"
  nr : NoAttr K C "rows"
  ha : PySem.W.findIn K (.ref C) "__class__" = some (some (.builtin "object.__class__"))
  hn : PySem.W.specialIn K (.builtin "object.__class__") "__get__" = some (some (.builtin "getset_descriptor.__get__"))
  htk : PySem.W.takesIn K (.builtin "object.__class__") = some true
  hm : PySem.W.mroIn K C (.type "object") = some true
def rowsT (rs : List (List Str)) : PyData := .tuple (rs.map fun r => .tuple (r.map PyData.str))
theorem rowsT_shaped {rs : List (List Str)} (h : OkR rs) : SeqAt.shaped (rowsT rs) = true := rows_shaped h
theorem eqv_rowsT (rs ss : List (List Str)) : PyData.eqv (rowsT rs) (rowsT ss) = decide (rs = ss) := eqvAll_rows rs ss
/-- the methods that are no fields -/
def facM : List Str := ["told", "without"]
/-- facts stand at a -/
def FacAt (H : Hp) (K : PySem.W.Frag) (CF C a : Addr) (fo th : List Str) (rows : List (List Str)) : Prop := ∃ dx fs h r ys, H a = some (.ins CF dx fs) ∧ fs.lookup ("house" : Str) = some (V.ref h) ∧ fs.lookup ("rows" : Str) = some (V.ref r) ∧
  Hou H K C h fo th ∧ SqT K H r ys ∧ Rows K H ys rows ∧ OkR rows ∧ ∀ m, m ∈ facM → fs.lookup m = none
theorem FacAt.ext {H H' : Hp} {K : PySem.W.Frag} {CF C a : Addr} {fo th : List Str} {rows : List (List Str)} (h : FacAt H K CF C a fo th rows) (e : Ext H H') : FacAt H' K CF C a fo th rows := by
  obtain ⟨dx, fs, ho, r, ys, h1, h2, h3, h4, h5, h6, h7, h8⟩ := h
  exact ⟨dx, fs, ho, r, ys, e _ _ h1, h2, h3, h4.ext e, h5.ext e, h6.ext e, h7, h8⟩
theorem FacAt.ins {H : Hp} {K : PySem.W.Frag} {CF C a : Addr} {fo th : List Str} {rows : List (List Str)} (h : FacAt H K CF C a fo th rows) : ∃ dx fs, H a = some (.ins CF dx fs) := by
  obtain ⟨dx, fs, ho, r, ys, h1, _⟩ := h
  exact ⟨dx, fs, h1⟩
theorem tyF {K : PySem.W.Frag} {H : Hp} {CF C a : Addr} {fo th : List Str} {rows : List (List Str)} (T : FacC K CF) (h : FacAt H K CF C a fo th rows) : TyX K H (.ref a) (.ref CF) := by
  obtain ⟨dx, fs, e⟩ := h.ins
  exact .base (.ins e T.cl T.ha T.hn T.htk T.hm)
theorem Rows.but {K : PySem.W.Frag} {H H' : Hp} {a C dx : Addr} {fs : List (Str × V)} (b : But H H' a) (ha : H a = some (.ins C dx fs)) : ∀ {xs : List V} {rs : List (List Str)}, Rows K H xs rs → Rows K H' xs rs
  | [], [], _ => True.intro
  | _ :: _, _ :: _, ⟨⟨t, e1, h⟩, hr⟩ => ⟨⟨t, e1, sqT_but h b ha⟩, Rows.but b ha hr⟩
  | [], _ :: _, h => h.elim
  | _ :: _, [], h => h.elim
theorem seq_but {K : PySem.W.Frag} {H H' : Hp} {a C dx f : Addr} {fs : List (Str × V)} {xs : List V} (h : SeqAt2 K H f xs) (b : But H H' a) (ha : H a = some (.ins C dx fs)) : SeqAt2 K H' f xs := h.elim (fun z => .inl (sqL_but z b ha)) fun z => .inr (sqT_but z b ha)
theorem Raws.but {K : PySem.W.Frag} {H H' : Hp} {a C dx : Addr} {fs : List (Str × V)} {xs : List V} {rs : List (List Str)} (h : Raws K H xs rs) (b : But H H' a) (ha : H a = some (.ins C dx fs)) : Raws K H' xs rs := ⟨h.1, fun i x hx => by
  obtain ⟨t, r, h1, h2, h3⟩ := h.2 i x hx
  exact ⟨t, r, h1, h2, seq_but h3 b ha⟩⟩
/-- the house of facts stays when the facts are written -/
theorem hou_but {K : PySem.W.Frag} {H H' : Hp} {a C CF dx h : Addr} {fs : List (Str × V)} {fo th : List Str} (hh : Hou H K C h fo th) (b : But H H' a) (ha : H a = some (.ins CF dx fs)) (ne : h ≠ a) : Hou H' K C h fo th := by
  obtain ⟨⟨dx', fs', f, t, n, h1, h2, h3, h4, h5, h6, h7⟩, k⟩ := hh
  exact ⟨⟨dx', fs', f, t, n, b _ _ ne h1, h2, h3, h4, sqT_but h5 b ha, sqT_but h6 b ha, sqT_but h7 b ha⟩, k⟩
def spFInit (K : PySem.W.Frag) (CF C CB : Addr) : Sp := fun vs H Q E => ∃ a dx h x fo th, vs = [.ref a, .ref h, x] ∧ H a = some (.ins CF dx []) ∧ h ≠ a ∧ Hou H K C h fo th ∧ (fo ++ th).Nodup ∧ (fo ++ th).length < sizeLine ∧ (∀ z, z ∈ fo ++ th → PyData.strOk z = true) ∧
  ((∃ i : Nat, Passed K H fo th x (some i) ∧ ∀ d H', Ext H H' → H d = none → H' d = some (.xd [(("index" : Str), V.int (i : Nat))]) → E (.ref CB) (some d) H') ∨
  (∃ p xs rs, x = .ref p ∧ SeqAt2 K H p xs ∧ Raws K H xs rs ∧ FactR fo th rs ∧ rs.length < 1000 ∧ ∀ H', But H H' a → FacAt H' K CF C a fo th (onceR (rs.map (toldR (fo ++ th)))) → Q .non H'))
theorem raws_facts {K : PySem.W.Frag} {H : Hp} {fo th : List Str} {xs : List V} {rs : List (List Str)} (h : Raws K H xs rs) (fr : FactR fo th rs) : FactsOf K H fo th xs (List.replicate xs.length true) := ⟨by rw [List.length_replicate], fun i x hx => by
  obtain ⟨t, r, rfl, hr, sq⟩ := h.2 i x hx
  obtain ⟨w, a, b, rfl, isf⟩ := fr r (List.mem_of_getElem? hr)
  exact ⟨true, by rw [List.getElem?_replicate, if_pos (List.getElem?_eq_some_iff.mp hx).1], .inr (.inr ⟨t, _, _, _, rfl, sq, .inl rfl, .inl rfl, .inl rfl, (is_fact isf).symm⟩)⟩⟩
theorem raws_passed {K : PySem.W.Frag} {H : Hp} {fo th : List Str} {p : Addr} {xs : List V} {rs : List (List Str)} (sq : SeqAt2 K H p xs) (h : Raws K H xs rs) (fr : FactR fo th rs) : Passed K H fo th (.ref p) none :=
  .inr ⟨p, xs, _, rfl, sq, raws_facts h fr, (first_none fun i hi => by rw [List.length_replicate] at hi; rw [List.getElem?_replicate, if_pos hi]).symm⟩
def spTold (K : PySem.W.Frag) (CF C : Addr) : Sp := fun vs H Q _ => ∃ a fo th rows, vs = [.ref a] ∧ FacAt H K CF C a fo th rows ∧ ∀ l ys H', Ext H H' → H l = none → H' l = some (.lst ys) → Rows K H' ys rows → Q (.ref l) H'
def spFLen (K : PySem.W.Frag) (CF C : Addr) : Sp := fun vs H Q _ => ∃ a fo th rows, vs = [.ref a] ∧ FacAt H K CF C a fo th rows ∧ Q (.int (rows.length : Nat)) H
def spFEq (K : PySem.W.Frag) (CF C : Addr) : Sp := fun vs H Q _ => ∃ a fo th rows y, vs = [.ref a, y] ∧ FacAt H K CF C a fo th rows ∧ ((∃ t, TyX K H y t ∧ PySem.W.kitOne K t (.ref CF) = some false ∧ Q (.bl false) H) ∨
  ∃ b fo2 th2 rows2, y = .ref b ∧ FacAt H K CF C b fo2 th2 rows2 ∧ ∀ H', Ext H H' → Q (.bl (decide (fo = fo2) && (decide (th = th2) && decide (rows = rows2)))) H')
/-- whether a thing is one of the facts -/
def spFHas (K : PySem.W.Frag) (CF C : Addr) : Sp := fun vs H Q _ => ∃ a fo th rows y, vs = [.ref a, y] ∧ FacAt H K CF C a fo th rows ∧ (fo ++ th).Nodup ∧ (fo ++ th).length < sizeLine ∧ (∀ z, z ∈ fo ++ th → PyData.strOk z = true) ∧
  ((FactOf K H fo th y false ∧ ∀ H', Ext H H' → Q (.bl false) H') ∨ ∃ r w c d, y = .ref r ∧ SeqAt2 K H r [.str w, .str c, .str d] ∧ IsF fo th w c d ∧ ∀ H', Ext H H' → Q (.bl (decide (toldS (fo ++ th) w c d ∈ rows))) H')
abbrev nm_Facts_init : List Str := ["self", "house", "facts", "at"]
theorem sc_Facts_init : FnScope nm_Facts_init ["self", "house", "facts"] (defScope s_Facts_init) := ⟨rfl, rfl, rfl, by decide +kernel, rfl, by decide +kernel, by decide +kernel⟩
abbrev nm_Facts_told : List Str := ["self"]
theorem sc_Facts_told : FnScope nm_Facts_told ["self"] (defScope s_Facts_told) := ⟨rfl, rfl, rfl, by decide +kernel, rfl, by decide +kernel, by decide +kernel⟩
abbrev nm_Facts_len : List Str := ["self"]
theorem sc_Facts_len : FnScope nm_Facts_len ["self"] (defScope s_Facts_len) := ⟨rfl, rfl, rfl, by decide +kernel, rfl, by decide +kernel, by decide +kernel⟩
abbrev nm_Facts_contains : List Str := ["self", "x"]
theorem sc_Facts_contains : FnScope nm_Facts_contains ["self", "x"] (defScope s_Facts_contains) := ⟨rfl, rfl, rfl, by decide +kernel, rfl, by decide +kernel, by decide +kernel⟩
abbrev nm_Facts_iter : List Str := ["self"]
theorem sc_Facts_iter : FnScope nm_Facts_iter ["self"] (defScope s_Facts_iter) := ⟨rfl, rfl, rfl, by decide +kernel, rfl, by decide +kernel, by decide +kernel⟩
abbrev nm_Facts_eq : List Str := ["self", "other"]
theorem sc_Facts_eq : FnScope nm_Facts_eq ["self", "other"] (defScope s_Facts_eq) := ⟨rfl, rfl, rfl, by decide +kernel, rfl, by decide +kernel, by decide +kernel⟩
section
variable {P : Program} {w : World} {K : PySem.W.Frag} {mg : Str → Option Value} {base : Heap} {f C CB CF CBH : Addr} {fd : FuncData} {dvs : List V}
theorem ok_fInit (Fn : FunD K "__init__" "Facts.__init__" (defArgs s_Facts_init) (defBody s_Facts_init) (defScope s_Facts_init) dvs [] f fd) (T : FacC K CF) (hwrong_fact : Has P w K mg base 6 "wrong_fact" ["house", "facts"] (spWrongFact K C)) (heach_once : Has P w K mg base 2 "each_once" ["house", "facts"] (spEachOnce K C)) (EB : Er P w K mg base "BadFact" "index" CB) :
    FnOk P w K mg base (L2.CX P w) 7 f fd ["self", "house", "facts"] (spFInit K CF C CB) := by
  obtain ⟨fI, fdI, TB, FB, bB, _⟩ := EB
  refine Fn.ok sc_Facts_init (fun vs H Q E h => ?_) (fun cdv A outer s H vs Q E hr h => ⟨_,
    (pss_cons (ps_set (i := 3) sc_Facts_init.nd rfl (Or.inl rfl) (pe_has hwrong_fact (hr.mono (by decide)) (pa_cons (pv 1) (pa_cons (pv 2) pa_nil))))
      (pss_cons (ps_if (pt_cmpR op_notN (pv 3) pe_non (nomark _)) (pss_one (ps_raise rfl (takes_of rfl rfl rfl rfl) (pmk_oex TB.oex TB.iC TB.tI FB (hr.mono (by decide)) bB .nil pass0 (by rfl) TB.gl (pa_cons (pv 3) pa_nil)))) pss_nil)
      (pss_cons (ps_fld (pv 0) (pv 1) rfl)
      (pss_one (ps_fld (pv 0) (pe_has heach_once (hr.mono (by decide)) (pa_cons (pv 1) (pa_cons (pv 2) pa_nil))) rfl))))), ?_⟩)
  · obtain ⟨a, dx, h, x, fo, th, rfl, _⟩ := h
    rfl
  · obtain ⟨a, dx, h, x, fo, th, rfl, ha, nha, hou, nd, hz, zok, hh⟩ := h
    rcases hh with ⟨i, pa, qE⟩ | ⟨p, xs, rs, rfl, sq, raw, fr, len, qN⟩
    · refine ⟨_, rfl, _, rfl, h, x, fo, th, some i, rfl, hou, pa, fun H1 x1 => ?_⟩
      refine ⟨_, rfl, rfl, _, rfl, ?_⟩
      refine iteT ?_
      refine ⟨_, rfl, Nat.le_of_ble_eq_true rfl, fun e he => ?_⟩
      refine ⟨e, _, rfl, upd_same, fun d hd ne => ⟨rfl, d, [("index", optV (some i))], upd_same, ?_, ?_, ?_⟩⟩
      · rw [upd_ne ne, upd_same]
      · rw [upd_ne ne] at hd
        exact hd
      · rw [upd_ne ne] at hd
        refine qE d _ (fun b u k => ?_) ?_ upd_same
        · have k1 := x1 b u k
          rw [upd_ne (ne_of_none k1 hd), del_ne (ne_of_none k1 he), upd_ne (ne_of_none k1 he), upd_ne (ne_of_none k1 hd), upd_ne (ne_of_none k1 he)]
          exact k1
        · exact ext_none x1 hd
    · refine ⟨_, rfl, _, rfl, h, _, fo, th, none, rfl, hou, raws_passed sq raw fr, fun H1 x1 => ?_⟩
      refine ⟨_, rfl, rfl, _, rfl, ?_⟩
      refine iteF ?_
      refine ⟨_, rfl, _, rfl, a, CF, dx, _, rfl, x1 _ _ ha, T.cl, T.nh, Nat.le_of_ble_eq_true rfl, ?_⟩
      obtain ⟨H2, hH2⟩ : ∃ H2, H2 = L2.upd H1 a (.ins CF dx (putF "house" (.ref h) [])) := ⟨_, rfl⟩
      rw [← hH2]
      have a2 : H2 a = some (.ins CF dx (putF "house" (.ref h) [])) := by rw [hH2, upd_same]
      have b2 : But H1 H2 a := by
        rw [hH2]
        exact But.upd (ext_but Ext.rfl')
      have a1 := x1 _ _ ha
      have hou2 := hou_but (hou.ext x1) b2 a1 nha
      refine ⟨_, rfl, _, rfl, h, p, fo, th, xs, rs, rfl, hou2, nd, hz, zok, seq_but (sq.ext x1) b2 a1, (raw.ext x1).but b2 a1, fr, len, fun t ys H3 x3 st r3 => ?_⟩
      refine ⟨_, rfl, a, CF, dx, _, rfl, x3 _ _ a2, T.cl, T.nr, Nat.le_of_ble_eq_true rfl, ?_⟩
      obtain ⟨H4, hH4⟩ : ∃ H4, H4 = L2.upd H3 a (.ins CF dx (putF "rows" (.ref t) (putF "house" (.ref h) []))) := ⟨_, rfl⟩
      rw [← hH4]
      have a4 : H4 a = some (.ins CF dx (putF "rows" (.ref t) (putF "house" (.ref h) []))) := by rw [hH4, upd_same]
      have b4 : But H3 H4 a := by
        rw [hH4]
        exact But.upd (ext_but Ext.rfl')
      have a3 := x3 _ _ a2
      have tok := told_ok nd fr
      refine qN H4 (((ext_but x1).trans b2).trans ((ext_but x3).trans b4)) ⟨dx, _, h, t, ys, a4, rfl, rfl, hou_but (hou2.ext x3) b4 a3 nha, sqT_but st b4 a3, r3.but b4 a3, fun r hr z hz => ?_, fun m hm => by
        unfold facM at hm
        simp at hm
        rcases hm with rfl | rfl <;> rfl⟩
      obtain ⟨w, a, b, rfl, h1, h2, h3⟩ := tok r (once_mem hr)
      simp at hz
      rcases hz with rfl | rfl | rfl
      · exact wordsOk _ h1
      · exact zok _ h2
      · exact zok _ h3
theorem ok_told (Fn : FunD K "told" "Facts.told" (defArgs s_Facts_told) (defBody s_Facts_told) (defScope s_Facts_told) [] [] f fd) (T : FacC K CF) (gB_list : mg "list" = none) : FnOk P w K mg base CX0 1 f fd ["self"] (spTold K CF C) := by
  refine Fn.ok sc_Facts_told (fun vs H Q E h => ?_) (fun cdv A outer s H vs Q E hr h => ⟨_, PSs.nox
    (pss_one (ps_ret (pe_callTy call_lstS (by rfl) gB_list (by decide +kernel) (pa_cons (pe_fld (pv 0) rfl) pa_nil)))), ?_⟩)
  · obtain ⟨a, fo, th, rows, rfl, _⟩ := h
    rfl
  · obtain ⟨a, fo, th, rows, rfl, ⟨dx, fs, h, r, ys, h1, h2, h3, h4, h5, h6, h7, h8⟩, q⟩ := h
    exact ⟨_, rfl, a, CF, dx, fs, _, rfl, h1, T.cl, T.nr, h3, r, ys, rfl, .inr h5, fun l hl => q l ys _ (Ext.upd hl) hl upd_same (h6.ext (Ext.upd hl))⟩
theorem ok_fLen (Fn : FunD K "__len__" "Facts.__len__" (defArgs s_Facts_len) (defBody s_Facts_len) (defScope s_Facts_len) [] [] f fd) (T : FacC K CF) (gB_len : mg "len" = none) : FnOk P w K mg base CX0 1 f fd ["self"] (spFLen K CF C) := by
  refine Fn.ok sc_Facts_len (fun vs H Q E h => ?_) (fun cdv A outer s H vs Q E hr h => ⟨_, PSs.nox
    (pss_one (ps_ret (pe_callB call_len (by rfl) gB_len boot_len (pa_cons (pe_fld (pv 0) rfl) pa_nil)))), ?_⟩)
  · obtain ⟨a, fo, th, rows, rfl, _⟩ := h
    rfl
  · obtain ⟨a, fo, th, rows, rfl, ⟨dx, fs, h, r, ys, h1, h2, h3, h4, h5, h6, h7, h8⟩, q⟩ := h
    refine ⟨_, rfl, a, CF, dx, fs, _, rfl, h1, T.cl, T.nr, h3, _, _, rfl, .inr ⟨_, h5, rfl⟩, ?_⟩
    rw [h6.len]
    exact q
theorem ok_fIter (Fn : FunD K "__iter__" "Facts.__iter__" (defArgs s_Facts_iter) (defBody s_Facts_iter) (defScope s_Facts_iter) [] [] f fd) (T : FacC K CF) (gI : mg "iter" = none) : FnOk P w K mg base CX0 1 f fd ["self"] (spIter K CF "rows" base.objs.size) := by
  refine Fn.ok sc_Facts_iter (fun vs H Q E h => ?_) (fun cdv A outer s H vs Q E hr h => ⟨_, PSs.nox (pss_one (ps_ret (pe_callB call_iterT (by rfl) gI boot_iter (pa_cons (pe_fld (pv 0) rfl) pa_nil)))), ?_⟩)
  · obtain ⟨a, _, _, _, _, rfl, _⟩ := h
    rfl
  · obtain ⟨a, dx, fs, l, zs, rfl, h1, h2, h3, q⟩ := h
    exact ⟨_, rfl, a, CF, dx, fs, _, rfl, h1, T.cl, T.nr, h2, l, zs, rfl, h3, q⟩
theorem ok_fEq (Fn : FunD K "__eq__" "Facts.__eq__" (defArgs s_Facts_eq) (defBody s_Facts_eq) (defScope s_Facts_eq) [] [] f fd) (T : FacC K CF) (Z : HouseTxt P w K mg C CBH) (gI : mg "isinstance" = none) (gF : mg "Facts" = some (.ref CF)) (kF : PySem.W.kitOne K (.ref CF) (.ref CF) = some true) :
    FnOk P w K mg base CX0 2 f fd ["self", "other"] (spFEq K CF C) := by
  refine Fn.ok sc_Facts_eq (fun vs H Q E h => ?_) (fun cdv A outer s H vs Q E hr h => ⟨_, PSs.nox (pss_one (ps_ret
    (pe_and (pe_callB call_isi (by rfl) gI boot_isinstance (pa_cons (pv 1) (pa_cons (pe_glob (v := .ref CF) (by rfl) gF rfl) pa_nil)))
    (pe_and (pe_cmpR (op_eqO (EI := E0) (hr.mono (by decide)) Z.mE (Z.E _) Z.bE pass0) (pe_fld (pv 0) rfl) (pe_fld (pv 1) rfl) (nomark _))
    (pe_one (pe_cmpR (op_eqD hr.units) (pe_fld (pv 0) rfl) (pe_fld (pv 1) rfl) (nomark _))))))), ?_⟩)
  · obtain ⟨a, _, _, _, _, rfl, _⟩ := h
    rfl
  · obtain ⟨a, fo, th, rows, y, rfl, fa, h⟩ := h
    rcases h with ⟨t, ty, kt, q⟩ | ⟨b, fo2, th2, rows2, rfl, fb, q⟩
    · exact ⟨_, rfl, y, .ref CF, t, .ref CF, false, rfl, .own CF, ty, kt, false, rfl, q⟩
    · refine ⟨_, rfl, .ref b, .ref CF, .ref CF, .ref CF, true, rfl, .own CF, tyF T fb, kF, true, rfl, ?_⟩
      refine iteT ?_
      obtain ⟨dx, fs, h, r, ys, h1, h2, h3, h4, h5, h6, h7, h8⟩ := fa
      obtain ⟨dx', fs', h', r', ys', g1, g2, g3, g4, g5, g6, g7, g8⟩ := fb
      obtain ⟨hx, hfs, hins⟩ := h4.ins
      refine ⟨_, rfl, a, CF, dx, fs, _, rfl, h1, T.cl, T.nh, h2, _, rfl, b, CF, dx', fs', _, rfl, g1, T.cl, T.nh, g2, h, hx, hfs, .ref C, rfl, hins, tyH Z.T g4, by simp [PySem.W.notFirst], h, fo, th, _, rfl, h4, .inr ⟨h', fo2, th2, rfl, g4, _, rfl, _, rfl, ?_⟩⟩
      refine ite2 (fun e => ?_) fun e => ?_
      · obtain ⟨e1, e2⟩ := Bool.and_eq_true_iff.mp e
        refine ⟨_, rfl, a, CF, dx, fs, _, rfl, h1, T.cl, T.nr, h3, _, rfl, b, CF, dx', fs', _, rfl, g1, T.cl, T.nr, g3, rowsT rows, rowsT rows2, .tup h5 (rows_dp h6), .tup g5 (rows_dp g6), rowsT_shaped h7, rowsT_shaped g7, ?_⟩
        rw [eqv_rowsT]
        have z := q H Ext.rfl'
        rw [e1, e2, Bool.true_and, Bool.true_and] at z
        exact z
      · have z := q H Ext.rfl'
        have e' : (decide (fo = fo2) && (decide (th = th2) && decide (rows = rows2))) = false := by
          have e2 : (decide (fo = fo2) && decide (th = th2)) = false := by
            cases hh : (decide (fo = fo2) && decide (th = th2)) with
            | false => rfl
            | true => exact absurd hh e
          rw [← Bool.and_assoc, e2, Bool.false_and]
        rw [e'] at z
        have e3 : (decide (fo = fo2) && decide (th = th2)) = false := by
          cases hh : (decide (fo = fo2) && decide (th = th2)) with
          | false => rfl
          | true => exact absurd hh e
        exact z
theorem ok_fHas (Fn : FunD K "__contains__" "Facts.__contains__" (defArgs s_Facts_contains) (defBody s_Facts_contains) (defScope s_Facts_contains) [] [] f fd) (T : FacC K CF) (his_fact : Has P w K mg base 5 "is_fact" ["house", "thing"] (spIsFact K C)) (has_told : Has P w K mg base 1 "as_told" ["house", "fact"] (spAsTold K C)) :
    FnOk P w K mg base CX0 6 f fd ["self", "x"] (spFHas K CF C) := by
  refine Fn.ok sc_Facts_contains (fun vs H Q E h => ?_) (fun cdv A outer s H vs Q E hr h => ⟨_, PSs.nox (pss_one (ps_ret
    (pe_and (pe_has his_fact (hr.mono (by decide)) (pa_cons (pe_fld (pv 0) rfl) (pa_cons (pv 1) pa_nil)))
    (pe_one (pe_cmpR (op_inDT (u65 hr)) (pe_has has_told (hr.mono (by decide)) (pa_cons (pe_fld (pv 0) rfl) (pa_cons (pv 1) pa_nil))) (pe_fld (pv 0) rfl) (by rfl)))))), ?_⟩)
  · obtain ⟨a, _, _, _, _, rfl, _⟩ := h
    rfl
  · obtain ⟨a, fo, th, rows, y, rfl, ⟨dx, fs, h, r, ys, h1, h2, h3, h4, h5, h6, h7, h8⟩, nd, hz, zok, hh⟩ := h
    rcases hh with ⟨fx, q⟩ | ⟨rr, wd, c, d, rfl, sq, isf, q⟩
    · exact ⟨_, rfl, a, CF, dx, fs, _, rfl, h1, T.cl, T.nh, h2, _, rfl, h, y, fo, th, false, rfl, h4, fx, fun H1 x1 => ⟨false, rfl, q H1 x1⟩⟩
    · refine ⟨_, rfl, a, CF, dx, fs, _, rfl, h1, T.cl, T.nh, h2, _, rfl, h, _, fo, th, true, rfl, h4, .inr (.inr ⟨rr, _, _, _, rfl, sq, .inl rfl, .inl rfl, .inl rfl, (is_fact isf).symm⟩), fun H1 x1 => ⟨true, rfl, ?_⟩⟩
      refine iteT ?_
      refine ⟨_, rfl, a, CF, dx, fs, _, rfl, x1 _ _ h1, T.cl, T.nh, h2, _, rfl, h, rr, fo, th, wd, c, d, rfl, h4.ext x1, nd, hz, isf, sq.ext x1, fun t H2 x2 ht => ?_⟩
      obtain ⟨e1, e2, et, hcd⟩ := told_three nd isf
      have okt : OkS (toldS (fo ++ th) wd c d) := fun z hz' => by
        rw [et] at hz'
        simp at hz'
        rcases hz' with rfl | rfl | rfl
        · exact wordsOk _ isf.1
        · rcases hcd with ⟨rfl, _⟩ | ⟨_, rfl, _⟩
          · exact zok _ isf.2.1
          · exact zok _ isf.2.2.1
        · rcases hcd with ⟨_, rfl⟩ | ⟨_, _, rfl⟩
          · exact zok _ isf.2.2.1
          · exact zok _ isf.2.1
      refine ⟨_, rfl, a, CF, dx, fs, _, rfl, (x1.trans x2) _ _ h1, T.cl, T.nr, h3, .tuple ((toldS (fo ++ th) wd c d).map PyData.str), _, .tup (SqT.of ht) (dpAll_str _), .tup (h5.ext (x1.trans x2)) (rows_dp (h6.ext (x1.trans x2))), shaped_strT _ okt, rowsT_shaped h7, ?_⟩
      rw [any_rows]
      exact q H2 (x1.trans x2)
end
end My

namespace My
open PySem PySem.Spec PyProof.Rows L2
abbrev nNames : List Str := ["_law_pool_here", "_law_many", "_law_found", "_law_k", "_law_size", "_law_word", "_law_spare", "_law_j", "_law_letter", "_law_each"]
theorem scNames : FnScope nNames ["_law_pool_here", "_law_many"] (defScope sNames) := ⟨rfl, rfl, rfl, by decide +kernel, rfl, by decide +kernel, by decide +kernel⟩
def spNames (K : PySem.W.Frag) : Sp := fun vs H Q _ => ∃ (p : Addr) (m : Nat) (n : Int), vs = [.ref p, .int (m : Int)] ∧ m ≤ 12 ∧ Pool H p n ∧ n < 1000000 ∧
  ∀ l zs H', But H H' p → Pool H' p (n + 9 * m) → H' l = some (.lst (zs.map V.str)) → H l = none → zs.length = m → Nms zs → Q (.ref l) H'
section
variable {P : Program} {w : World} {K : PySem.W.Frag} {mg : Str → Option Value} {base : Heap} {f fT : Addr} {fd fdT : FuncData}
theorem ok_names (Fn : FnP K "_law_names" sNames f fd) (FT : FnOk P w K mg base CX0 1 fT fdT ["_law_pool_here", "_law_many"] spTake) (gT : mg "_law_take" = some (.ref fT)) (kT : PySem.W.keepIn K (.ref fT) = true) (bT : Binds K fdT ["_law_pool_here", "_law_many"] []) (gR : mg "range" = none) :
    FnOk P w K mg base CX0 2 f fd ["_law_pool_here", "_law_many"] (spNames K) := by
  refine Fn.ok scNames (fun vs H Q E h => ?_) (fun cdv A outer s H vs Q E hr h => ⟨_, PSs.nox
    (pss_cons (ps_set (i := 2) scNames.nd rfl (.inr rfl) (pe_lst pa_nil))
    (pss_cons (ps_for PassesOwn.never rfl (pi_range1 (by rfl) gR (pa_cons (pv 1) pa_nil)) (pg_name (i := 3) scNames.nd rfl (Or.inl rfl))
      (pss_cons (ps_set (i := 4) scNames.nd rfl (.inl rfl) (pe_ix ix_list (pe_lst (pa_cons pe_int (pa_cons pe_int (pa_cons pe_int (pa_cons pe_int (pa_cons pe_int pa_nil)))))) (pe_call FT hr (by rfl) gT kT bT .nil pass0 (pa_cons (pv 0) (pa_cons pe_int pa_nil))) (fun _ _ => rfl)))
      (pss_cons (ps_set (i := 5) scNames.nd rfl (.inl rfl) (pe_bm PySem.F.plainAttrs_str PySem.F.slot_str_join PySem.F.type_str_join mt_join pe_str (pa_cons (pe_lc (own := [("_law_j", 7)]) (g := gName 7) (tt := tYes) rfl scNames.nd (pi_range1 (by rfl) gR (pa_cons (pv 4) pa_nil)) (blkOk_by (N := nNames) (sc := defScope sNames) (by decide +kernel))
          (fun _ _ _ _ _ => pg_name (i := 7) scNames.nd rfl (Or.inl rfl)) (fun _ _ _ _ _ => pts_nil) (fun _ _ _ _ _ => pe_ix ix_str pe_str (pe_call FT (hr.mono (by decide)) (by rfl) gT kT bT .nil pass0 (pa_cons (pv 0) (pa_cons pe_int pa_nil))) (fun _ _ => rfl))) pa_nil)))
      (pss_cons (ps_set (i := 6) scNames.nd rfl (.inl rfl) (pe_op L2.op_cat (pe_lst (pa_cons (pv 5) pa_nil)) (pe_lc (own := [("_law_letter", 8)]) (g := gName 8) (tt := tYes) rfl scNames.nd (pi_str pe_str) (blkOk_by (N := nNames) (sc := defScope sNames) (by decide +kernel))
          (fun _ _ _ _ _ => pg_name (i := 8) scNames.nd rfl (Or.inl rfl)) (fun _ _ _ _ _ => pts_nil) (fun _ _ _ _ _ => pe_op op_add_str (pe_op op_add_str pe_str (pv 8)) pe_str))))
      (pss_one (ps_expr (pe_bm PySem.F.plainAttrs_list PySem.F.slot_list_append PySem.F.type_list_append mt_append (pv 2) (pa_cons (pe_ix ix_list (pe_lc (own := [("_law_each", 9)]) (g := gName 9) (tt := tTest (tOp (rIn K true) (tVar 9) (tVar 2))) rfl scNames.nd (pi_list (pv 6)) (blkOk_by (N := nNames) (sc := defScope sNames) (by decide +kernel))
          (fun _ _ _ _ _ => pg_name (i := 9) scNames.nd rfl (Or.inl rfl)) (fun _ _ _ _ _ => pts_one (pt_cmpR op_notIn_seq (pv 9) (pv 2) (by rfl))) (fun _ _ _ _ _ => pv 9)) pe_int (fun _ _ => rfl)) pa_nil))))))))
    (pss_one (ps_ret (pv 2))))), ?_⟩)
  · obtain ⟨p, m, n, rfl, _⟩ := h
    rfl
  · obtain ⟨p, m, n, rfl, hm, hp, hn, q⟩ := h
    refine ⟨Nat.zero_le _, fun l hl => ?_⟩
    refine ⟨_, rfl, (m : Int), rfl, Int.le_trans (by decide) (Int.natCast_nonneg m), Int.lt_of_le_of_lt (Int.ofNat_le.mpr hm) (by decide), for_range (lo := 0) (n := m) (fun k σ H' => ∃ v3 v4 v5 v6 zs, σ = [some (.ref p), some (.int (m : Int)), some (.ref l), v3, v4, v5, v6, none, none, none] ∧ But H H' p ∧ Pool H' p (n + 9 * k) ∧ H' l = some (.lst (zs.map V.str)) ∧ zs.length = k ∧ Nms zs) ?_ ?_ ?_⟩
    · exact ⟨none, none, none, none, [], rfl, fun b u _ e => by rw [upd_ne (ne_of_none e hl)]; exact e, by
        obtain ⟨g, mm, c, h1, h2⟩ := hp
        refine ⟨g, mm, c, by rw [upd_ne (ne_of_none h1 hl)]; exact h1, ?_⟩
        rw [show n + 9 * ((0 : Nat) : Int) = n by omega]
        exact h2, upd_same, rfl, List.nodup_nil, fun z hz => by cases hz⟩
    · rintro k σ H1 hk ⟨v3, v4, v5, v6, zs, rfl, b1, p1, l1, len1, ns1⟩
      refine ⟨Nat.le_of_ble_eq_true rfl, fun l2 hl2 => ?_⟩
      have lp : l ≠ p := pool_ne hp hl
      obtain ⟨Ha, hHa⟩ : ∃ Ha, Ha = L2.upd H1 l2 (.lst [.int 1, .int 1, .int 2, .int 3, .int 8]) := ⟨_, rfl⟩
      rw [← hHa]
      have xa : Ext H1 Ha := by
        rw [hHa]
        exact Ext.upd hl2
      have l2a : Ha l2 = some (.lst [.int 1, .int 1, .int 2, .int 3, .int 8]) := by rw [hHa, upd_same]
      have l2p : l2 ≠ p := pool_ne p1 hl2
      refine ⟨_, rfl, p, 5, _, rfl, by decide, by decide, pool_ext p1 xa, by omega, fun r o r0 r1 gp => ?_⟩
      obtain ⟨Hb, hHb⟩ : ∃ Hb, Hb = L2.upd Ha p o := ⟨_, rfl⟩
      rw [← hHb] at gp
      rw [← hHb]
      have bb : But Ha Hb p := by
        rw [hHb]
        exact But.upd (ext_but Ext.rfl')
      have lb : Hb l = some (.lst (zs.map V.str)) := bb _ _ lp (xa _ _ l1)
      obtain ⟨j, rfl⟩ := Int.eq_ofNat_of_zero_le r0
      have hj : j < 5 := by omega
      obtain ⟨sz, hsz, hin⟩ : ∃ sz : Nat, ([.int 1, .int 1, .int 2, .int 3, .int 8] : List V)[j]? = some (.int (sz : Int)) ∧ sz ∈ [1, 1, 2, 3, 8] := by
        match j, hj with
        | 0, _ => exact ⟨1, rfl, by decide⟩
        | 1, _ => exact ⟨1, rfl, by decide⟩
        | 2, _ => exact ⟨2, rfl, by decide⟩
        | 3, _ => exact ⟨3, rfl, by decide⟩
        | 4, _ => exact ⟨8, rfl, by decide⟩
      have hsz8 : sz ≤ 8 := by
        simp only [List.mem_cons, List.not_mem_nil, or_false] at hin
        omega
      refine ⟨l2, _, _, _, rfl, rfl, SqL.of (bb _ _ l2p l2a), atI_nat hsz, ?_⟩
      refine ⟨rfl, _, rfl, (sz : Int), rfl, Int.le_trans (by decide) (Int.natCast_nonneg sz), Int.lt_of_le_of_lt (Int.ofNat_le.mpr hsz8) (by decide), fun D hD => lc_it (walk_range (lo := 0) (n := sz))
        (fun i H' => But Hb H' p ∧ Pool H' p (n + 9 * k + 1 + i) ∧ ∃ cs : List Nat, cs.length = i ∧ (∀ c, c ∈ cs → c ∈ az.cps.toList) ∧ H' D = some (.lst (cs.map fun c => V.str ⟨#[c]⟩)))
        ⟨ext_but (Ext.upd hD), pool_ext (by rw [show n + 9 * (k : Int) + 1 + ((0 : Nat) : Int) = n + 9 * k + 1 by omega]; exact gp) (Ext.upd hD), [], rfl, (fun c hc => by cases hc), upd_same⟩ (fun _ _ _ _ => True.intro) ?_ ?_⟩
      · rintro i x H2 H3 hi ⟨b2, p2, cs, hcs, hall, ld⟩ ⟨rfl, rfl⟩
        refine ⟨rfl, ?_⟩
        refine lcYes ?_
        have Dp : D ≠ p := pool_ne gp hD
        refine ⟨_, rfl, p, 25, _, rfl, by decide, by decide, p2, by omega, fun r o r0 r1 gp => ?_⟩
        obtain ⟨c1, rfl⟩ := Int.eq_ofNat_of_zero_le r0
        have hc1 : c1 < az.cps.toList.length := by
          rw [show az.cps.toList.length = 25 by decide +kernel]
          omega
        refine ⟨az, _, az.cps.toList[c1], rfl, rfl, Nat.le_of_ble_eq_true (by decide +kernel), atI_nat (List.getElem?_eq_getElem hc1), cs.map (fun c => V.str ⟨#[c]⟩), ?_, ?_, ?_⟩
        · rw [upd_ne Dp]
          exact ld
        · rw [List.length_map, hcs, sizeLine_eq]
          omega
        · refine ⟨?_, ?_, cs ++ [az.cps.toList[c1]], by rw [List.length_append, hcs]; rfl, fun c hc => ?_, by rw [upd_same, List.map_append]; rfl⟩
          · intro b u hb hu
            rw [upd_ne (ne_of_none hu hD), upd_ne hb]
            exact b2 b u hb hu
          · refine pool_at (n := n + 9 * k + 1 + ((i + 1 : Nat) : Int)) (H := L2.upd H3 p o) ?_ (upd_ne (Ne.symm Dp))
            rw [show n + 9 * (k : Int) + 1 + ((i + 1 : Nat) : Int) = n + 9 * k + 1 + (i : Int) + 1 by omega]
            exact gp
          · rcases List.mem_append.mp hc with hc | hc
            · exact hall c hc
            · rw [List.mem_singleton.mp hc]
              exact List.getElem_mem hc1
      rintro H4 ⟨b4, p4, cs, hcs, hall, ld⟩
      have l4 : H4 l = some (.lst (zs.map V.str)) := b4 _ _ lp lb
      refine ⟨_, D, cs.map fun c => (⟨#[c]⟩ : Str), rfl, rfl, .inl (SqL.of (by rw [ld, List.map_map]; rfl)), by rw [sum_one, hcs]; show sz + _ * 0 ≤ _; omega, ?_⟩
      have hw : Nm (Txt.join "" (cs.map fun c => (⟨#[c]⟩ : Str))) := word_nm (join_one cs) hall (by rw [hcs]; exact hin)
      obtain ⟨wd, hwd⟩ : ∃ wd, wd = Txt.join "" (cs.map fun c => (⟨#[c]⟩ : Str)) := ⟨_, rfl⟩
      rw [← hwd] at hw
      rw [← hwd]
      have lD : H4 D = some (.lst (cs.map fun c => V.str ⟨#[c]⟩)) := ld
      refine ⟨_, rfl, Nat.le_of_ble_eq_true rfl, fun l5 hl5 => ?_⟩
      obtain ⟨H5, hH5⟩ : ∃ H5, H5 = L2.upd H4 l5 (.lst [.str wd]) := ⟨_, rfl⟩
      rw [← hH5]
      have x5 : Ext H4 H5 := by
        rw [hH5]
        exact Ext.upd hl5
      have l55 : H5 l5 = some (.lst [.str wd]) := by rw [hH5, upd_same]
      refine ⟨ap, rfl, fun D2 hD2 => lc_it (walk_str (z := ap)) (fun i H' => Ext H5 H' ∧ H' D2 = some (.lst ((spares.take i).map V.str))) ⟨Ext.upd hD2, upd_same⟩ (fun _ _ _ _ => True.intro) ?_ ?_⟩
      · rintro i x H6 H7 hi ⟨x6, l6⟩ ⟨rfl, c, hc, rfl⟩
        refine ⟨rfl, ?_⟩
        refine lcYes ?_
        refine ⟨_, rfl, _, _, rfl, rfl, Nat.le_of_ble_eq_true rfl, _, _, rfl, rfl, Nat.le_of_ble_eq_true rfl, _, l6, ?_, ?_⟩
        · rw [List.length_map, List.length_take]
          exact Nat.lt_of_le_of_lt (Nat.min_le_right _ _) (by rw [spares_len]; exact Nat.le_of_ble_eq_true rfl)
        · refine ⟨x6.over hD2, ?_⟩
          have e : spares[i]? = some (("z" : Str) ++ (⟨#[c]⟩ : Str) ++ ("q" : Str)) := by
            unfold spares
            rw [List.getElem?_map, Array.getElem?_toList, hc]
            rfl
          rw [upd_same, List.take_add_one, e, List.map_append]
          rfl
      rintro H6 ⟨x6, l6⟩
      have etk : spares.take ap.cps.size = spares := List.take_of_length_le (by rw [spares_len]; decide +kernel)
      rw [etk] at l6
      refine ⟨l5, D2, _, _, rfl, rfl, x6 _ _ l55, l6, by rw [List.length_map, spares_len]; exact Nat.le_of_ble_eq_true rfl, fun l7 hl7 => ?_⟩
      obtain ⟨H7, hH7⟩ : ∃ H7, H7 = L2.upd H6 l7 (.lst ([V.str wd] ++ spares.map V.str)) := ⟨_, rfl⟩
      rw [← hH7]
      have x7 : Ext H6 H7 := by
        rw [hH7]
        exact Ext.upd hl7
      have l77 : H7 l7 = some (.lst ((wd :: spares).map V.str)) := by rw [hH7, upd_same]; rfl
      have x47 : Ext H4 H7 := (x5.trans x6).trans x7
      have l17 : H7 l = some (.lst (zs.map V.str)) := x47 _ _ l4
      have fz : (zs.map V.str).all flatV = true := by rw [List.all_map]; exact List.all_eq_true.mpr fun _ _ => rfl
      refine ⟨_, rfl, .inl ⟨rfl, _, SqL.of l17⟩, ?_⟩
      refine ⟨_, rfl, l7, rfl, ⟨_, SqL.of l77⟩, fun D3 hD3 => lc_it (walk_list (xs := (wd :: spares).map V.str)) (fun i H' => Ext H7 H' ∧ H' D3 = some (.lst ((((wd :: spares).take i).filter fun z => !decide (z ∈ zs)).map V.str)))
        ⟨Ext.upd hD3, upd_same⟩ (fun i H' _ z => SqL.of (z.1 _ _ l77)) ?_ ?_⟩
      · rintro i x H8 H9 hi ⟨x8, l8⟩ ⟨rfl, hx⟩
        obtain ⟨z, hz, rfl⟩ : ∃ z, (wd :: spares)[i]? = some z ∧ x = V.str z := by
          rw [List.getElem?_map] at hx
          cases e : (wd :: spares)[i]? with
          | none =>
            rw [e] at hx
            cases hx
          | some z =>
            rw [e] at hx
            exact ⟨z, rfl, (Option.some.inj hx).symm⟩
        have l18 := x8 _ _ l17
        refine ⟨rfl, ?_⟩
        refine ⟨_, rfl, _, rfl, l, _, rfl, .inl (SqL.of l18), rfl, fz, _, rfl, ?_⟩
        rw [if_pos rfl, inV_str]
        have tk : (wd :: spares).take (i + 1) = (wd :: spares).take i ++ [z] := by rw [List.take_add_one, hz]; rfl
        by_cases hin2 : z ∈ zs
        · rw [decide_eq_true hin2]
          refine iteF ?_
          refine ⟨x8, ?_⟩
          have ef : [z].filter (fun z => !decide (z ∈ zs)) = [] := by simp [hin2]
          rw [tk, List.filter_append, ef, List.append_nil]
          exact l8
        · rw [decide_eq_false hin2]
          refine iteT ?_
          refine ⟨_, rfl, _, l8, ?_, x8.over hD3, ?_⟩
          · rw [List.length_map]
            refine Nat.lt_of_le_of_lt (List.length_filter_le _ _) ?_
            rw [List.length_take]
            refine Nat.lt_of_le_of_lt (Nat.min_le_right _ _) ?_
            rw [List.length_cons, spares_len]
            exact Nat.le_of_ble_eq_true rfl
          · have ef : [z].filter (fun z => !decide (z ∈ zs)) = [z] := by simp [hin2]
            rw [upd_same, tk, List.filter_append, ef, List.map_append]
            rfl
      rintro H8 ⟨x8, l8⟩
      rw [List.length_map, List.take_length] at l8
      obtain ⟨z, r, hzr⟩ := fresh_ne (w := wd) (zs := zs) (by omega)
      obtain ⟨hz1, hz2⟩ := fresh_mem hzr hw
      have l8' : H8 D3 = some (.lst ((z :: r).map V.str)) := by rw [← hzr]; exact l8
      have l18 := x8 _ _ l17
      refine ⟨D3, _, ((0 : Nat) : Int), .str z, rfl, rfl, SqL.of l8', atI_nat rfl, ?_⟩
      refine ⟨l, _, _, rfl, rfl, l18, by rw [List.length_map, len1, sizeLine_eq]; omega, ?_⟩
      have x48 : Ext H4 H8 := x47.trans x8
      refine ⟨_, _, _, _, zs ++ [z], rfl, ?_, ?_, by rw [upd_same, List.map_append]; rfl, by rw [List.length_append, len1]; rfl, ?_, ?_⟩
      · intro b u hb hu
        rw [upd_ne (ne_of_none hu hl)]
        exact (((b1.ext xa).trans bb).trans b4).ext x48 b u hb hu
      · refine pool_at (H := H8) ?_ (upd_ne (Ne.symm lp))
        obtain ⟨g, mm, c, h1, h2, h3, h4, h5, h6⟩ := pool_ext p4 x48
        exact ⟨g, mm, c, h1, h2, h3, h4, h5, by omega⟩
      · rw [List.nodup_append]
        refine ⟨ns1.1, by simp, fun a ha b hb e => ?_⟩
        rw [List.mem_singleton.mp hb] at e
        rw [e] at ha
        exact hz2 ha
      · intro y hy
        rcases List.mem_append.mp hy with hy | hy
        · exact ns1.2 y hy
        · rw [List.mem_singleton.mp hy]
          exact hz1
    · rintro σ H1 ⟨v3, v4, v5, v6, zs, rfl, b1, p1, l1, len1, ns1⟩
      exact ⟨_, rfl, q l zs H1 b1 p1 l1 hl len1 ns1⟩
end
end My

namespace My
open PySem PySem.Spec PyProof.Rows L2
theorem scHouse : FnScope ["_law_pool_here", "_law_most", "_law_more", "_law_many", "_law_few", "_law_words"] ["_law_pool_here", "_law_most", "_law_more"] (defScope sHouse) := ⟨rfl, rfl, rfl, by decide +kernel, rfl, by decide +kernel, by decide +kernel⟩
def spHouse : Sp := fun vs H Q _ => ∃ (p : Addr) (n : Int) (mo mr : Nat), vs = [.ref p, .int (mo : Int), .int (mr : Int)] ∧ 1 ≤ mo ∧ mo ≤ 4 ∧ 1 ≤ mr ∧ mr ≤ 3 ∧ Pool H p n ∧ n < 900000 ∧
  ∀ t l1 l2 fo th H', But H H' p → Pool H' p (n + 80) → H' t = some (.tup [.ref l1, .ref l2]) → H' l1 = some (.lst (fo.map V.str)) → H' l2 = some (.lst (th.map V.str)) → l1 ≠ l2 → H l1 = none → H l2 = none →
    1 ≤ fo.length → fo.length ≤ mo → th.length ≤ mr → 2 ≤ fo.length + th.length → Nms (fo ++ th) → Q (.ref t) H'
section
variable {P : Program} {w : World} {K : PySem.W.Frag} {mg : Str → Option Value} {base : Heap} {f fT fN : Addr} {fd fdT fdN : FuncData}
theorem ok_house (Fn : FnP K "_law_house" sHouse f fd) (FT : FnOk P w K mg base CX0 1 fT fdT ["_law_pool_here", "_law_many"] spTake) (gT : mg "_law_take" = some (.ref fT)) (kT : PySem.W.keepIn K (.ref fT) = true) (bT : Binds K fdT ["_law_pool_here", "_law_many"] [])
    (FN : FnOk P w K mg base CX0 2 fN fdN ["_law_pool_here", "_law_many"] (spNames K)) (gN : mg "_law_names" = some (.ref fN)) (kN : PySem.W.keepIn K (.ref fN) = true) (bN : Binds K fdN ["_law_pool_here", "_law_many"] []) (gM : mg "max" = none) :
    FnOk P w K mg base CX0 3 f fd ["_law_pool_here", "_law_most", "_law_more"] spHouse := by
  refine Fn.ok scHouse (fun vs H Q E h => ?_) (fun cdv A outer s H vs Q E hr h => ⟨_, PSs.nox
    (pss_cons (ps_set (i := 3) scHouse.nd rfl (.inl rfl) (pe_op op_add pe_int (pe_call FT (hr.mono (by decide)) (by rfl) gT kT bT .nil pass0 (pa_cons (pv 0) (pa_cons (pv 1) pa_nil)))))
    (pss_cons (ps_set (i := 4) scHouse.nd rfl (.inl rfl) (pe_callB (call_max2 rfl) (by rfl) gM boot_max (pa_cons (pe_call FT (hr.mono (by decide)) (by rfl) gT kT bT .nil pass0 (pa_cons (pv 0) (pa_cons (pe_op op_add (pv 2) pe_int) pa_nil))) (pa_cons (pe_op op_sub pe_int (pv 3)) pa_nil))))
    (pss_cons (ps_set (i := 5) scHouse.nd rfl (.inl rfl) (pe_call FN hr (by rfl) gN kN bN .nil pass0 (pa_cons (pv 0) (pa_cons (pe_op op_add (pv 3) (pv 4)) pa_nil))))
    (pss_one (ps_ret (pe_tup (pa_cons (pe_slice sl_list (pv 5) po_none (po_some (pv 3))) (pa_cons (pe_slice sl_list (pv 5) (po_some (pv 3)) po_none) pa_nil)))))))), ?_⟩)
  · obtain ⟨p, n, mo, mr, rfl, _⟩ := h
    rfl
  · obtain ⟨p, n, mo, mr, rfl, mo1, mo4, mr1, mr3, hp, hn, q⟩ := h
    refine ⟨_, rfl, _, rfl, p, mo, n, rfl, by omega, by omega, hp, by omega, fun r o r0 r1 gp => ?_⟩
    obtain ⟨H1, hH1⟩ : ∃ H1, H1 = L2.upd H p o := ⟨_, rfl⟩
    rw [← hH1] at gp
    rw [← hH1]
    have b1 : But H H1 p := by
      rw [hH1]
      exact But.upd (ext_but Ext.rfl')
    obtain ⟨r', rfl⟩ := Int.eq_ofNat_of_zero_le r0
    refine ⟨_, _, rfl, rfl, ?_⟩
    refine ⟨_, rfl, _, rfl, _, _, rfl, rfl, p, _, _, rfl, by omega, by omega, gp, by omega, fun r2 o2 r20 r21 gp2 => ?_⟩
    obtain ⟨H2, hH2⟩ : ∃ H2, H2 = L2.upd H1 p o2 := ⟨_, rfl⟩
    rw [← hH2] at gp2
    rw [← hH2]
    have b2 : But H H2 p := b1.trans (by
      rw [hH2]
      exact But.upd (ext_but Ext.rfl'))
    obtain ⟨r2', rfl⟩ := Int.eq_ofNat_of_zero_le r20
    refine ⟨_, rfl, _, _, rfl, rfl, _, _, rfl, ?_⟩
    -- the numbers
    obtain ⟨few, hfew, hf1, hf2⟩ : ∃ few : Nat, (if (2 - (1 + (r' : Int))) > (r2' : Int) then (2 - (1 + (r' : Int))) else (r2' : Int)) = (few : Int) ∧ few ≤ mr ∧ 2 ≤ (1 + r') + few := by
      by_cases c : (2 - (1 + (r' : Int))) > (r2' : Int)
      · rw [if_pos c]
        exact ⟨1 - r', by omega, by omega, by omega⟩
      · rw [if_neg c]
        exact ⟨r2', rfl, by omega, by omega⟩
    refine ⟨_, rfl, _, rfl, _, rfl, _, _, rfl, rfl, p, 1 + r' + few, _, by rw [hfew]; rfl, by omega, gp2, by omega, fun l zs H3 b3 p3 l3 ln3 len3 nms3 => ?_⟩
    have b03 : But H H3 p := b2.trans b3
    have lp : l ≠ p := pool_ne gp2 ln3
    have hk : 1 + r' ≤ (zs.map V.str).length := by
      rw [List.length_map, len3]
      omega
    have hH : ∀ {b : Addr}, H3 b = none → H b = none := fun {b} h => by
      cases hh : H b with
      | none => rfl
      | some u =>
        by_cases e : b = p
        · obtain ⟨_, _, _, h1, _⟩ := p3
          rw [e, h1] at h
          cases h
        · rw [b03 b u e hh] at h
          cases h
    have ei : (1 : Int) + (r' : Int) = ((1 + r' : Nat) : Int) := by omega
    refine ⟨_, rfl, _, rfl, _, rfl, l, _, rfl, SqL.of l3, fun l4 hl4 => ?_⟩
    refine ⟨_, rfl, _, rfl, _, rfl, l, _, rfl, SqL.of (Ext.upd hl4 _ _ l3), fun l5 hl5 => ?_⟩
    refine ⟨Nat.le_of_ble_eq_true rfl, fun t ht => ?_⟩
    rw [ei, cutV_take hk, cutV_drop hk] at ht
    rw [ei, cutV_take hk] at hl5
    rw [ei, cutV_take hk, cutV_drop hk]
    obtain ⟨H4, hH4⟩ : ∃ H4, H4 = L2.upd H3 l4 (.lst ((zs.map V.str).take (1 + r'))) := ⟨_, rfl⟩
    rw [← hH4] at hl5 ht
    rw [← hH4]
    have x4 : Ext H3 H4 := by
      rw [hH4]
      exact Ext.upd hl4
    obtain ⟨H5, hH5⟩ : ∃ H5, H5 = L2.upd H4 l5 (.lst ((zs.map V.str).drop (1 + r'))) := ⟨_, rfl⟩
    rw [← hH5] at ht
    rw [← hH5]
    have x5 : Ext H4 H5 := by
      rw [hH5]
      exact Ext.upd hl5
    have x6 : Ext H5 (L2.upd H5 t (.tup [.ref l4, .ref l5])) := Ext.upd ht
    have l44 : H4 l4 = some (.lst ((zs.take (1 + r')).map V.str)) := by rw [hH4, upd_same, List.map_take]
    have l55 : H5 l5 = some (.lst ((zs.drop (1 + r')).map V.str)) := by rw [hH5, upd_same, List.map_drop]
    have ne : l4 ≠ l5 := ne_of_none l44 hl5
    have h5n : H3 l5 = none := by
      rw [hH4, upd_ne (Ne.symm ne)] at hl5
      exact hl5
    refine q t l4 l5 (zs.take (1 + r')) (zs.drop (1 + r')) _ (b03.ext ((x4.trans x5).trans x6)) (pool_mono (pool_ext p3 ((x4.trans x5).trans x6)) (by omega)) upd_same (x6 _ _ (x5 _ _ l44)) (x6 _ _ l55) ne (hH hl4) (hH h5n) ?_ ?_ ?_ ?_ ?_
    · rw [List.length_take]
      omega
    · rw [List.length_take]
      omega
    · rw [List.length_drop]
      omega
    · rw [List.length_take, List.length_drop]
      omega
    · rw [List.take_append_drop]
      exact nms3
end
end My

namespace L2
open PySem PySem.Spec PyProof.Rows
/-! ### several except clauses, with names or without -/
abbrev Cl : Type := Value × Option Nat × (Addr → Value → Option Addr → TS)
def wAll (K : PySem.W.Frag) (Wout : WX) (D : Ends) : List Cl → WX
  | [] => Wout
  | (c, none, ts) :: r => fun cls d σ H => ∃ b, PySem.W.exmOne K cls c = some b ∧ (b = true → ∀ a, H a = none → ts a cls d D σ H) ∧ (b = false → wAll K Wout D r cls d σ H)
  | (c, some i, ts) :: r => fun cls d σ H => ∃ b, PySem.W.exmOne K cls c = some b ∧ (b = true → ∀ a, H a = none → i < σ.length → ts a cls d { nx := fun σ' H' => D.nx (σ'.set i none) H', rt := D.rt, bk := fun σ' H' => D.bk (σ'.set i none) H', ct := fun σ' H' => D.ct (σ'.set i none) H' } (σ.set i (some (.ref a))) H) ∧
    (b = false → wAll K Wout D r cls d σ H)
inductive HdsAll (X : Cx) : List ExceptHandler → List Cl → Prop
  | nil : HdsAll X [] []
  | bare {x : Str} {c : Value} {ts : Addr → Value → Option Addr → TS} {b₀ : Stmt} {suite : List Stmt} {np pos' : Pos} {hds : List ExceptHandler} {l : List Cl} (hc : Names X x c)
      (hsu : ∀ (a : Addr) (oe : Obj) (cls : Value) (d : Option Addr) (pn : List (Addr × Obj)), Zc cls d oe → (∃ vs, oe.data = .fields vs) → PSs (X.suite a ((a, oe) :: pn)) (b₀ :: suite) (ts a cls d)) (r : HdsAll X hds l) :
      HdsAll X (.ExceptHandler (some (.Name x np)) none (b₀ :: suite) pos' :: hds) ((c, none, ts) :: l)
  | as {x n : Str} {i : Nat} {c : Value} {ts : Addr → Value → Option Addr → TS} {b₀ : Stmt} {suite : List Stmt} {np pos' : Pos} {hds : List ExceptHandler} {l : List Cl} (hi : X.N[i]? = some n) (hln : X.env.kindOf n = some .local) (hc : Names X x c)
      (hsu : ∀ (a : Addr) (oe : Obj) (cls : Value) (d : Option Addr) (pn : List (Addr × Obj)), Zc cls d oe → (∃ vs, oe.data = .fields vs) → PSs (X.suite a ((a, oe) :: pn)) (b₀ :: suite) (ts a cls d)) (r : HdsAll X hds l) :
      HdsAll X (.ExceptHandler (some (.Name x np)) (some n) (b₀ :: suite) pos' :: hds) ((c, some i, ts) :: l)
section
variable {X : Cx} {body : List Stmt} {h₀ : ExceptHandler} {hds : List ExceptHandler} {l : List Cl} {pos : Pos} {tb : WX → TS} {Wout : WX}
theorem ps_try_all (hs : X.stack = X.env :: X.outer) (hf : X.env.frame = some X.env.locals) (hN : X.N.Nodup) (tk : Takes X Wout)
    (hb : ∀ (W : WX) (pn : List (Addr × Obj)) (xe : Value → Shared → Prop), Takes (X.tr pn xe) W → PassesOwn (model X.prog X.w) X.A X.env xe → PSs (X.tr pn xe) body (tb W))
    (hh : HdsAll X (h₀ :: hds) l) : PS X (.Try body (h₀ :: hds) [] [] pos) (fun D σ H => tb (wAll X.K Wout D l) D σ H) := by
  refine ⟨fun pins s σ H D I h => ?_⟩
  have ok := I.ok
  have hfr : X.A.frames = some (X.env :: X.outer) := by rw [ok.frames, hs]
  refine wpAny_Try_except ?_
  refine wpAny_mono ((hb (wAll X.K Wout D l) (X.pn ++ pins) (fun e s₁ => wpAny (model X.prog X.w) X.A (noteFrame e X.env) (fun _ s₂ => wpAny (model X.prog X.w) X.A (setFlight e none) (fun _ s₃ =>
    wpAny (model X.prog X.w) X.A (handleBy e X.env (h₀ :: hds)) (SP X pins D) X.xe s₃) X.xe s₂) X.xe s₁) (fun u s' xx => ?_) PassesOwn.looking).run [] s σ H D (I.toTry _) h) (fun f s1 hsp => ?_) (fun e s1 he => he)
  · -- the catch
    obtain ⟨a, B, sI, pins', σ', H', cls, d, rfl, J', nb, up, sky, na, os, ag, w⟩ := xx
    have J : Inv X pins σ' H' sI := J'.ofTry ok
    have sky' : Sky B (X.env :: X.outer) a (Zc cls d) X.env.locals s'.heap := by rw [← hs]; exact sky
    show wpAny (model X.prog X.w) X.A (noteFrame (.ref a) X.env) _ _ _
    refine Sky.land Zc.steady hfr hf sky' fun h3 fl3 up3 => ?_
    have J3 : Inv X pins σ' H' { s' with heap := h3 } := J.landed nb fl3.1 (up.trans up3) os ag
    obtain ⟨oe3, vs3, he3, hz3, hd3⟩ := fl3.there
    have notFr : ∀ {h : Heap} {o : Obj} {vs : Array Value}, h.FunFrames B (X.env :: X.outer) → h.get? a = some o → o.data = .fields vs → a ∉ frs (X.env :: X.outer) := fun {h o vs} ff e dd hm => by
      obtain ⟨_, o', e', hnf⟩ := ff.mem hm
      rw [e] at e'; cases e'
      exact hnf _ dd
    have nfr := notFr fl3.2.2.1 he3 hd3
    have nL : a ≠ X.env.locals := fun z => nfr (List.mem_filterMap.mpr ⟨X.env, List.mem_cons_self, by rw [hf, z]⟩)
    have nF : a ∉ X.fs := fun hm => by
      obtain ⟨e, he, q⟩ := List.mem_filterMap.mp hm
      exact nfr (List.mem_filterMap.mpr ⟨e, List.mem_cons_of_mem _ he, q⟩)
    have S3 := J3.suite he3 hd3 na nL nF
    have test : ∀ {x : Str} {c : Value} {np : Pos}, Names X x c → ∀ {Q : Value → Shared → Prop} {E : Value → Shared → Prop}, Q c { s' with heap := h3 } → wpAny (model X.prog X.w) (X.A.mark (some (.ref a))) (eval (.Name x np) X.env) Q E { s' with heap := h3 } := fun {x c np} hc {Q E} q => by
      obtain ⟨hg, hdbg, hm | ⟨hm, hv, hnn⟩⟩ := hc
      · exact ld_glob (X := X.suite a ((a, oe3) :: (X.pn ++ pins))) S3 hg hm q hdbg
      · exact ld_blt (X := X.suite a ((a, oe3) :: (X.pn ++ pins))) S3 hg hm hv q hnn hdbg
    have LT : PySem.W.Looks (model X.prog X.w) h3 (typeOf (.ref a)) cls := fun A Q E s k q => wpAny_typeOf_ref (k _ _ he3) (by rw [hz3.1]; exact q)
    have go : ∀ {hds' : List ExceptHandler} {l' : List Cl}, HdsAll X hds' l' → wAll X.K Wout D l' cls d σ' H' →
        wpAny (model X.prog X.w) X.A (handleBy (.ref a) X.env hds') (SP X pins D) X.xe { s' with heap := h3 } := by
      intro hds' l' hk
      induction hk with
      | nil =>
        intro w
        refine wpAny_handleBy_nil ?_
        obtain ⟨k1, k2, k3, oe, vs, T, oT, ts', he, hz, hd, h1, hr⟩ := id fl3
        unfold PySem.passOn
        refine wpAny_bind (wpAny_field he hd h1 ?_)
        rw [if_neg (show ¬ ((Value.ref T == Value.none) = true) from by simp)]
        have fin : wpAny (model X.prog X.w) X.A (setFlight (.ref a) X.env.frame) (fun _ s4 => wpAny (model X.prog X.w) X.A (throw (.ref a) : Sem Flow) (SP X pins D) X.xe s4) X.xe { s' with heap := h3 } := by
          rw [hf]
          refine HandSPX.setFlight_upZ fl3 fun h4 hh4 up4 => wpAny_throw (tk _ _ ?_)
          exact ⟨a, B, sI, pins, σ', H', cls, d, rfl, J, nb, (up.trans up3).trans up4, .inr (.inr (by rw [hs]; exact hh4)), na, os, ag, w⟩
        first
          | exact wpAny_bind (wpAny_pure (wpAny_bind fin))
          | exact wpAny_bind fin
      | @bare x c ts b₀ suite np pos' hds2 l2 hc hsu r ih =>
        intro w
        obtain ⟨b, hb1, hyes, hno⟩ := w
        refine wpAny_handleBy_cons (codeAny_handlers_test ?_) (by intro q; cases q)
        have LM := PySem.W.exm_one (M := model X.prog X.w) (J3.kIn) LT hb1
        refine test hc (LM.here ?_)
        cases b with
        | true =>
          refine codeAny_handlers_suite ?_
          refine HandSPX.lands_againZ fl3 fun h4 fl4 up4 => ?_
          have J4 : Inv X pins σ' H' { s' with heap := h4 } := J.landed nb fl4.1 ((up.trans up3).trans up4) os ag
          obtain ⟨oe4, vs4, he4, hz4, hd4⟩ := fl4.there
          have S4 := J4.suite he4 hd4 na nL nF
          refine wpAny_mono ((hsu a oe4 cls d (X.pn ++ pins) hz4 ⟨_, hd4⟩).run [] _ _ H' _ S4 (hyes rfl a na)) (fun f s6 hsp => ?_) (fun _ _ z => False.elim z)
          cases f with
          | next =>
            obtain ⟨σ6, H6, S6, q6⟩ := hsp
            exact ⟨_, _, S6.unsuite ok, q6⟩
          | brk =>
            obtain ⟨σ6, H6, S6, q6⟩ := hsp
            exact ⟨_, _, S6.unsuite ok, q6⟩
          | cont =>
            obtain ⟨σ6, H6, S6, q6⟩ := hsp
            exact ⟨_, _, S6.unsuite ok, q6⟩
          | ret u =>
            obtain ⟨v6, σ6, H6, S6, r6, q6⟩ := hsp
            exact ⟨_, _, _, S6.unsuite ok, r6, q6⟩
        | false =>
          show wpAny _ X.A (handleBy (.ref a) X.env hds2) _ _ _
          exact ih (hno rfl)
      | @as x n i c ts b₀ suite np pos' hds2 l2 hi hln hc hsu r ih =>
        intro w
        obtain ⟨b, hb1, hyes, hno⟩ := w
        have hloc : Loc X.env.scope n := .inl hln
        refine wpAny_handleBy_cons (codeAny_handlers_test ?_) (by intro q; cases q)
        have LM := PySem.W.exm_one (M := model X.prog X.w) (J3.kIn) LT hb1
        refine test hc (LM.here ?_)
        cases b with
        | true =>
          refine codeAny_handlers_suite_as ?_
          refine HandSPX.lands_againZ fl3 fun h4 fl4 up4 => ?_
          have J4 : Inv X pins σ' H' { s' with heap := h4 } := J.landed nb fl4.1 ((up.trans up3).trans up4) os ag
          obtain ⟨oe4, vs4, he4, hz4, hd4⟩ := fl4.there
          have S4 := J4.suite he4 hd4 na nL nF
          refine store_ok (X := X.suite a ((a, oe4) :: (X.pn ++ pins))) (v := .ref a) S4 hN hi hloc rfl (fun s5 S5 => ?_) (.inr hln)
          refine wpAny_mono ((hsu a oe4 cls d (X.pn ++ pins) hz4 ⟨_, hd4⟩).run [] s5 _ H' _ S5 (hyes rfl a na (by rw [J.len]; exact (List.getElem?_eq_some_iff.mp hi).1))) (fun f s6 hsp => ?_) (fun _ _ z => False.elim z)
          have end_ : ∀ {σ6 : St} {H6 : Hp} {Q : Shared → Prop}, Inv (X.suite a ((a, oe4) :: (X.pn ++ pins))) [] σ6 H6 s6 → (∀ s7, Inv X pins (σ6.set i none) H6 s7 → Q s7) →
              wpAny (model X.prog X.w) X.A (do bindName X.env n .none; unbindBehindTheSuite X.env n pos') (fun _ s7 => Q s7) X.xe s6 := fun {σ6 H6 Q} S6 hq => gone_ok (S6.unsuite ok) hN hi hln hq
          cases f with
          | next =>
            obtain ⟨σ6, H6, S6, q6⟩ := hsp
            exact end_ S6 fun s7 J7 => ⟨_, _, J7, q6⟩
          | brk =>
            obtain ⟨σ6, H6, S6, q6⟩ := hsp
            exact end_ S6 fun s7 J7 => ⟨_, _, J7, q6⟩
          | cont =>
            obtain ⟨σ6, H6, S6, q6⟩ := hsp
            exact end_ S6 fun s7 J7 => ⟨_, _, J7, q6⟩
          | ret u =>
            obtain ⟨v6, σ6, H6, S6, r6, q6⟩ := hsp
            exact end_ S6 fun s7 J7 => ⟨_, _, _, J7, r6, q6⟩
        | false =>
          show wpAny _ X.A (handleBy (.ref a) X.env hds2) _ _ _
          exact ih (hno rfl)
    exact go hh w
  · cases f with
    | next =>
      obtain ⟨σ', H', J', q⟩ := hsp
      exact wpAny_execs_nil ⟨σ', H', J'.ofTry ok, q⟩
    | brk =>
      obtain ⟨σ', H', J', q⟩ := hsp
      exact ⟨σ', H', J'.ofTry ok, q⟩
    | cont =>
      obtain ⟨σ', H', J', q⟩ := hsp
      exact ⟨σ', H', J'.ofTry ok, q⟩
    | ret u =>
      obtain ⟨v, σ', H', J', r, q⟩ := hsp
      exact ⟨v, σ', H', J'.ofTry ok, r, q⟩
end
end L2

namespace PySem.W
open Lean Elab Tactic Meta PySem PySem.Calls PyProof.Rows
section
variable {prog : Program} {w : World} {A : Around} {E : Value → Shared → Prop} {s : Shared} {K : Frag} {x C f : Addr} {ox : Obj} {od : Option Obj}
/-- what is asked of the right operand's type: the class itself, or a type of the language that is not below it -/
def AddT (K : Frag) (C : Addr) (nm : String) (t : Value) : Prop := t = .ref C ∨ ∃ (T : String) (fo ro : Option Value), t = .type T ∧ findIn K (.type T) (PySem.dunder nm) = some fo ∧ findIn K (.type T) (dunderR nm) = some ro ∧ subIn K (.type T) (.ref C) = some false
theorem bin_own {op : Operator} {b t : Value} {rc : Option Value} {Q : Value → Shared → Prop} (X : K.In s.heap) (I : InstAt s.heap x ox C od) (hb : Looks (model prog w) s.heap (typeOf b) t) (hc : selfFirst K C = true)
    (hs : findIn K (.ref C) (PySem.dunder op.info.2) = some (some (.ref f))) (hf : isFn K (.ref f) = true) (hr : findIn K (.ref C) (dunderR op.info.2) = some rc) (hp : rc = none ∨ ∃ g : Addr, rc = some (.ref g)) (ht : AddT K C op.info.2 t)
    (h : wpAny (model prog w) A (call (.ref f) [.ref x, b]) (CmpBack Q) E s) : wpAny (model prog w) A (binaryOp op (.ref x) b) Q E s := by
  obtain ⟨cd, rest, hcd, hm⟩ := ksp_first hc
  rcases hi : op.info with ⟨sym, nm'⟩
  rw [hi] at hs hr ht
  dsimp only at hs hr ht
  have one := ksp_try X I hs hf h
  obtain ⟨hh, g, d, tt, os⟩ := s
  have L1 : Looks (model prog w) hh (typeOf (.ref x)) (.ref C) := I.type
  have L2 : Looks (model prog w) hh (typeOf b) t := hb
  have L3 : Looks (model prog w) hh (fillsNumberSlot (.ref C) nm') true := fills_K X hcd hm hs
  rcases ht with rfl | ⟨T, fo, ro, rfl, h1, h2, hsub⟩
  · simp only [binaryOp, hi]
    refine wpAny_holding (wpAny_bind ?_)
    unfold binaryOp1
    refine wpAny_bind (L1.at (wpAny_bind (L2.at (wpAny_bind (L3.at ?_)))))
    simp only [beq_self_eq_true, if_true]
    ksp_lk
    refine wpAny_mono one (fun r s' hr' => ?_) fun _ _ e => e
    obtain ⟨v, rfl, hq⟩ := hr'
    ksp_lk
    exact hq
  have L4 : Looks (model prog w) hh (fillsNumberSlot (.type T) nm') ((fo.isSome && !isSeqSlot fo) || (ro.isSome && !isSeqSlot ro)) := ksp_fillsT X h1 h2
  have L5 : Looks (model prog w) hh (isSubtype (.type T) (.ref C)) false := looks_subIn X hsub
  have L6 : Looks (model prog w) hh (numberSlotInPython (.ref C) nm') true := ksp_inPy X hs hr hp
  have L7 : Looks (model prog w) hh (numberSlotInPython (.type T) nm') false := Looks.of_pure rfl
  have L8 : Looks (model prog w) hh (typeLookup (.type T) (dunderR nm')) ro := looks_findIn X h2
  generalize ((fo.isSome && !isSeqSlot fo) || (ro.isSome && !isSeqSlot ro)) = right at L4
  have hne : (Value.ref C == Value.type T) = false := Bool.eq_false_iff.mpr fun q => by cases beq_iff_eq.mp q
  simp only [binaryOp, hi]
  refine wpAny_holding (wpAny_bind ?_)
  unfold binaryOp1
  refine wpAny_bind (L1.at (wpAny_bind (L2.at (wpAny_bind (L3.at ?_)))))
  simp only [hne, Bool.false_eq_true, if_false]
  cases right with
  | false =>
    ksp_lk
    refine wpAny_mono one (fun r s' hr' => ?_) fun _ _ e => e
    obtain ⟨v, rfl, hq⟩ := hr'
    ksp_lk
    exact hq
  | true =>
    ksp_lk
    refine wpAny_mono one (fun r s' hr' => ?_) fun _ _ e => e
    obtain ⟨v, rfl, hq⟩ := hr'
    ksp_lk
    exact hq
end
end PySem.W
namespace L2
open PySem PySem.Spec PyProof.Rows
section
variable {X : Cx} {CI : CXT} {f : Addr} {fd : FuncData} {ps : List Str} {sp : Sp} {EI : XK} {n : Nat}
/-- o + y, o an instance with its own __add__, which gives an object -/
def rAddO (K : PySem.W.Frag) (C : Addr) (sp : Sp) (E : XK) : R2 := fun x y H Q => ∃ a dx fs t, x = .ref a ∧ H a = some (.ins C dx fs) ∧ TyX K H y t ∧ PySem.W.AddT K C "add" t ∧ sp [.ref a, y] H (fun v H' => ∃ b, v = .ref b ∧ Q (.ref b) H') E
structure AddM (K : PySem.W.Frag) (C f : Addr) : Prop where
  m : OwnM K C "__add__" f
  r : PySem.W.findIn K (.ref C) "__radd__" = some none
  s : PySem.W.selfFirst K C = true
theorem op_addO {C : Addr} (hr : Room n X.A) (M : AddM X.K C f) (F : FnOk X.prog X.w X.K X.mg X.base CI n f fd ps sp) (hb : Binds X.K fd ps []) (hx : Passes CI X EI) : OpR X (binaryOp .Add) (rAddO X.K C sp EI) := by
  intro pins s σ H x y v u Q I rx ry h
  obtain ⟨a, dx, fs, t, rfl, ha, ty, at_, hsp⟩ := h
  cases rx
  obtain ⟨mA, J, _⟩ := ins_get I.hok ha
  obtain ⟨od, J, _⟩ := J.look
  obtain ⟨P, Z, p, hx'⟩ := kit_of I ry ty
  refine PySem.W.bin_own (op := .Add) (rc := none) I.kIn J (Z.ty _ _ I.kIn p) M.s M.m.at_ M.m.fn M.r (.inl rfl) at_ ?_
  refine wpAny_mono (run_sub ⟨hr, rfl⟩ F (envSub I ⟨hr, rfl⟩) hb hx I (rv2 a ry) hsp) (fun w s' hq => ?_) fun _ _ z => z
  obtain ⟨z, H', I', rz, b, rfl, q⟩ := hq
  cases rz
  exact ⟨.ref b, H', I', rfl, q⟩
/-- what the right operand may be, by a look -/
def addB (K : PySem.W.Frag) (C : Addr) (T : String) : Bool := (PySem.W.findIn K (.type T) "__add__").isSome && ((PySem.W.findIn K (.type T) "__radd__").isSome && decide (PySem.W.subIn K (.type T) (.ref C) = some false))
theorem addB_ok {K : PySem.W.Frag} {C : Addr} {T : String} (h : addB K C T = true) : PySem.W.AddT K C "add" (.type T) := by
  obtain ⟨h1, h2⟩ := Bool.and_eq_true_iff.mp h
  obtain ⟨h2, h3⟩ := Bool.and_eq_true_iff.mp h2
  obtain ⟨fo, e1⟩ := Option.isSome_iff_exists.mp h1
  obtain ⟨ro, e2⟩ := Option.isSome_iff_exists.mp h2
  exact .inr ⟨T, fo, ro, rfl, e1, e2, of_decide_eq_true h3⟩
end
/-! ### two tuples of one and the same things -/
def plainV : V → Bool
  | .flt _ | .byt _ => false
  | _ => true
theorem eqAt_self {A : Around} {s : Shared} {v : V} {u u' : Value} (r : RelV v u) (r' : RelV v u') (f : plainV v = true) : SeqAt.EqAt A s u u' true := by
  cases v with
  | non => cases r; cases r'; exact SeqAt.EqAt.same _
  | bl b => cases r; cases r'; exact SeqAt.EqAt.same _
  | int i =>
    obtain ⟨t, rfl⟩ := r
    obtain ⟨t', rfl⟩ := r'
    have h := SeqAt.EqAt.int_int (A := A) (s := s) i t i t'
    rw [beq_self_eq_true] at h
    exact h
  | str x =>
    obtain ⟨t, rfl⟩ := r
    obtain ⟨t', rfl⟩ := r'
    have h := SeqAt.EqAt.str_str (A := A) (s := s) x t x t'
    rw [beq_self_eq_true] at h
    exact h
  | byt b => cases f
  | flt b => cases f
  | ref a => cases r; cases r'; exact SeqAt.EqAt.same _
  | ty n => cases r; cases r'; exact SeqAt.EqAt.same _
theorem pair_at : ∀ {vs : List V} {us : List Value}, Vals vs us → ∀ {j : Nat} (h : j < vs.length) (h' : j < us.length), RelV vs[j] us[j]
  | _, _, .cons r _, 0, _, _ => r
  | _, _, .cons _ t, j + 1, h, h' => pair_at t (Nat.lt_of_succ_lt_succ h) (Nat.lt_of_succ_lt_succ h')
section
variable {X : Cx}
def rNeSelf (K : PySem.W.Frag) : R2 := fun x y H Q => ∃ t u vs, x = .ref t ∧ y = .ref u ∧ SqT K H t vs ∧ SqT K H u vs ∧ vs.all plainV = true ∧ Q (.bl false) H
theorem op_neSelf (hu : X.A.units < cLine) : OpR X (compareOp .NotEq) (rNeSelf X.K) := by
  intro pins s σ H x y v u Q I rx ry h
  obtain ⟨a, b, vs, rfl, rfl, ha, hb, fl, q⟩ := h
  cases rx
  cases ry
  obtain ⟨its, rv, h1, _⟩ := I.tuple ha
  obtain ⟨its2, rv2, h2, _⟩ := I.tuple hb
  have n1 := rv.length
  have n2 := rv2.length
  have he : ∀ j (j1 : j < its.toArray.size) (j2 : j < its2.toArray.size), SeqAt.EqAt X.A.in1 s its.toArray[j] its2.toArray[j] true := fun j j1 j2 => by
    have j1' : j < its.length := by simpa using j1
    have j2' : j < its2.length := by simpa using j2
    have jv : j < vs.length := by omega
    have r1 := pair_at rv jv j1'
    have r2 := pair_at rv2 jv j2'
    have fl' : plainV vs[j] = true := List.all_eq_true.mp fl _ (List.getElem_mem jv)
    have z := eqAt_self (A := X.A.in1) (s := s) r1 r2 fl'
    simpa using z
  have z := SeqAt.RcNeAt.tuples (A := X.A) h1 h2 hu (e := fun _ => true) he
  have e : (!((List.range (min its.toArray.size its2.toArray.size)).all (fun _ => true) && its.toArray.size == its2.toArray.size)) = false := by
    have e1 : its.toArray.size = its2.toArray.size := by simp; omega
    rw [e1]
    simp
  rw [e] at z
  exact z X.prog X.w X.xe _ ⟨.bl false, H, I, rfl, q⟩
end
end L2

namespace L2
open PySem PySem.Spec PyProof.Rows
theorem slK {X : Cx} {r : PySem.W.Frag → V → Option Int → Option Int → Hp → VK → Prop} {K : PySem.W.Frag} (e : X.K = K) (h : SlR X (r X.K)) : SlR X (r K) := e ▸ h
end L2
namespace My
open PySem PySem.Spec PyProof.Rows L2
/-- a fact as it is told -/
def IsT (fo th : List Str) (w a b : Str) : Prop := IsF fo th w a b ∧ toldS (fo ++ th) w a b = [w, a, b]
/-- what else is needed of the class Facts -/
structure FacTxt (P : Program) (w : World) (K : PySem.W.Frag) (mg : Str → Option Value) (CF C CB : Addr) where
  T : FacC K CF
  gF : mg "Facts" = some (.ref CF)
  kFF : PySem.W.kitOne K (.ref CF) (.ref CF) = some true
  ne : PySem.W.findIn K (.ref CF) "__ne__" = some (some (.builtin "object.__ne__"))
  nb : ∀ T, T ∈ ["NoneType", "list", "tuple", "int", "str"] → PySem.W.notFirst K CF (.type T) = true ∧ PySem.W.kitOne K (.type T) (.ref CF) = some false
  kSeq : PySem.W.kitAny K (.ref CF) [.type "list", .type "tuple"] = some false
  fI : Addr
  fdI : FuncData
  M : Mk K CF fI
  I : ∀ base, FnOk P w K mg base (L2.CX P w) 7 fI fdI ["self", "house", "facts"] (spFInit K CF C CB)
  bI : Binds K fdI ["self", "house", "facts"] []
  uD : Value
  bD : Binds K fdI ["self", "house", "facts"] [uD]
  aD : Addr
  eD : uD = .ref aD
  tD : ∀ H, SqT K H aD []
  fT : Addr
  fdT : FuncData
  mT : Meth K CF "told" fT
  To : ∀ base, FnOk P w K mg base CX0 1 fT fdT ["self"] (spTold K CF C)
  bT : Binds K fdT ["self"] []
  fL : Addr
  fdL : FuncData
  mL : OwnM K CF "__len__" fL
  L : ∀ base, FnOk P w K mg base CX0 1 fL fdL ["self"] (spFLen K CF C)
  bL : Binds K fdL ["self"] []
  fS : Addr
  fdS : FuncData
  mS : OwnM K CF "__contains__" fS
  S : ∀ base, FnOk P w K mg base CX0 6 fS fdS ["self", "x"] (spFHas K CF C)
  bS : Binds K fdS ["self", "x"] []
  fW : Addr
  fdW : FuncData
  mW : OwnM K CF "__iter__" fW
  W : ∀ base : Heap, FnOk P w K mg base CX0 1 fW fdW ["self"] (spIter K CF "rows" base.objs.size)
  bW : Binds K fdW ["self"] []
  fE : Addr
  fdE : FuncData
  mE : OwnM K CF "__eq__" fE
  E : ∀ base, FnOk P w K mg base CX0 2 fE fdE ["self", "other"] (spFEq K CF C)
  bE : Binds K fdE ["self", "other"] []
theorem FacTxt.vD {P : Program} {w : World} {K : PySem.W.Frag} {mg : Str → Option Value} {CF C CB : Addr} (Z : FacTxt P w K mg CF C CB) : Vals [V.ref Z.aD] [Z.uD] := .cons Z.eD .nil
/-! ### rows as data, deeper -/
theorem canLay_dn (m : Nat) : ∀ ds : List PyData, (∀ d, d ∈ ds → d.canLay0 = true ∧ d.depth ≤ m) → PyData.canLayAll0 ds = true ∧ PyData.depthAll ds ≤ m
  | [], _ => ⟨rfl, Nat.zero_le _⟩
  | d :: ds, h => by
    obtain ⟨h1, h2⟩ := canLay_dn m ds fun x hx => h x (List.mem_cons_of_mem _ hx)
    obtain ⟨h3, h4⟩ := h d List.mem_cons_self
    refine ⟨?_, Nat.max_le.mpr ⟨h4, h2⟩⟩
    show (d.canLay0 && PyData.canLayAll0 ds) = true
    rw [h1, h3]
    rfl
theorem shaped_dn {m : Nat} (hm : m ≤ 63) (ds : List PyData) (h : ∀ d, d ∈ ds → d.canLay0 = true ∧ d.depth ≤ m) : SeqAt.shaped (.list ds) = true := by
  obtain ⟨h1, h2⟩ := canLay_dn m ds h
  refine Bool.and_eq_true_iff.mpr ⟨h1, decide_eq_true ?_⟩
  show PyData.depthAll ds + 1 ≤ 64
  omega
theorem rowsD_lay {rs : List (List Str)} (h : OkR rs) : (rowsD rs).canLay0 = true ∧ (rowsD rs).depth ≤ 3 := by
  obtain ⟨h1, h2⟩ := canLay_dn 2 (rs.map fun r => .tuple (r.map PyData.str)) fun d hd => by
    obtain ⟨r, hr, rfl⟩ := List.mem_map.mp hd
    exact flat_tup r (h r hr)
  exact ⟨h1, Nat.succ_le_succ h2⟩
/-- told rows -/
def TR (fo th : List Str) (rs : List (List Str)) : Prop := ∀ r, r ∈ rs → ∃ w a b, r = [w, a, b] ∧ IsT fo th w a b
theorem TR.fact {fo th : List Str} {rs : List (List Str)} (h : TR fo th rs) : FactR fo th rs := fun r hr => by
  obtain ⟨w, a, b, e, i⟩ := h r hr
  exact ⟨w, a, b, e, i.1⟩
theorem TR.told {fo th : List Str} {rs : List (List Str)} (h : TR fo th rs) : rs.map (toldR (fo ++ th)) = rs := by
  conv => rhs; rw [← List.map_id rs]
  refine List.map_congr_left fun r hr => ?_
  obtain ⟨w, a, b, rfl, i⟩ := h r hr
  exact i.2
theorem TR.ok {fo th : List Str} {rs : List (List Str)} (h : TR fo th rs) (zok : ∀ z, z ∈ fo ++ th → PyData.strOk z = true) : OkR rs := fun r hr z hz => by
  obtain ⟨w, a, b, rfl, i⟩ := h r hr
  simp at hz
  rcases hz with rfl | rfl | rfl
  · exact wordsOk _ i.1.1
  · exact zok _ i.1.2.1
  · exact zok _ i.1.2.2.1
theorem TR.sub {fo th : List Str} {rs ss : List (List Str)} (h : TR fo th rs) (s : ∀ r, r ∈ ss → r ∈ rs) : TR fo th ss := fun r hr => h r (s r hr)
theorem once_fold : ∀ rs acc : List (List Str), (acc ++ rs).Nodup → rs.foldl (fun acc r => if r ∈ acc then acc else acc ++ [r]) acc = acc ++ rs
  | [], acc, _ => (List.append_nil acc).symm
  | r :: rs, acc, nd => by
    have nr : r ∉ acc := fun m => (List.nodup_append.mp nd).2.2 r m r List.mem_cons_self rfl
    rw [List.foldl_cons, if_neg nr, once_fold rs (acc ++ [r]) (by rw [List.append_assoc]; exact nd), List.append_assoc]
    rfl
theorem once_nd {rs : List (List Str)} (nd : rs.Nodup) : onceR rs = rs := once_fold rs [] nd
theorem Rows.raws {K : PySem.W.Frag} {H : Hp} {xs : List V} {rs : List (List Str)} (h : Rows K H xs rs) : Raws K H xs rs := ⟨h.len, fun i x hx => by
  obtain ⟨t, r, e, s, hr⟩ := h.at_ hx
  exact ⟨t, r, e, hr, .inr s⟩⟩
/-- Facts(..) of facts -/
theorem mkF {K : PySem.W.Frag} {CF C CB h p x' dx : Addr} {H : Hp} {fo th : List Str} {xs : List V} {rs : List (List Str)} {R : Hp → Prop} {E : XK} (hou : Hou H K C h fo th) (nd : (fo ++ th).Nodup) (sz : (fo ++ th).length < sizeLine) (zok : ∀ z, z ∈ fo ++ th → PyData.strOk z = true)
    (sq : SeqAt2 K H p xs) (raw : Raws K H xs rs) (fr : FactR fo th rs) (len : rs.length < 1000) (h1 : H x' = none) (h2 : H dx = none) (h3 : dx ≠ x') (q : ∀ H', Ext H H' → FacAt H' K CF C x' fo th (onceR (rs.map (toldR (fo ++ th)))) → R H') :
    spFInit K CF C CB [.ref x', .ref h, .ref p] (L2.upd (L2.upd H dx (.own x')) x' (.ins CF dx [])) (fun v H2 => v = .non ∧ R H2) E := by
  have xn : Ext H (L2.upd (L2.upd H dx (.own x')) x' (.ins CF dx [])) := fun c u k => by
    rw [upd_ne (ne_of_none k h1), upd_ne (ne_of_none k h2)]
    exact k
  obtain ⟨hx, hfs, hins⟩ := hou.ins
  exact ⟨x', dx, h, _, fo, th, rfl, upd_same, ne_of_none hins h1, hou.ext xn, nd, sz, zok, .inr ⟨p, xs, rs, rfl, sq.ext xn, raw.ext xn, fr, len, fun H' b fa => ⟨rfl, q H' (fun c u k => b c u (ne_of_none k h1) (xn c u k)) fa⟩⟩⟩
end My

namespace L2
open PySem PySem.Spec PyProof.Rows
/-- for .. in enumerate(list or tuple) -/
theorem for_enumS {K : PySem.W.Frag} {a : Addr} {xs : List V} {H : Hp} (sq : SqL K H a xs ∨ SqT K H a xs) {g : TG} {tb : TS} {D : Ends} {σ : St} (Pv : Nat → St → Hp → Prop) (h0 : Pv 0 σ H) (hG : ∀ i σ H', i ≤ xs.length → Pv i σ H' → ∀ b u, H b = some u → H' b = some u)
    (hs : ∀ i y σ H' T, i < xs.length → Pv i σ H' → xs[i]? = some y → H' T = none → g (.ref T) σ (upd H' T (.tup [.int (i : Nat), y])) fun σ2 H2 => tb { D with nx := Pv (i + 1), ct := Pv (i + 1), bk := D.nx } σ2 H2) (hd : ∀ σ H, Pv xs.length σ H → D.nx σ H) :
    (SqL K H a xs ∧ ∃ W : Nat → Nat → St → Hp → Prop, (∃ m, W 0 m σ H) ∧ ∀ i m σ H, W i m σ H →
      ((Ite K a).stop i H ∧ D.nx σ H) ∨ ((Ite K a).go i H ∧ ∃ N : St → Hp → Prop, (∀ σ' H', N σ' H' → ∃ m', m' < m ∧ W (i + 1) m' σ' H') ∧ ∀ x H', (Ite K a).yld i H x H' → g x σ H' fun σ2 H2 => tb { D with nx := N, ct := N, bk := D.nx } σ2 H2)) ∨
    (SqT K H a xs ∧ ∃ W : Nat → Nat → St → Hp → Prop, (∃ m, W 0 m σ H) ∧ ∀ i m σ H, W i m σ H →
      ((IteT K a).stop i H ∧ D.nx σ H) ∨ ((IteT K a).go i H ∧ ∃ N : St → Hp → Prop, (∀ σ' H', N σ' H' → ∃ m', m' < m ∧ W (i + 1) m' σ' H') ∧ ∀ x H', (IteT K a).yld i H x H' → g x σ H' fun σ2 H2 => tb { D with nx := N, ct := N, bk := D.nx } σ2 H2)) := by
  rcases sq with sq | sq
  · refine .inl ⟨sq, for_it (walk_enum (xs := xs)) Pv h0 (fun i σ H' hi p => SqL.ext sq (hG i σ H' hi p)) (fun i x σ H' H'' hi p y => ?_) hd⟩
    obtain ⟨T, y1, y2, rfl, hT, rfl, e1, e2⟩ := y
    cases e1
    exact hs i y2 σ H' T hi p e2 hT
  · refine .inr ⟨sq, for_it (walk_enumT (xs := xs)) Pv h0 (fun i σ H' hi p => SqT.ext sq (hG i σ H' hi p)) (fun i x σ H' H'' hi p y => ?_) hd⟩
    obtain ⟨T, y1, y2, rfl, hT, rfl, e1, e2⟩ := y
    cases e1
    exact hs i y2 σ H' T hi p e2 hT
/-- [.. for .. in enumerate(list or tuple) ..] -/
theorem lc_enumS {K : PySem.W.Frag} {a : Addr} {xs : List V} {H : Hp} (sq : SqL K H a xs ∨ SqT K H a xs) {g : TG} {tt : TT} {te : TE} {vs : List Nat} {σ : St} {D : Addr} {Qd : Hp → Prop} (hD : H D = none) (Pv : Nat → Hp → Prop) (h0 : Pv 0 (upd H D (.lst []))) (hG : ∀ i H', i ≤ xs.length → Pv i H' → ∀ b u, H b = some u → H' b = some u)
    (hs : ∀ i y H' T, i < xs.length → Pv i H' → xs[i]? = some y → H' T = none → g (.ref T) (wipe σ vs) (upd H' T (.tup [.int (i : Nat), y])) fun σ2 H2 => wipe σ2 vs = wipe σ vs ∧ tt σ2 H2 fun b H3 =>
      if b = true then te σ2 H3 fun y H4 => ∃ acc, H4 D = some (.lst acc) ∧ acc.length < sizeLine ∧ Pv (i + 1) (upd H4 D (.lst (acc ++ [y]))) else Pv (i + 1) H3) (hd : ∀ H, Pv xs.length H → Qd H) :
    (∃ W : Nat → Nat → Hp → Prop, (∃ m, W 0 m (upd H D (.lst []))) ∧ ∀ i m H, W i m H →
      ((Ite K a).stop i H ∧ Qd H) ∨ ((Ite K a).go i H ∧ ∃ Nx : Hp → Prop, (∀ H', Nx H' → ∃ m', m' < m ∧ W (i + 1) m' H') ∧ ∀ x H', (Ite K a).yld i H x H' → g x (wipe σ vs) H' fun σ2 H2 => wipe σ2 vs = wipe σ vs ∧ tt σ2 H2 fun b H3 =>
        if b = true then te σ2 H3 fun y H4 => ∃ acc, H4 D = some (.lst acc) ∧ acc.length < sizeLine ∧ Nx (upd H4 D (.lst (acc ++ [y]))) else Nx H3)) ∨
    (∃ W : Nat → Nat → Hp → Prop, (∃ m, W 0 m (upd H D (.lst []))) ∧ ∀ i m H, W i m H →
      ((IteT K a).stop i H ∧ Qd H) ∨ ((IteT K a).go i H ∧ ∃ Nx : Hp → Prop, (∀ H', Nx H' → ∃ m', m' < m ∧ W (i + 1) m' H') ∧ ∀ x H', (IteT K a).yld i H x H' → g x (wipe σ vs) H' fun σ2 H2 => wipe σ2 vs = wipe σ vs ∧ tt σ2 H2 fun b H3 =>
        if b = true then te σ2 H3 fun y H4 => ∃ acc, H4 D = some (.lst acc) ∧ acc.length < sizeLine ∧ Nx (upd H4 D (.lst (acc ++ [y]))) else Nx H3)) := by
  rcases sq with sq | sq
  · refine .inl (lc_it (walk_enum (xs := xs)) Pv h0 (fun i H' hi p => SqL.ext sq (hG i H' hi p)) (fun i x H' H'' hi p y => ?_) hd)
    obtain ⟨T, y1, y2, rfl, hT, rfl, e1, e2⟩ := y
    cases e1
    exact hs i y2 H' T hi p e2 hT
  · refine .inr (lc_it (walk_enumT (xs := xs)) Pv h0 (fun i H' hi p => SqT.ext sq (hG i H' hi p)) (fun i x H' H'' hi p y => ?_) hd)
    obtain ⟨T, y1, y2, rfl, hT, rfl, e1, e2⟩ := y
    cases e1
    exact hs i y2 H' T hi p e2 hT
end L2


namespace L2
open PySem PySem.Spec PyProof.Rows
section
variable {X : Cx}
/-- *a, b, .. -/
theorem pgs_star {e : Expr} {es : List Expr} {t : TG} {u : TGs} {sp : Pos} (h1 : PG X e t) (h2 : PGs X es u)
    (hs : (assignEach (.Starred e sp :: es) X.env).map (·.2) = assign e X.env :: (assignEach es X.env).map (·.2) := by rfl) : PGs X (.Starred e sp :: es) (gCons t u) := by
  refine ⟨fun pins s σ H vs us Q I r h => ?_⟩
  obtain ⟨v, vr, e1, h⟩ := h
  subst e1
  cases r with
  | cons r rr =>
    rw [hs]
    refine assignInOrder_cons (thn (h1.run pins s σ H _ _ _ I r h) fun _ s1 ⟨σ1, H1, I1, q1⟩ => ?_)
    exact h2.run pins s1 σ1 H1 _ _ Q I1 rr q1
/-- a, *b, c = list -/
def gStar (K : PySem.W.Frag) (n i : Nat) (t : TGs) : TG := fun v σ H Q => ∃ a xs, v = .ref a ∧ SqL K H a xs ∧ n ≤ xs.length + 1 ∧ xs.length ≤ 16384 ∧
  ∀ D, H D = none → t (xs.take i ++ [.ref D] ++ (xs.drop i).drop (xs.length + 1 - n)) σ (upd H D (.lst ((xs.drop i).take (xs.length + 1 - n)))) Q
theorem pg_starL {es : List Expr} {k : Nat} {t : TGs} {n i : Nat} {pos : Pos} (hc : X.calm = true) (h : PGs X es t)
    (hn : (assignEach es X.env).length = n := by rfl) (hst : (assignEach es X.env).findIdx? (·.1) = some i := by rfl) (hi : i < n := by decide) : PG X (.Tuple es k pos) (gStar X.K n i t) := by
  refine ⟨fun pins s σ H v u Q I r hw => ?_⟩
  obtain ⟨a, xs, e1, hq, hl, hz', hw⟩ := hw
  subst e1
  cases r
  obtain ⟨its, rv, pl, hz⟩ := I.list hq
  have hlen := rv.length
  have hl' : s.heap.IsList a its.toArray := by
    obtain ⟨o, m, e, c, d, q⟩ := pl
    exact ⟨o, e, c, m, q⟩
  rw [PyProof.Rows.assign_Tuple]
  refine wpAny_bind (wpAny_standAt ?_)
  unfold unpack
  rw [hn, hst]
  have hlt : a ≠ s.heap.objs.size := by obtain ⟨o, ho, _⟩ := hl'; exact Nat.ne_of_lt (Heap.lt_size ho)
  have hll : a < s.heap.objs.size := by obtain ⟨o, ho, _⟩ := hl'; exact Heap.lt_size ho
  have hsz : its.toArray.size = xs.length := by simp [hlen]
  have hh := I.ok.hd hc
  refine wpAny_bind (wpAny_holding ?_)
  unfold unpackItems
  refine wpAny_bind ?_
  unfold notIterableAtAll
  refine wpAny_bind (wpAny_specialOf hl'.typeIs PySem.F.slot_list_iter.lookup ?_)
  refine wpAny_pure ?_
  simp only [Bool.false_eq_true, if_false]
  refine wpAny_bind (wpAny_holding (wpAny_pyIter_list hl' ?_))
  refine wpAny_bind (wpAny_holding (PySem.W.kun_draw hlt i 0 _ _ ⟨_, Heap.get?_push_size _ rfl, rfl, rfl⟩ (hl'.push _) (by omega) fun h₁ hit₁ hs₁ => ?_))
  have hl₁ : h₁.IsList a its.toArray := (hl'.push _).extBut hs₁.extBut hlt
  rw [Nat.zero_add] at hit₁
  have hit₁' := hit₁
  obtain ⟨oi, hoi, _⟩ := hit₁'
  have hl₁' := hl₁
  obtain ⟨ol, hol, _⟩ := hl₁'
  rw [List.drop_zero]
  have hfl : (its.toArray.toList.take i).length = i := by rw [List.length_take, Array.length_toList]; omega
  rw [if_neg (show ¬ ((its.toArray.toList.take i).length < i) by rw [hfl]; omega)]
  refine wpAny_bind (wpAny_holding (PySem.W.kun_collect (s := { s with heap := h₁ }) (T := "list_iterator") (.inr (.inr (.inl rfl))) (Walks.list (A := X.A.in1) hh s.heap.objs.size a hlt its.toArray) (fun j u st => st.1.typeIs) (k := i) (by omega) ⟨hit₁, hl₁⟩ (Heap.lt_size hoi) (Heap.lt_size hol) (fun h₂ tk hk => ?_) (by rw [sizeLine_eq]; omega)))
  have hrl : (its.toArray.toList.drop i).length = its.toArray.size - i := by rw [List.length_drop, Array.length_toList]
  have hmid : (its.toArray.toList.drop i).length - (n - 1 - i) = its.toArray.size + 1 - n := by rw [hrl]; omega
  show wpAny _ _ (if (its.toArray.toList.drop i).length < n - 1 - i then _ else _) _ _ _
  rw [if_neg (by rw [hrl]; omega)]
  show wpAny _ _ (newList ((its.toArray.toList.drop i).take ((its.toArray.toList.drop i).length - (n - 1 - i))) >>= fun d => pure (its.toArray.toList.take i ++ [d] ++ (its.toArray.toList.drop i).drop ((its.toArray.toList.drop i).length - (n - 1 - i)))) _ _ _
  rw [hmid]
  have he : ∀ b o, s.heap.get? b = some o → h₂.get? b = some o := fun b o e => by
    have hb := Nat.ne_of_lt (Heap.lt_size e)
    exact hk b o hb (hs₁.extBut b o hb (Heap.get?_push_of_some _ e))
  have I2 : Inv X pins σ H { s with heap := h₂, toks := tk } := I.kept (t' := tk) he
  refine wpAny_bind (wpAny_newList ?_ (by rw [List.length_take, hrl, sizeLine_eq]; omega))
  have hf : H h₂.objs.size = none := I2.hok.fresh (Nat.le_refl _)
  have et : its.toArray.toList = its := by simp
  have rmid : Vals ((xs.drop i).take (xs.length + 1 - n)) ((its.drop i).take (xs.length + 1 - n)) := (rv.drop i).take _
  have ml : ((xs.drop i).take (xs.length + 1 - n)).length ≤ sizeLine := by rw [List.length_take, List.length_drop, sizeLine_eq]; omega
  have I3 : Inv X pins σ (upd H h₂.objs.size (.lst ((xs.drop i).take (xs.length + 1 - n)))) { s with heap := h₂.push { cls := .type "list", data := .seq ((its.toArray.toList.drop i).take (its.toArray.size + 1 - n)).toArray }, toks := tk } := by
    refine I2.laid (t' := tk) (fun b u e => Heap.get?_push_of_some _ e) (Nat.le_refl _) ?_
    rw [hsz, et]
    exact ⟨ml, _, 0, rmid, Heap.get?_push_size _ rfl⟩
  refine wpAny_pure ?_
  refine h.run pins _ σ _ _ _ Q I3 ?_ (hw _ hf)
  rw [hsz, et]
  refine Vals.append (Vals.append (rv.take i) (.cons rfl .nil)) ?_
  exact (rv.drop i).drop _
end
end L2

namespace L2
open PySem PySem.Spec PyProof.Rows
/-! ### enumerate(list, k) -/
def IteF (K : PySem.W.Frag) (a : Addr) (k₀ : Int) : It :=
  ⟨fun i H => ∃ (xs : List V) (x : V), SqL K H a xs ∧ xs[i]? = some x, fun i H v H' => ∃ T x, v = .ref T ∧ H T = none ∧ H' = upd H T (.tup [.int (k₀ + (i : Nat)), x]) ∧ ∀ xs, SqL K H a xs → xs[i]? = some x, fun i H => ∃ xs : List V, SqL K H a xs ∧ xs.length = i⟩
theorem enumL_ne {h : Heap} {e it l : Addr} {i : Int} {old : Value} {items : Array Value} (he : IsEnum h e it i old) (hl : h.IsList l items) : l ≠ e := fun z => by
  obtain ⟨o, ho, _, n, hd⟩ := hl
  rw [z, he] at ho
  cases ho
  cases hd
theorem iterL_ne {h : Heap} {it l : Addr} {i : Nat} {items : Array Value} (hi : h.IsListIter it l i) (hl : h.IsList l items) : l ≠ it := fun z => by
  obtain ⟨o, ho, _, n, hd⟩ := hl
  obtain ⟨o2, ho2, _, hd2⟩ := hi
  rw [z, ho2] at ho
  cases ho
  rw [hd2] at hd
  cases hd
theorem turn_enumF {P : Program} {w : World} {K : PySem.W.Frag} {elts : List Expr} {kk : Nat} {tpos : Pos} (k₀ : Int) (a e it : Addr) :
    Turn P w K (.Tuple elts kk tpos) (IteF K a k₀) [e, it] e (fun i h => (∃ old, IsEnum h e it (k₀ + ((i : Nat) : Int)) old) ∧ h.IsListIter it a i ∧ e ≠ it) where
  mem := List.mem_cons_self
  obj := fun i h st b hb => by
    obtain ⟨⟨old, he⟩, ⟨o, ho, hc, hd⟩, _⟩ := st
    rcases List.mem_cons.mp hb with rfl | hb
    · exact ⟨_, he, fun v q => nomatch q⟩
    · rw [List.mem_singleton.mp hb]
      exact ⟨o, ho, fun v q => by rw [hd] at q; cases q⟩
  keep := fun i h h' st k => ⟨st.1.elim fun old z => ⟨old, k e List.mem_cons_self _ z⟩, st.2.1.at fun o q => k it (List.mem_cons_of_mem _ List.mem_cons_self) o q, st.2.2⟩
  item := by
    intro X hP hw hK hc i pins s σ H E I hf st hg
    subst hP hw hK
    obtain ⟨⟨old, he⟩, hit, hne⟩ := st
    obtain ⟨xs, x, hq, hx⟩ := hg
    obtain ⟨its, rv, p, hz⟩ := I.list hq
    obtain ⟨u, hu, ru⟩ := rv.get hx
    have pt : s.heap.IsList a its.toArray := p.isList
    have hel : e < s.heap.objs.size := Heap.lt_size he
    have hlen : i < its.toArray.size := by
      rw [List.size_toArray]
      exact (List.getElem?_eq_some_iff.mp hu).1
    refine wpAny_pyNext_enum_itemC (Draws.list (A := X.A.in1) (I.ok.hd hc) it a (iterL_ne hit pt) its.toArray) he ⟨hit, pt⟩ hlen hne (by
      intro z
      rcases List.mem_cons.mp z with z | z
      · exact hne z
      · exact enumL_ne he pt (List.mem_singleton.mp z).symm) fun y h' tk hy ho hit' hT hsz hk => ?_
    have ey : y = u := by
      rw [List.getElem?_toArray, hu] at hy
      exact (Option.some.inj hy).symm
    subst ey
    refine ⟨_, rfl, wpAny_letOwnedTupleGo_enum (s := { s with heap := h', toks := tk + 1 }) ho fun h'' he' sb => ?_⟩
    have hT2 : h''.get? s.heap.objs.size = some { cls := .type "tuple", data := .seq #[.int (k₀ + i) tk, y] } := (sb.2 _ (Nat.ne_of_gt hel)).trans hT
    have new : ObjOk X.prog X.w (upd H s.heap.objs.size (.tup [.int (k₀ + (i : Nat)), x])) h'' s.heap.objs.size (.tup [.int (k₀ + (i : Nat)), x]) :=
      ⟨Nat.le_of_ble_eq_true rfl, [.int (k₀ + i) tk, y], .cons ⟨_, rfl⟩ (.cons ru .nil), ⟨_, hT2, rfl, _, rfl⟩⟩
    have I1 : Inv X pins σ (upd H s.heap.objs.size (.tup [.int (k₀ + (i : Nat)), x])) { s with heap := h'', toks := tk + 1 } :=
      I.turnedNew (ch := [e, it]) (fun b ob hb q => (sb.2 b (fun z => hb (by simp [z]))).trans (hk b ob (fun z => hb (by simp [z])) (fun z => hb (by simp [z])) q)) hf (Nat.le_refl _) new
    have hfr : H s.heap.objs.size = none := I.hok.fresh (Nat.le_refl _)
    refine ⟨.ref s.heap.objs.size, _, I1, rfl, ⟨_, x, rfl, hfr, rfl, fun ys hy => by rw [I.list_inj hy hq]; exact hx⟩, ⟨⟨y, ?_⟩, hit'.1.at fun o q => (sb.2 it (Ne.symm hne)).trans q, hne⟩, fun b hb => ?_⟩
    · have e1 : k₀ + ((i + 1 : Nat) : Int) = k₀ + (i : Int) + 1 := by omega
      rw [e1]
      exact he'
    · have bl : b < s.heap.objs.size := by
        rcases List.mem_cons.mp hb with rfl | hb
        · exact hel
        · rw [List.mem_singleton.mp hb]
          obtain ⟨_, z, _⟩ := hit
          exact Heap.lt_size z
      rw [upd_ne (Nat.ne_of_lt bl)]
      exact (hf b hb).1
  done := by
    intro X hP hw hK hc i pins s σ H E I hf st hg
    subst hP hw hK
    obtain ⟨⟨old, he⟩, hit, hne⟩ := st
    obtain ⟨xs, hq, hx⟩ := hg
    obtain ⟨its, rv, p, hz⟩ := I.list hq
    obtain ⟨f0, f1, f2, f3, f4, f5⟩ := hf it (List.mem_cons_of_mem _ List.mem_cons_self)
    have pt : s.heap.IsList a its.toArray := p.isList
    have hn : its.toArray.size = i := by
      rw [List.size_toArray, ← rv.length]
      exact hx
    exact wpAny_pyNext_enum_endD (Draws.list (A := X.A.in1) (I.ok.hd hc) it a (iterL_ne hit pt) its.toArray) he (by rw [hn]; exact ⟨hit, pt⟩) fun h' eb => ⟨rfl, I.turned (t' := s.toks) (fun b o hb q => eb b o hb q) f0 f1 f3 f4 f5⟩
  self := fun A i s Q E st h => st.1.elim fun _ he => wpAny_pyIter_enum he h
def iEnumF (K : PySem.W.Frag) (ta : TA) : TI := fun σ H R => ta σ H fun vs H1 => ∃ (a : Addr) (xs : List V) (k₀ : Int), vs = [.ref a, .int k₀] ∧ -(2 ^ 63) ≤ k₀ ∧ k₀ < 2 ^ 63 ∧ SqL K H1 a xs ∧ R (IteF K a k₀) H1
theorem pi_enumF {X : Cx} {e1 e2 : Expr} {ta : TA} {p pos tpos : Pos} {elts : List Expr} {kk : Nat} (hg : Gl X "enumerate") (hm : X.mg "enumerate" = none) (ha : PA X [e1, e2] ta) (hs : starEach [e1, e2] X.env = [(false, eval e1 X.env), (false, eval e2 X.env)] := by rfl) (hs2 : starEach [e2] X.env = [(false, eval e2 X.env)] := by rfl) :
    PI X (.Tuple elts kk tpos) (.Call (.Name "enumerate" p) [e1, e2] [] pos) (iEnumF X.K ta) := by
  refine ⟨fun pins s σ H R I h => ?_⟩
  refine Call_ (ld_blt I hg hm boot_enumerate (PyProof.Rows.callWith_type1 (thn (ha.run pos pins s σ H _ I h) fun us s1 ⟨vs, H1, I1, r1, q1⟩ => ?_) (by rw [hs, hs2]) (by rw [hs2]; rfl)))
  obtain ⟨a, xs, k₀, rfl, k0, k1, hq, q⟩ := q1
  obtain ⟨u, v, rfl, ru, rv'⟩ := r1.two
  cases ru
  obtain ⟨tk, rfl⟩ := rv'
  have young : ∀ b, b ∈ [s1.heap.objs.size + 1, s1.heap.objs.size] → s1.heap.objs.size ≤ b := fun b hb => by
    rcases List.mem_cons.mp hb with z | z
    · rw [z]; exact Nat.le_add_right _ _
    · rw [List.mem_singleton.mp z]; exact Nat.le_refl _
  obtain ⟨its, rv, p', hz⟩ := I1.list hq
  refine enum_begins (begins_list a its.toArray) p'.isList k0 k1 fun h' he hit _ hk => wpAny_pyIter_enum he ?_
  exact ⟨s1.heap.objs.size + 1, [s1.heap.objs.size + 1, s1.heap.objs.size], _, _, H1, rfl, I1.kept (t' := s1.toks) hk, turn_enumF k₀ a (s1.heap.objs.size + 1) s1.heap.objs.size, ⟨⟨.none, by rw [show k₀ + ((0 : Nat) : Int) = k₀ by omega]; exact he⟩, ⟨_, hit, rfl, rfl⟩, Nat.succ_ne_self _⟩, fun b hb => I1.fpOk (young b hb) (I1.hok.fresh (young b hb)), q⟩
theorem walk_enumF {K : PySem.W.Frag} {a : Addr} {xs : List V} {k₀ : Int} : Walk (IteF K a k₀) xs.length (fun H => SqL K H a xs) (YPair (fun i => some (.int (k₀ + (i : Nat)))) (fun i => xs[i]?)) := by
  refine ⟨fun i _ hi q => ⟨xs, xs[i], q, by simp [hi]⟩, fun _ q => ⟨xs, q, rfl⟩, fun i H v H' _ q y => ?_⟩
  obtain ⟨T, x, h1, h2, h3, h4⟩ := y
  exact ⟨T, .int (k₀ + (i : Nat)), x, h1, h2, h3, rfl, h4 xs q⟩
end L2

namespace L2
open PySem PySem.Spec PyProof.Rows
section
variable {X : Cx}
/-- len of a dict that is read, maybe locked -/
theorem call_lenDR : CallR X (.builtin "len") (fun xs H Q => ∃ a kvs, xs = [V.ref a] ∧ Rd H a (.dK kvs) ∧ Q (.int kvs.length) H) := by
  intro pins s σ H xs us Q I r h
  obtain ⟨a, kvs, rfl, ha, q⟩ := h
  obtain ⟨u, rfl, ru⟩ := vals1 r
  cases ru
  exact d_len I ha fun t s' I' => ⟨.int kvs.length, H, I', ⟨t, rfl⟩, q⟩
/-- name = {..} on one line, the name a local -/
theorem ps_setDc {i : Nat} {y : Str} {py : Pos} {kx vx tg iter : Expr} {ifs : List Expr} {scope : Scope} {own : List (Str × Nat)} {pos spos : Pos} {wi : TI} {g : TG} {tt : TT} {tk tv : TE} (hc : X.calm = true) (hN : X.N.Nodup) (hy : X.N[i]? = some y) (hyl : X.env.scope.names.lookup y = some .local)
    (hsw : swapsWith (.DictComp kx vx [⟨tg, iter, ifs, 0⟩] scope pos) (some (.Name y py)) spos.line X.env = pure true) (hi : PI X tg iter wi) (ok : BlkOk X.N X.env.scope scope own)
    (hg : ∀ (s : Shared) (H : Hp) (C : Addr) (cl : List (Str × Addr)) (fp : List Addr), PG (X.blk s H scope (compEnvC scope cl C X.env) fp) tg g) (ht : ∀ (s : Shared) (H : Hp) (C : Addr) (cl : List (Str × Addr)) (fp : List Addr), PTs (X.blk s H scope (compEnvC scope cl C X.env) fp) ifs tt)
    (hk : ∀ (s : Shared) (H : Hp) (C : Addr) (cl : List (Str × Addr)) (fp : List Addr), PE (X.blk s H scope (compEnvC scope cl C X.env) fp) kx tk)
    (he : ∀ (s : Shared) (H : Hp) (C : Addr) (cl : List (Str × Addr)) (fp : List Addr), PE (X.blk s H scope (compEnvC scope cl C X.env) fp) vx tv) (hs : ∀ x, foldedSetIterable iter X.env x = pure x := by intro _; rfl) :
    PS X (.Assign [.Name y py] (.DictComp kx vx [⟨tg, iter, ifs, 0⟩] scope pos) spos) (tAsg (tDc wi g tt tk tv (own.map (·.2))) (gName i)) := by
  refine ⟨fun pins s σ H D I h => ?_⟩
  rw [exec_Assign_Name_used _ _ _ _ hsw]
  refine wpAny_bind (wpAny_standAt (wpAny_bind ?_))
  show wpAny _ X.A (do let _ ← comprehension (.DictComp kx vx [⟨tg, iter, ifs, 0⟩] scope pos) scope X.env (firstIterPos [⟨tg, iter, ifs, 0⟩] pos) newDict false (eval iter X.env) (some (assign (.Name y py) X.env))) _ _ s
  have h : tDc wi g tt tk tv (own.map (·.2)) σ H (fun x H1 => gName i x σ H1 D.nx) := h
  refine wpAny_bind (thn (dc_core (Qf := fun _ s' => SP X pins D .next s') hc hN I hi ok hg ht hk he hs h fun L C s' m H' I' q hn f => ?_) fun _ s' hq => wpAny_pure (wpAny_pure hq))
  show wpAny _ _ (assign (.Name y py) X.env (.ref L)) _ _ _
  refine wpAny_assign_Name (store_ok2 (v := V.ref L) I' hN hy (.inl hyl) rfl (fun s2 I2 ⟨a, sb, ha⟩ => ?_) (.inr hyl))
  obtain ⟨f0, f1, f2, f3, f4, f5⟩ := f
  have haC : C ≠ a := by
    rcases ha with z | z
    · rw [z]; exact f1
    · exact fun e => f4 y a z e.symm
  refine ⟨m, hn.sameBut sb haC, fun h3 sb3 => ?_⟩
  exact ⟨_, H', I2.turned (t' := s2.toks) (fun b o hb e => (sb3.2 b hb).trans e) f0 f1 f3 f4 f5, q⟩
theorem sw_trueD {kx vx : Expr} {gs : List Comprehension} {scope : Scope} {pos py : Pos} {y : Str} {l : Nat} {env : Env} (hk : env.scope.kind = .function) (hy : env.scope.names.lookup y = some .local) (hl : (py.line == pos.line) = true)
    (ha : (scope.names.any fun (n, k) => n == y && (k == .local || k == .cell)) = false) : swapsWith (.DictComp kx vx gs scope pos) (some (.Name y py)) l env = pure true := by
  have ky : env.kindOf y = some .local := hy
  have hb : env.blockKind = .function := by unfold Env.blockKind; rw [hk]; rfl
  unfold swapsWith
  simp only [hb, ky, ha, Expr.pos, hl]
  rfl
end
end L2

namespace My
open PySem PySem.Spec PyProof.Rows L2
/-! ### trees as the law keeps them -/
def Keys (ns : List Str) (d : Dic) : Prop := ∀ z, z ∈ ns → (getD d z).isSome = true
theorem getD_set (d : Dic) (z y : Str) (v : V) : getD (setD d z v) y = if y = z then some v else getD d y := by
  rw [← val_kd, ← put_kd, valV_put, val_kd]
  by_cases e : y = z
  · subst e
    rw [if_pos rfl, if_pos rfl]
  · rw [if_neg e, if_neg fun h => e (by injection h)]
theorem Keys.set {ns : List Str} {d : Dic} {z : Str} {v : V} (h : Keys ns d) : Keys (ns ++ [z]) (setD d z v) := fun y hy => by
  rw [getD_set]
  by_cases e : y = z
  · rw [if_pos e]; rfl
  · rw [if_neg e]
    rcases List.mem_append.mp hy with hy | hy
    · exact h y hy
    · exact absurd (List.mem_singleton.mp hy) e
def grN (d : Dic) (node : Str) : Nat → V → V
  | 0, h => h
  | n + 1, h => grN d node n (if h = .non ∨ h = .str node then h else stepV d h)
/-- whether a node would lie in itself -/
def grB (d : Dic) (node f : Str) : Bool := decide (grN d node (d.length + 1) (.str f) = .str node)
def abN (d : Dic) : Nat → V → List Str
  | 0, _ => []
  | n + 1, .str z => z :: abN d n ((getD d z).getD .non)
  | _ + 1, _ => []
/-- the folders above a node -/
def abv (d : Dic) (a : Str) : List Str := abN d d.length ((getD d a).getD .non)
theorem abN_fo {fo : List Str} {d : Dic} (h : DicOk fo d) : ∀ n v, Opt fo v → ∀ z, z ∈ abN d n v → z ∈ fo
  | 0, _, _, z, hz => by cases hz
  | n + 1, v, hv, z, hz => by
    rcases hv with rfl | ⟨y, hy, rfl⟩
    · cases hz
    · rcases List.mem_cons.mp hz with rfl | hz
      · exact hy
      · exact abN_fo h n _ (getD_opt h y) z hz
theorem abN_len (d : Dic) : ∀ n v, (abN d n v).length ≤ n
  | 0, _ => Nat.le_refl _
  | n + 1, v => by
    cases v with
    | str z => exact Nat.succ_le_succ (abN_len d n _)
    | _ => exact Nat.zero_le _
def liesA (d : Dic) (x y : Str) : Bool := decide (y ∈ abv d x)
theorem liesA_no {fo : List Str} {d : Dic} (h : DicOk fo d) (x y : Str) (hy : y ∉ fo) : liesA d x y = false := decide_eq_false fun m => hy (abN_fo h _ _ (getD_opt h x) y m)
/-- a tree of the nodes ns -/
structure Ups (fo ns : List Str) (d : Dic) : Prop where
  ok : DicOk fo d
  keys : Keys ns d
  len : d.length ≤ ns.length
  sub : ∀ z, z ∈ fo → z ∈ ns
theorem rd_ext {H H' : Hp} {p : Addr} {u : HO} (h : Rd H p u) (e : Ext H H') : Rd H' p u := h.elim (fun h => .inl (e _ _ h)) fun ⟨o, h⟩ => .inr ⟨o, e _ _ h⟩
def spGoes (K : PySem.W.Frag) : Sp := fun vs H Q _ => ∃ (p : Addr) (d : Dic) (fo : List Str) (node f : Str), vs = [.ref p, .str node, .str f] ∧ H p = some (.dK (kd d)) ∧ DicOk fo d ∧ f ∈ fo ∧ d.length ≤ 100 ∧ Q (.bl (grB d node f)) H
def spAbove (K : PySem.W.Frag) : Sp := fun vs H Q _ => ∃ (p : Addr) (d : Dic) (fo ns : List Str) (node : Str), vs = [.ref p, .str node] ∧ Rd H p (.dK (kd d)) ∧ Ups fo ns d ∧ ns.length ≤ 100 ∧ node ∈ ns ∧
  ∀ l H', Ext H H' → H l = none → H' l = some (.lst ((abv d node).map V.str)) → Q (.ref l) H'
abbrev nm__law_goes_round : List Str := ["_law_ups", "_law_node", "_law_folder", "_law_here", "_law_turn"]
theorem sc__law_goes_round : FnScope nm__law_goes_round ["_law_ups", "_law_node", "_law_folder"] (defScope s__law_goes_round) := ⟨rfl, rfl, rfl, by decide +kernel, rfl, by decide +kernel, by decide +kernel⟩
abbrev nm__law_above : List Str := ["_law_ups", "_law_node", "_law_found", "_law_here", "_law_turn"]
theorem sc__law_above : FnScope nm__law_above ["_law_ups", "_law_node"] (defScope s__law_above) := ⟨rfl, rfl, rfl, by decide +kernel, rfl, by decide +kernel, by decide +kernel⟩
section
variable {P : Program} {w : World} {K : PySem.W.Frag} {mg : Str → Option Value} {base : Heap} {f C CB : Addr} {fd : FuncData}
theorem ok_goes (Fn : FnP K "_law_goes_round" s__law_goes_round f fd) (gB_range : mg "range" = none) (gB_len : mg "len" = none) : FnOk P w K mg base CX0 1 f fd ["_law_ups", "_law_node", "_law_folder"] (spGoes K) := by
  refine Fn.ok sc__law_goes_round (fun vs H Q E h => ?_) (fun cdv A outer s H vs Q E hr h => ⟨_, PSs.nox
    (pss_cons (ps_set (i := 3) sc__law_goes_round.nd rfl (Or.inl rfl) (pv 2))
      (pss_cons (ps_for PassesOwn.never rfl (pi_range1 (by rfl) gB_range (pa_cons (pe_op op_add (pe_callB call_lenD (by rfl) gB_len boot_len (pa_cons (pv 0) pa_nil)) pe_int) pa_nil)) (pg_name (i := 4) sc__law_goes_round.nd rfl (Or.inl rfl))
      (pss_one (ps_if (PW.pt (pw_and (pt_cmpR op_notN (pv 3) pe_non (nomark _)) (pw_and1 (pt_cmpR op_ne (pv 3) (pv 1) (nomark _))))) (pss_one (ps_set (i := 3) sc__law_goes_round.nd rfl (Or.inl rfl) (pe_dget1 (hu_of hr) (pv 0) (pv 3) ⟨rfl, rfl, rfl, rfl⟩))) pss_nil)))
      (pss_one (ps_ret (pe_cmpR op_eq (pv 3) (pv 1) (nomark _)))))), ?_⟩)
  · obtain ⟨p, d, fo, node, f, rfl, _⟩ := h
    rfl
  · obtain ⟨p, d, fo, node, fs, rfl, hp, ok, hf, len, q⟩ := h
    have e1 : (((kd d).length : Nat) : Int) + 1 = ((d.length + 1 : Nat) : Int) := by rw [kd_len]; omega
    refine ⟨_, rfl, _, rfl, p, kd d, rfl, hp, _, _, rfl, rfl, _, rfl, by omega, by rw [e1]; omega, ?_⟩
    rw [e1]
    refine for_range (lo := 0) (n := d.length + 1) (fun k σ H' => H' = H ∧ ∃ v h, σ = [some (.ref p), some (.str node), some (.str fs), some h, v] ∧ Opt fo h ∧ grN d node (d.length + 1 - k) h = grN d node (d.length + 1) (.str fs)) ?_ ?_ ?_
    · exact ⟨rfl, none, _, rfl, .inr ⟨fs, hf, rfl⟩, rfl⟩
    · rintro k σ H1 hk ⟨rfl, v, h, rfl, oh, e⟩
      have e9 : d.length + 1 - k = (d.length + 1 - (k + 1)) + 1 := by omega
      rw [e9] at e
      unfold grN at e
      refine ⟨_, rfl, rfl, _, rfl, ?_⟩
      rcases oh with rfl | ⟨z, hz, rfl⟩
      · rw [if_pos (.inl rfl)] at e
        exact ⟨rfl, _, _, rfl, .inl rfl, e⟩
      · refine ⟨_, rfl, _, rfl, rfl, _, rfl, ?_⟩
        refine ite2 (fun c => ?_) fun c => ?_
        · have c' : ¬ (V.str z = .non ∨ V.str z = .str node) := fun h => by
            rcases h with h | h
            · cases h
            · rw [h] at c
              simp at c
          rw [if_neg c'] at e
          refine ⟨_, rfl, p, rfl, .inl ⟨_, .inl hp⟩, _, rfl, _, DGet.k (k := Sum.inr z) hp, ?_⟩
          rw [val_kd]
          exact ⟨rfl, _, _, rfl, getD_opt ok z, e⟩
        · have c' : V.str z = .str node := by simpa using c
          rw [if_pos (.inr c')] at e
          exact ⟨rfl, _, _, rfl, .inr ⟨z, hz, rfl⟩, e⟩
    · rintro σ H1 ⟨rfl, v, h, rfl, oh, e⟩
      rw [Nat.sub_self] at e
      have e : h = grN d node (d.length + 1) (.str fs) := e
      unfold grB at q
      rw [← e] at q
      refine ⟨_, rfl, _, rfl, ?_, q⟩
      rcases oh with rfl | ⟨z, _, rfl⟩ <;> rfl
theorem ok_above (Fn : FnP K "_law_above" s__law_above f fd) (gB_range : mg "range" = none) (gB_len : mg "len" = none) : FnOk P w K mg base CX0 1 f fd ["_law_ups", "_law_node"] (spAbove K) := by
  refine Fn.ok sc__law_above (fun vs H Q E h => ?_) (fun cdv A outer s H vs Q E hr h => ⟨_, PSs.nox
    (pss_cons (ps_set (i := 2) sc__law_above.nd rfl (Or.inl rfl) (pe_lst pa_nil))
      (pss_cons (ps_set (i := 3) sc__law_above.nd rfl (Or.inl rfl) (pe_dget (hu_of hr) (pv 0) (pv 1) (fun _ _ => rfl)))
      (pss_cons (ps_for PassesOwn.never rfl (pi_range1 (by rfl) gB_range (pa_cons (pe_callB call_lenDR (by rfl) gB_len boot_len (pa_cons (pv 0) pa_nil)) pa_nil)) (pg_name (i := 4) sc__law_above.nd rfl (Or.inl rfl))
      (pss_one (ps_if (pt_cmpR op_notN (pv 3) pe_non (nomark _)) (pss_cons (ps_expr (pe_bm PySem.F.plainAttrs_list PySem.F.slot_list_append PySem.F.type_list_append mt_append (pv 2) (pa_cons (pv 3) pa_nil)))
      (pss_one (ps_set (i := 3) sc__law_above.nd rfl (Or.inl rfl) (pe_dget (hu_of hr) (pv 0) (pv 3) (fun _ _ => rfl))))) pss_nil)))
      (pss_one (ps_ret (pv 2)))))), ?_⟩)
  · obtain ⟨p, d, fo, ns, node, rfl, _⟩ := h
    rfl
  · obtain ⟨p, d, fo, ns, node, rfl, hp, up, len, hn, q⟩ := h
    refine ⟨Nat.zero_le _, fun l hl => ?_⟩
    obtain ⟨H1, hH1⟩ : ∃ H1, H1 = upd H l (.lst []) := ⟨_, rfl⟩
    rw [← hH1]
    have x1 : Ext H H1 := by
      rw [hH1]
      exact Ext.upd hl
    have l1 : H1 l = some (.lst []) := by rw [hH1, upd_same]
    have hp1 := rd_ext hp x1
    have get : ∀ z, z ∈ ns → getD d z = some ((getD d z).getD .non) := fun z hz => by
      have := up.keys z hz
      cases e : getD d z with
      | none => rw [e] at this; cases this
      | some v => rfl
    have dl := up.len
    refine ⟨_, rfl, _, rfl, p, _, rfl, .inl ⟨kd d, Sum.inr node, hp1, rfl, (by rw [val_kd]; exact (get node hn).symm)⟩, ?_⟩
    refine ⟨_, rfl, p, kd d, rfl, hp1, _, rfl, by omega, by rw [kd_len]; omega, ?_⟩
    have e1 : (((kd d).length : Nat) : Int).toNat = d.length := by rw [kd_len]; rfl
    rw [e1]
    refine for_range (lo := 0) (n := d.length) (fun k σ H' => Ext H H' ∧ ∃ acc v h, σ = [some (.ref p), some (.str node), some (.ref l), some h, v] ∧ Opt fo h ∧ H' l = some (.lst (acc.map V.str)) ∧ acc.length ≤ k ∧ acc ++ abN d (d.length - k) h = abv d node) ?_ ?_ ?_
    · exact ⟨x1, [], none, _, rfl, getD_opt up.ok node, l1, Nat.zero_le _, rfl⟩
    · rintro k σ H2 hk ⟨x2, acc, v, h, rfl, oh, l2, len2, e⟩
      have e9 : d.length - k = (d.length - (k + 1)) + 1 := by omega
      rw [e9] at e
      refine ⟨_, rfl, rfl, _, rfl, ?_⟩
      rcases oh with rfl | ⟨z, hz, rfl⟩
      · refine ⟨x2, acc, _, _, rfl, .inl rfl, l2, by omega, ?_⟩
        have : ∀ n, abN d n .non = [] := fun n => by cases n <;> rfl
        rw [this] at e ⊢
        exact e
      · refine ⟨_, rfl, .inl ⟨rfl, _, .inl (.inl l2)⟩, _, rfl, l, _, _, rfl, rfl, l2, by rw [List.length_map, sizeLine_eq]; omega, ?_⟩
        have x3 := x2.over (o := .lst (acc.map V.str ++ [.str z])) hl
        refine ⟨_, rfl, _, rfl, p, _, rfl, .inl ⟨kd d, Sum.inr z, rd_ext hp x3, rfl, (by rw [val_kd]; exact (get z (up.sub z hz)).symm)⟩, ?_⟩
        refine ⟨x3, acc ++ [z], _, _, rfl, getD_opt up.ok z, by rw [upd_same, List.map_append]; rfl, by rw [List.length_append]; exact Nat.succ_le_succ len2, ?_⟩
        rw [List.append_assoc]
        exact e
    · rintro σ H2 ⟨x2, acc, v, h, rfl, oh, l2, len2, e⟩
      rw [Nat.sub_self] at e
      have e : acc ++ [] = abv d node := e
      rw [List.append_nil] at e
      rw [e] at l2
      exact ⟨_, rfl, q l H2 x2 hl l2⟩
end
end My

namespace My
open PySem PySem.Spec PyProof.Rows L2
/-! ### ways up -/
def itV (d : Dic) : Nat → V → V
  | 0, v => v
  | n + 1, v => itV d n (stepV d v)
theorem it_non (d : Dic) : ∀ n, itV d n .non = .non
  | 0 => rfl
  | n + 1 => it_non d n
theorem it_add (d : Dic) : ∀ m n v, itV d (m + n) v = itV d n (itV d m v)
  | 0, n, v => by rw [Nat.zero_add]; rfl
  | m + 1, n, v => by
    rw [Nat.succ_add]
    exact it_add d m n (stepV d v)
theorem it_succ (d : Dic) (n : Nat) (v : V) : itV d (n + 1) v = stepV d (itV d n v) := it_add d n 1 v
theorem it_opt {fo : List Str} {d : Dic} (ok : DicOk fo d) : ∀ n v, Opt fo v → Opt fo (itV d n v)
  | 0, _, h => h
  | n + 1, v, h => it_opt ok n _ (step_opt ok h)
theorem it_stay {d : Dic} {n m : Nat} {v : V} (h : itV d n v = .non) (hm : n ≤ m) : itV d m v = .non := by
  obtain ⟨k, rfl⟩ := Nat.le.dest hm
  rw [it_add, h, it_non]
theorem step_str {fo : List Str} {d : Dic} (ok : DicOk fo d) (z : Str) : Opt fo (stepV d (.str z)) := getD_opt ok z
def strOf : V → Option Str
  | .str z => some z
  | _ => none
theorem ab_get (d : Dic) : ∀ n v i, (abN d n v)[i]? = if i < n then strOf (itV d i v) else none
  | 0, v, i => by
    rw [if_neg (Nat.not_lt_zero i)]
    rfl
  | n + 1, .str z, 0 => rfl
  | n + 1, .str z, i + 1 => by
    have h := ab_get d n ((getD d z).getD .non) i
    show (abN d n ((getD d z).getD .non))[i]? = _
    rw [h]
    by_cases c : i < n
    · rw [if_pos c, if_pos (Nat.succ_lt_succ c)]
      rfl
    · rw [if_neg c, if_neg fun z => c (Nat.lt_of_succ_lt_succ z)]
  | n + 1, .non, i => by
    show (none : Option Str) = _
    rw [it_non]
    split <;> rfl
  | n + 1, .bl b, i => by
    have : ∀ i, itV d i (.bl b) = .bl b := fun i => by induction i with | zero => rfl | succ i ih => exact ih
    rw [this]
    show (none : Option Str) = _
    split <;> rfl
  | n + 1, .int b, i => by
    have : ∀ i, itV d i (.int b) = .int b := fun i => by induction i with | zero => rfl | succ i ih => exact ih
    rw [this]
    show (none : Option Str) = _
    split <;> rfl
  | n + 1, .byt b, i => by
    have : ∀ i, itV d i (.byt b) = .byt b := fun i => by induction i with | zero => rfl | succ i ih => exact ih
    rw [this]
    show (none : Option Str) = _
    split <;> rfl
  | n + 1, .flt b, i => by
    have : ∀ i, itV d i (.flt b) = .flt b := fun i => by induction i with | zero => rfl | succ i ih => exact ih
    rw [this]
    show (none : Option Str) = _
    split <;> rfl
  | n + 1, .ref b, i => by
    have : ∀ i, itV d i (.ref b) = .ref b := fun i => by induction i with | zero => rfl | succ i ih => exact ih
    rw [this]
    show (none : Option Str) = _
    split <;> rfl
  | n + 1, .ty b, i => by
    have : ∀ i, itV d i (.ty b) = .ty b := fun i => by induction i with | zero => rfl | succ i ih => exact ih
    rw [this]
    show (none : Option Str) = _
    split <;> rfl
theorem it_other {d : Dic} {v : V} (h : ∀ z, v ≠ .str z) : ∀ n, itV d n v = v
  | 0 => rfl
  | n + 1 => by
    show itV d n (stepV d v) = v
    have e : stepV d v = v := by cases v <;> first | rfl | exact absurd rfl (h _)
    rw [e, it_other h n]
theorem ab_snoc {d : Dic} : ∀ n v y, itV d n v = .str y → abN d (n + 1) v = abN d n v ++ [y]
  | 0, v, y, h => by
    have h : v = .str y := h
    subst h
    rfl
  | n + 1, .str x, y, h => by
    show x :: abN d (n + 1) (stepV d (.str x)) = x :: (abN d n (stepV d (.str x)) ++ [y])
    rw [ab_snoc n _ y h]
  | n + 1, .non, y, h | n + 1, .bl _, y, h | n + 1, .int _, y, h | n + 1, .byt _, y, h | n + 1, .flt _, y, h | n + 1, .ref _, y, h | n + 1, .ty _, y, h => by
    rw [it_other (by intro z e; cases e)] at h
    cases h
/-- each way ends -/
def Acy (d : Dic) : Prop := ∀ z : Str, ∃ n, itV d n (.str z) = .non
def Cyc (d : Dic) (c : Str) : Prop := ∃ n, 0 < n ∧ itV d n (.str c) = .str c
theorem cyc_mul {d : Dic} {c : Str} {n : Nat} (h : itV d n (.str c) = .str c) : ∀ k, itV d (n * k) (.str c) = .str c
  | 0 => rfl
  | k + 1 => by
    rw [Nat.mul_succ, it_add, cyc_mul h k, h]
theorem acy_nocyc {d : Dic} (h : Acy d) (c : Str) : ¬ Cyc d c := fun ⟨n, hn, e⟩ => by
  obtain ⟨m, hm⟩ := h c
  have e1 := cyc_mul e m
  have le : m ≤ n * m := Nat.le_mul_of_pos_left m hn
  rw [it_stay hm le] at e1
  cases e1
/-- no two stations of a way are alike -/
theorem way_ne {fo : List Str} {d : Dic} (ok : DicOk fo d) {z : Str} {i j : Nat} (hij : i < j) (nc : ∀ c, ¬ Cyc d c) (e : itV d i (.str z) = itV d j (.str z)) : itV d i (.str z) = .non := by
  have o : itV d i (.str z) = .non ∨ ∃ y, itV d i (.str z) = .str y := by
    cases i with
    | zero => exact .inr ⟨z, rfl⟩
    | succ i =>
      rcases it_opt ok i _ (step_str ok z) with h | ⟨y, _, h⟩
      · exact .inl h
      · exact .inr ⟨y, h⟩
  rcases o with h | ⟨y, h⟩
  · exact h
  · exfalso
    refine nc y ⟨j - i, by omega, ?_⟩
    have e2 := it_add d i (j - i) (.str z)
    rw [show i + (j - i) = j by omega, ← e, h] at e2
    exact e2.symm
/-- a way that has not ended has as many unlike stations -/
theorem way_nodup {fo : List Str} {d : Dic} (ok : DicOk fo d) (nc : ∀ c, ¬ Cyc d c) (n : Nat) (z : Str) : (abN d n (.str z)).Nodup := by
  refine List.pairwise_iff_getElem.mpr fun i j hi hj hij e' => ?_
  have e : (abN d n (.str z))[i]? = (abN d n (.str z))[j]? := by rw [List.getElem?_eq_getElem hi, List.getElem?_eq_getElem hj, e']
  have hl := abN_len d n (.str z)
  have hj' : j < n := by omega
  have gi := ab_get d n (.str z) i
  have gj := ab_get d n (.str z) j
  rw [if_pos (by omega)] at gi
  rw [if_pos hj'] at gj
  obtain ⟨x, hx⟩ : ∃ x, (abN d n (.str z))[j]? = some x := ⟨_, List.getElem?_eq_getElem hj⟩
  rw [hx] at gj
  rw [e, hx] at gi
  have s1 : itV d j (.str z) = .str x := by
    cases h : itV d j (.str z) <;> rw [h] at gj <;> first | cases gj | skip
    rfl
  have s2 : itV d i (.str z) = .str x := by
    cases h : itV d i (.str z) <;> rw [h] at gi <;> first | cases gi | skip
    rfl
  have := way_ne ok hij nc (s2.trans s1.symm)
  rw [s2] at this
  cases this
theorem getD_key {d : Dic} {z : Str} {v : V} (h : getD d z = some v) : z ∈ d.map (·.1) := by
  unfold getD at h
  cases e : d.find? fun p => decide (p.1 = z) with
  | none => rw [e] at h; cases h
  | some p =>
    have h1 := List.find?_some e
    have h2 := List.mem_of_find?_eq_some e
    rw [← of_decide_eq_true h1]
    exact List.mem_map.mpr ⟨p, h2, rfl⟩
/-- a way that is longer than there are keys has ended -/
theorem way_end {fo : List Str} {d : Dic} (ok : DicOk fo d) (nc : ∀ c, ¬ Cyc d c) (z : Str) : itV d (d.length + 1) (.str z) = .non := by
  have o : ∀ i, itV d (i + 1) (.str z) = .non ∨ ∃ y, y ∈ fo ∧ itV d (i + 1) (.str z) = .str y := fun i => it_opt ok i _ (step_str ok z)
  rcases o d.length with h | ⟨y, _, h⟩
  · exact h
  · exfalso
    have all : ∀ i, i ≤ d.length → ∃ x, itV d i (.str z) = .str x ∧ x ∈ d.map (·.1) := fun i hi => by
      have ne : itV d (i + 1) (.str z) ≠ .non := fun e => by
        have := it_stay e (show i + 1 ≤ d.length + 1 by omega)
        rw [h] at this
        cases this
      have ox : ∃ x, itV d i (.str z) = .str x := by
        cases i with
        | zero => exact ⟨z, rfl⟩
        | succ i =>
          rcases o i with h' | ⟨x, _, h'⟩
          · rw [it_succ, h'] at ne
            exact absurd rfl ne
          · exact ⟨x, h'⟩
      obtain ⟨x, hx⟩ := ox
      refine ⟨x, hx, ?_⟩
      rw [it_succ, hx] at ne
      cases e : getD d x with
      | none =>
        have : stepV d (.str x) = .non := by show (getD d x).getD .non = .non; rw [e]; rfl
        exact absurd this ne
      | some v => exact getD_key e
    have len : (abN d (d.length + 1) (.str z)).length = d.length + 1 := by
      rcases Nat.lt_or_ge (abN d (d.length + 1) (.str z)).length (d.length + 1) with lt | ge
      · exfalso
        have g := ab_get d (d.length + 1) (.str z) (abN d (d.length + 1) (.str z)).length
        rw [if_pos lt, List.getElem?_eq_none (Nat.le_refl _)] at g
        obtain ⟨x, hx, _⟩ := all _ (Nat.le_of_lt_succ lt)
        rw [hx] at g
        cases g
      · exact Nat.le_antisymm (abN_len d _ _) ge
    have sub : abN d (d.length + 1) (.str z) ⊆ d.map (·.1) := fun x hx => by
      obtain ⟨i, hi⟩ := List.mem_iff_getElem?.mp hx
      have hil := (List.getElem?_eq_some_iff.mp hi).1
      have g := ab_get d (d.length + 1) (.str z) i
      rw [if_pos (by omega), hi] at g
      obtain ⟨y, hy, hm⟩ := all i (by omega)
      rw [hy] at g
      cases g
      exact hm
    have := (way_nodup ok nc (d.length + 1) z).length_le_of_subset sub
    rw [len, List.length_map] at this
    omega
theorem acy_of {fo : List Str} {d : Dic} (ok : DicOk fo d) (nc : ∀ c, ¬ Cyc d c) : Acy d := fun z => ⟨_, way_end ok nc z⟩
theorem acy_end {fo : List Str} {d : Dic} (ok : DicOk fo d) (h : Acy d) (z : Str) : itV d (d.length + 1) (.str z) = .non := way_end ok (acy_nocyc h) z
end My

namespace My
open PySem PySem.Spec PyProof.Rows L2
/-! ### rings -/
structure RingOk (fo : List Str) (d : Dic) (way : List Str) : Prop where
  ne : way ≠ []
  nd : way.Nodup
  sub : ∀ z, z ∈ way → z ∈ fo
  up : way.map (fun z => (getD d z).getD .non) = (way.drop 1 ++ way.take 1).map V.str
  cyc : ∃ c, Cyc d c
theorem ring_ok {fo : List Str} {d : Dic} {c : Str} {n : Nat} (hl : (abN d (n + 1) (.str c)).length = n + 1) (nd : (abN d (n + 1) (.str c)).Nodup) (sub : ∀ z, z ∈ abN d (n + 1) (.str c) → z ∈ fo) (h : itV d (n + 1) (.str c) = .str c) : RingOk fo d (abN d (n + 1) (.str c)) := by
  refine ⟨(fun e => by rw [e] at hl; cases hl), nd, sub, ?_, ⟨c, n + 1, Nat.succ_pos n, h⟩⟩
  obtain ⟨way, hway⟩ : ∃ way, way = abN d (n + 1) (.str c) := ⟨_, rfl⟩
  rw [← hway] at hl ⊢
  have at_ : ∀ i, i < n + 1 → ∃ z, way[i]? = some z ∧ itV d i (.str c) = .str z := fun i hi => by
    have g := ab_get d (n + 1) (.str c) i
    rw [if_pos hi, ← hway] at g
    obtain ⟨z, hz⟩ : ∃ z, way[i]? = some z := ⟨_, List.getElem?_eq_getElem (by omega)⟩
    rw [hz] at g
    refine ⟨z, hz, ?_⟩
    cases e : itV d i (.str c) <;> rw [e] at g <;> first | cases g | skip
    rfl
  refine List.ext_getElem? fun i => ?_
  rw [List.getElem?_map, List.getElem?_map]
  by_cases hi : i < n + 1
  · obtain ⟨z, hz, ez⟩ := at_ i hi
    rw [hz]
    have up : (getD d z).getD .non = itV d (i + 1) (.str c) := by rw [it_succ, ez]; rfl
    show some ((getD d z).getD .non) = _
    rw [up]
    by_cases hi2 : i + 1 < n + 1
    · obtain ⟨y, hy, ey⟩ := at_ (i + 1) hi2
      rw [List.getElem?_append_left (by rw [List.length_drop]; omega), List.getElem?_drop, Nat.add_comm 1 i, hy, ey]
      rfl
    · have e : i = n := by omega
      subst e
      obtain ⟨y, hy, ey⟩ := at_ 0 (Nat.succ_pos _)
      have ey : V.str c = .str y := ey
      rw [List.getElem?_append_right (by rw [List.length_drop]; omega), List.length_drop, hl, Nat.add_sub_cancel, Nat.sub_self, List.getElem?_take_of_lt Nat.one_pos, hy, h, ey]
      rfl
  · rw [List.getElem?_eq_none (by omega), List.getElem?_eq_none (by rw [List.length_append, List.length_drop, List.length_take]; omega)]
    rfl
/-! ### a node's place changed -/
theorem step_set {d : Dic} {z : Str} {v : V} : ∀ u, u ≠ .str z → stepV (setD d z v) u = stepV d u
  | .str y, h => by
    show (getD (setD d z v) y).getD .non = (getD d y).getD .non
    rw [getD_set, if_neg fun e => h (by rw [e])]
  | .non, _ | .bl _, _ | .int _, _ | .byt _, _ | .flt _, _ | .ref _, _ | .ty _, _ => rfl
theorem step_new {d : Dic} {z : Str} {v : V} : stepV (setD d z v) (.str z) = v := by
  show (getD (setD d z v) z).getD .non = v
  rw [getD_set, if_pos rfl]
  rfl
theorem it_set {d : Dic} {z : Str} {v : V} : ∀ n u, (∀ i, i ≤ n → itV d i u ≠ .str z) → itV (setD d z v) n u = itV d n u
  | 0, _, _ => rfl
  | n + 1, u, h => by
    show itV (setD d z v) n (stepV (setD d z v) u) = itV d n (stepV d u)
    rw [step_set u (h 0 (Nat.zero_le _))]
    exact it_set n _ fun i hi => h (i + 1) (Nat.succ_le_succ hi)
theorem ends_set {d : Dic} {z : Str} {v : V} (hz : ∃ n, itV (setD d z v) n (.str z) = .non) : ∀ n u, itV d n u = .non → ∃ m, itV (setD d z v) m u = .non
  | 0, u, h => ⟨0, h⟩
  | n + 1, u, h => by
    by_cases c : u = .str z
    · subst c
      exact hz
    · obtain ⟨m, hm⟩ := ends_set hz n (stepV d u) h
      refine ⟨m + 1, ?_⟩
      show itV (setD d z v) m (stepV (setD d z v) u) = .non
      rw [step_set u c]
      exact hm
theorem acy_setN {d : Dic} {z : Str} (h : Acy d) : Acy (setD d z .non) := fun y => by
  obtain ⟨n, hn⟩ := h y
  refine ends_set ⟨1, ?_⟩ n _ hn
  show stepV (setD d z .non) (.str z) = .non
  exact step_new
theorem acy_setS {d : Dic} {z f : Str} (h : Acy d) (hf : ∀ n, itV d n (.str f) ≠ .str z) : Acy (setD d z (.str f)) := fun y => by
  obtain ⟨n, hn⟩ := h y
  obtain ⟨m, hm⟩ := h f
  refine ends_set ⟨m + 1, ?_⟩ n _ hn
  show itV (setD d z (.str f)) m (stepV (setD d z (.str f)) (.str z)) = .non
  rw [step_new, it_set m _ fun i _ => hf i]
  exact hm
theorem hits_set {d : Dic} {z : Str} {v : V} : ∀ n u, itV d n u = .str z → ∃ m, itV (setD d z v) m u = .str z
  | 0, u, h => ⟨0, h⟩
  | n + 1, u, h => by
    by_cases c : u = .str z
    · exact ⟨0, c⟩
    · obtain ⟨m, hm⟩ := hits_set n (stepV d u) h
      refine ⟨m + 1, ?_⟩
      show itV (setD d z v) m (stepV (setD d z v) u) = .str z
      rw [step_set u c]
      exact hm
theorem cyc_set {d : Dic} {z f : Str} {n : Nat} (h : itV d n (.str f) = .str z) : Cyc (setD d z (.str f)) z := by
  obtain ⟨m, hm⟩ := hits_set (v := .str f) n _ h
  refine ⟨m + 1, Nat.succ_pos m, ?_⟩
  show itV (setD d z (.str f)) m (stepV (setD d z (.str f)) (.str z)) = .str z
  rw [step_new]
  exact hm
/-- whether a node stands on a way -/
theorem hit_abv {fo : List Str} {d : Dic} (ok : DicOk fo d) (h : Acy d) {f z : Str} : (∃ n, itV d n (.str f) = .str z) ↔ f = z ∨ z ∈ abv d f := by
  constructor
  · rintro ⟨n, hn⟩
    cases n with
    | zero =>
      have e : V.str f = .str z := hn
      exact .inl (by injection e)
    | succ i =>
      refine .inr ?_
      have lt : i < d.length := by
        rcases Nat.lt_or_ge i d.length with l | g
        · exact l
        · have := it_stay (acy_end ok h f) (show d.length + 1 ≤ i + 1 by omega)
          rw [hn] at this
          cases this
      have g := ab_get d d.length ((getD d f).getD .non) i
      have hn : itV d i ((getD d f).getD .non) = .str z := hn
      rw [if_pos lt, hn] at g
      exact List.mem_of_getElem? g
  · rintro (rfl | hz)
    · exact ⟨0, rfl⟩
    · obtain ⟨i, hi⟩ := List.mem_iff_getElem?.mp hz
      have g := ab_get d d.length ((getD d f).getD .non) i
      have hi : (abN d d.length ((getD d f).getD .non))[i]? = some z := hi
      rw [hi] at g
      refine ⟨i + 1, ?_⟩
      show itV d i ((getD d f).getD .non) = .str z
      split at g
      · cases e : itV d i ((getD d f).getD .non) <;> rw [e] at g <;> first | cases g | skip
        rfl
      · cases g
theorem gr_stay (d : Dic) (z : Str) : ∀ n, grN d z n (.str z) = .str z
  | 0 => rfl
  | n + 1 => by
    unfold grN
    rw [if_pos (.inr rfl)]
    exact gr_stay d z n
theorem gr_hit {d : Dic} {z : Str} : ∀ n u i, i ≤ n → itV d i u = .str z → grN d z n u = .str z
  | 0, u, i, hi, h => by
    have : i = 0 := by omega
    subst this
    exact h
  | n + 1, u, i, hi, h => by
    unfold grN
    by_cases c : u = .non ∨ u = .str z
    · rw [if_pos c]
      rcases c with rfl | rfl
      · rw [it_non] at h
        cases h
      · exact gr_stay d z n
    · rw [if_neg c]
      cases i with
      | zero => exact absurd (.inr h) c
      | succ i => exact gr_hit n _ i (Nat.le_of_succ_le_succ hi) h
theorem gr_no {fo : List Str} {d : Dic} (ok : DicOk fo d) (h : Acy d) {f z : Str} (g : grB d z f = false) : ∀ n, itV d n (.str f) ≠ .str z := fun n hn => by
  have le : n ≤ d.length + 1 := by
    rcases Nat.lt_or_ge (d.length + 1) n with l | l
    · have := it_stay (acy_end ok h f) (Nat.le_of_lt l)
      rw [hn] at this
      cases this
    · exact l
  have e := gr_hit (d.length + 1) (.str f) n le hn
  unfold grB at g
  rw [e, decide_eq_true rfl] at g
  cases g
/-! ### dicts with the same keys -/
theorem getD_cons (z : Str) (p : Str × V) (d : Dic) : getD (p :: d) z = if p.1 = z then some p.2 else getD d z := by
  unfold getD
  rw [List.find?_cons]
  by_cases c : p.1 = z
  · rw [decide_eq_true c, if_pos c]
    rfl
  · rw [decide_eq_false c, if_neg c]
theorem dic_ext : ∀ {d e : Dic}, d.map (·.1) = e.map (·.1) → (d.map (·.1)).Nodup → (∀ z, z ∈ d.map (·.1) → getD d z = getD e z) → d = e
  | [], [], _, _, _ => rfl
  | p :: d, q :: e, hk, nd, h => by
    rw [List.map_cons, List.map_cons] at hk
    injection hk with h1 h2
    rw [List.map_cons] at nd h
    obtain ⟨n1, n2⟩ := List.nodup_cons.mp nd
    have h0 := h p.1 List.mem_cons_self
    rw [getD_cons, getD_cons, if_pos rfl, if_pos h1.symm] at h0
    have ep : p = q := Prod.ext h1 (by injection h0)
    rw [ep, dic_ext h2 n2 fun z hz => ?_]
    have hz' := h z (List.mem_cons_of_mem _ hz)
    rw [getD_cons, getD_cons, if_neg (fun e : p.1 = z => n1 (by rw [e]; exact hz)), if_neg (fun e : q.1 = z => n1 (by rw [h1, e]; exact hz))] at hz'
    exact hz'
  | [], _ :: _, hk, _, _ => by cases hk
  | _ :: _, [], hk, _, _ => by cases hk
theorem getD_some {d : Dic} {z : Str} (h : z ∈ d.map (·.1)) : ∃ v, getD d z = some v := by
  induction d with
  | nil => cases h
  | cons p d ih =>
    rw [getD_cons]
    by_cases c : p.1 = z
    · exact ⟨_, if_pos c⟩
    · rw [if_neg c]
      rcases List.mem_cons.mp h with e | h
      · exact absurd e.symm c
      · exact ih h
/-- what lies over each node -/
def lyD (ns : List Str) (o : Dic) : Dic := ns.map fun z => (z, (getD o z).getD .non)
theorem ly_keys (ns : List Str) (o : Dic) : (lyD ns o).map (·.1) = ns := by
  unfold lyD
  rw [List.map_map]
  conv => rhs; rw [← List.map_id ns]
  rfl
theorem ly_get {o : Dic} {z : Str} : ∀ {ns : List Str}, z ∈ ns → getD (lyD ns o) z = some ((getD o z).getD .non)
  | y :: ns, h => by
    show getD ((y, (getD o y).getD .non) :: lyD ns o) z = _
    rw [getD_cons]
    by_cases c : y = z
    · subst c
      rw [if_pos rfl]
    · rw [if_neg c]
      rcases List.mem_cons.mp h with e | h
      · exact absurd e.symm c
      · exact ly_get h
theorem set_keys {d : Dic} {z : Str} {v : V} (h : z ∈ d.map (·.1)) : (setD d z v).map (·.1) = d.map (·.1) := by
  unfold setD
  have e : (d.any fun p => decide (p.1 = z)) = true := by
    obtain ⟨p, hp, e⟩ := List.mem_map.mp h
    exact List.any_eq_true.mpr ⟨p, hp, decide_eq_true e⟩
  rw [if_pos e, List.map_map]
  refine List.map_congr_left fun p _ => ?_
  show (if p.1 = z then (p.1, v) else p).1 = p.1
  split <;> rfl
theorem set_new {d : Dic} {z : Str} {v : V} (h : z ∉ d.map (·.1)) : setD d z v = d ++ [(z, v)] := by
  unfold setD
  have e : ¬ (d.any fun p => decide (p.1 = z)) = true := fun e => by
    obtain ⟨p, hp, e⟩ := List.any_eq_true.mp e
    exact h (List.mem_map.mpr ⟨p, hp, of_decide_eq_true e⟩)
  rw [if_neg e]
theorem set_ok {fo : List Str} {d : Dic} {z : Str} {v : V} (h : DicOk fo d) (hv : Opt fo v) : DicOk fo (setD d z v) := fun p hp => by
  rcases setD_mem hp with hp | hp
  · exact h p hp
  · rcases hv with rfl | ⟨y, hy, rfl⟩
    · exact .inl hp
    · exact .inr ⟨y, hy, hp⟩
end My

namespace My
open PySem PySem.Spec PyProof.Rows L2
theorem iteT' {c : Bool} {p q : Prop} (e : c = true) (h : p) : if c = true then p else q := by rw [if_pos e]; exact h
theorem iteF' {c : Bool} {p q : Prop} (e : c = false) (h : q) : if c = true then p else q := by rw [if_neg (by rw [e]; exact Bool.false_ne_true)]; exact h
theorem raise_at {f : Str} {CI : Addr} {i : Nat} {σ : L2.St} {H H3 : Hp} {y : V} {E : XK} (hy : σ[i]? = some (some y)) (x3 : Ext H H3) (q : ∀ d H', Ext H H' → H d = none → H' d = some (.xd [(f, y)]) → E (.ref CI) (some d) H') :
    tMkO CI (spInit CI f) [] (tCons (tVar i) tNil) σ H3 fun cls d H' => E cls d H' := by
  refine ⟨_, hy, Nat.le_of_ble_eq_true rfl, fun e he => ?_⟩
  refine ⟨e, _, rfl, upd_same, fun d hd ne => ⟨rfl, d, [(f, y)], upd_same, ?_, ?_, ?_⟩⟩
  · rw [upd_ne ne, upd_same]
  · rw [upd_ne ne] at hd
    exact hd
  · rw [upd_ne ne] at hd
    refine q d _ (fun b u k => ?_) ?_ upd_same
    · have k1 := x3 b u k
      rw [upd_ne (ne_of_none k1 hd), del_ne (ne_of_none k1 he), upd_ne (ne_of_none k1 he), upd_ne (ne_of_none k1 hd), upd_ne (ne_of_none k1 he)]
      exact k1
    · exact ext_none x3 hd
/-- no text of these -/
def NotIn (K : PySem.W.Frag) (H : Hp) (ns : List Str) (y : V) : Prop := (flatV y = true ∧ inV y (ns.map V.str) = false) ∨ NoText K H y
theorem NotIn.ext {K : PySem.W.Frag} {H H' : Hp} {ns : List Str} {y : V} (h : NotIn K H ns y) (e : Ext H H') : NotIn K H' ns y := h.elim .inl fun z => .inr (NoText.ext z e)
def spMustNode (K : PySem.W.Frag) (C CN : Addr) : Sp := fun vs H Q E => ∃ h y fo th, vs = [.ref h, y] ∧ Hou H K C h fo th ∧ ((∃ z, y = .str z ∧ z ∈ fo ++ th ∧ Q .non H) ∨ (NotIn K H (fo ++ th) y ∧ ∀ d H', Ext H H' → H d = none → H' d = some (.xd [("node", y)]) → E (.ref CN) (some d) H'))
def spMustFolder (K : PySem.W.Frag) (C CF : Addr) : Sp := fun vs H Q E => ∃ h y fo th, vs = [.ref h, y] ∧ Hou H K C h fo th ∧ ((∃ z, y = .str z ∧ z ∈ fo ∧ Q .non H) ∨ (NotIn K H fo y ∧ ∀ d H', Ext H H' → H d = none → H' d = some (.xd [("folder", y)]) → E (.ref CF) (some d) H'))
/-- what lies over the nodes of a house -/
structure LyD (fo th : List Str) (d : Dic) : Prop where
  keys : d.map (·.1) = fo ++ th
  ok : DicOk fo d
def spRing (K : PySem.W.Frag) (C : Addr) : Sp := fun vs H Q _ => ∃ (h p : Addr) (fo th : List Str) (d : Dic), vs = [.ref h, .ref p] ∧ Hou H K C h fo th ∧ fo.length ≤ 1000 ∧ H p = some (.dK (kd d)) ∧ LyD fo th d ∧
  ((∀ c, c ∈ fo → ¬ Cyc d c) → ∀ H', Ext H H' → Q .non H') ∧ ∀ t way H', Ext H H' → SqT K H' t (way.map V.str) → RingOk fo d way → Q (.ref t) H'
abbrev nm_must_be_node : List Str := ["house", "thing"]
theorem sc_must_be_node : FnScope nm_must_be_node ["house", "thing"] (defScope s_must_be_node) := ⟨rfl, rfl, rfl, by decide +kernel, rfl, by decide +kernel, by decide +kernel⟩
abbrev nm_must_be_folder : List Str := ["house", "thing"]
theorem sc_must_be_folder : FnScope nm_must_be_folder ["house", "thing"] (defScope s_must_be_folder) := ⟨rfl, rfl, rfl, by decide +kernel, rfl, by decide +kernel, by decide +kernel⟩
abbrev nm_ring : List Str := ["house", "lying", "folder", "way"]
theorem sc_ring : FnScope nm_ring ["house", "lying"] (defScope s_ring) := ⟨rfl, rfl, rfl, by decide +kernel, rfl, by decide +kernel, by decide +kernel⟩
section
variable {P : Program} {w : World} {K : PySem.W.Frag} {mg : Str → Option Value} {base : Heap} {f C CB CN CF : Addr} {fd : FuncData}
theorem ok_mustNode (Fn : FnP K "must_be_node" s_must_be_node f fd) (Z : HouseTxt P w K mg C CB) (EB : Er P w K mg base "NoNode" "node" CN) : FnOk P w K mg base (L2.CX P w) 4 f fd ["house", "thing"] (spMustNode K C CN) := by
  obtain ⟨fI, fdI, TB, FB, bB, _⟩ := EB
  refine Fn.ok sc_must_be_node (fun vs H Q E h => ?_) (fun cdv A outer s H vs Q E hr h => ⟨_,
    (pss_one (ps_if (pt_cmpR (OpR.notIn (op_inO (EI := E0) (hr.mono (by decide)) Z.mS (Z.S _) Z.bS pass0)) (pv 1) (pv 0) (by rfl)) (pss_one (ps_raise rfl (takes_of rfl rfl rfl rfl) (pmk_oex TB.oex TB.iC TB.tI FB (hr.mono (by decide)) bB .nil pass0 (by rfl) TB.gl (pa_cons (pv 1) pa_nil)))) pss_nil)), ?_⟩)
  · obtain ⟨h, y, fo, th, rfl, _⟩ := h
    rfl
  · obtain ⟨h, y, fo, th, rfl, hou, hh⟩ := h
    obtain ⟨hx, hfs, hins⟩ := hou.ins
    refine ⟨_, rfl, _, rfl, h, hx, hfs, rfl, hins, h, fo, th, y, rfl, hou, ?_⟩
    rcases hh with ⟨z, rfl, hz, q⟩ | ⟨nn | nn, q⟩
    · refine .inl ⟨rfl, ?_⟩
      rw [inV_str, decide_eq_true hz]
      exact ⟨_, rfl, _, rfl, _, rfl, q⟩
    · refine .inl ⟨nn.1, ?_⟩
      rw [nn.2]
      exact ⟨_, rfl, _, rfl, _, rfl, raise_at rfl Ext.rfl' q⟩
    · exact .inr (.inl ⟨nn, _, rfl, _, rfl, _, rfl, raise_at rfl Ext.rfl' q⟩)
theorem ok_mustFolder (Fn : FnP K "must_be_folder" s_must_be_folder f fd) (Z : HouseTxt P w K mg C CB) (EB : Er P w K mg base "NoFolder" "folder" CF) : FnOk P w K mg base (L2.CX P w) 4 f fd ["house", "thing"] (spMustFolder K C CF) := by
  obtain ⟨fI, fdI, TB, FB, bB, _⟩ := EB
  refine Fn.ok sc_must_be_folder (fun vs H Q E h => ?_) (fun cdv A outer s H vs Q E hr h => ⟨_,
    (pss_one (ps_if (pt_cmpR (OpR.notIn (OpR.or op_in_seq (op_inN (hu_of hr)))) (pv 1) (pe_fld (pv 0) rfl) (by rfl)) (pss_one (ps_raise rfl (takes_of rfl rfl rfl rfl) (pmk_oex TB.oex TB.iC TB.tI FB (hr.mono (by decide)) bB .nil pass0 (by rfl) TB.gl (pa_cons (pv 1) pa_nil)))) pss_nil)), ?_⟩)
  · obtain ⟨h, y, fo, th, rfl, _⟩ := h
    rfl
  · obtain ⟨h, y, fo, th, rfl, hou, hh⟩ := h
    obtain ⟨⟨dx, fs, fa, ta, na, h1, h2, h3, h4, h5, h6, h7⟩, hok⟩ := id hou
    refine ⟨_, rfl, _, rfl, h, C, dx, fs, _, rfl, h1, Z.T.cl, Z.T.nf, h2, ?_⟩
    rcases hh with ⟨z, rfl, hz, q⟩ | ⟨nn | nn, q⟩
    · refine .inl ⟨fa, _, rfl, .inr h5, rfl, flat_strs fo, ?_⟩
      show ∃ b, V.bl (inV (.str z) (fo.map V.str)) = .bl b ∧ _
      rw [inV_str, decide_eq_true hz]
      exact ⟨_, rfl, _, rfl, q⟩
    · refine .inl ⟨fa, _, rfl, .inr h5, nn.1, flat_strs fo, ?_⟩
      show ∃ b, V.bl (inV y (fo.map V.str)) = .bl b ∧ _
      rw [nn.2]
      exact ⟨_, rfl, _, rfl, raise_at rfl Ext.rfl' q⟩
    · exact .inr ⟨fa, fo, rfl, h5, nn, _, rfl, _, rfl, raise_at rfl Ext.rfl' q⟩
theorem ok_ring (Fn : FnP K "ring" s_ring f fd) (Z : HouseTxt P w K mg C CB) (gB_tuple : mg "tuple" = none) : FnOk P w K mg base CX0 2 f fd ["house", "lying"] (spRing K C) := by
  refine Fn.ok sc_ring (fun vs H Q E h => ?_) (fun cdv A outer s H vs Q E hr h => ⟨_, PSs.nox
    (pss_cons (ps_for PassesOwn.never rfl (pi_tup (pe_fld (pv 0) rfl)) (pg_name (i := 2) sc_ring.nd rfl (Or.inl rfl))
      (pss_cons (ps_set (i := 3) sc_ring.nd rfl (Or.inl rfl) (pe_lst (pa_cons (pv 2) pa_nil)))
      (pss_cons (ps_while PassesOwn.never (PW.pt (pw_and (pt_cmpR op_notN (pe_dget (hu_of hr) (pv 1) (pe_ix ix_list (pv 3) (pe_un un_neg pe_int) (fun _ _ => rfl)) (fun _ _ => rfl)) pe_non (nomark _)) (pw_and1 (pt_cmpR op_notIn_seq (pe_dget (hu_of hr) (pv 1) (pe_ix ix_list (pv 3) (pe_un un_neg pe_int) (fun _ _ => rfl)) (fun _ _ => rfl)) (pv 3) (by rfl))))) (pss_one (ps_expr (pe_bm PySem.F.plainAttrs_list PySem.F.slot_list_append PySem.F.type_list_append mt_append (pv 3) (pa_cons (pe_dget (hu_of hr) (pv 1) (pe_ix ix_list (pv 3) (pe_un un_neg pe_int) (fun _ _ => rfl)) (fun _ _ => rfl)) pa_nil)))))
      (pss_one (ps_if (pt_cmpR op_eq (pe_dget (hu_of hr) (pv 1) (pe_ix ix_list (pv 3) (pe_un un_neg pe_int) (fun _ _ => rfl)) (fun _ _ => rfl)) (pv 2) (nomark _)) (pss_one (ps_ret (pe_callTy call_tup (by rfl) gB_tuple (by decide +kernel) (pa_cons (pv 3) pa_nil)))) pss_nil)))))
      (pss_one (ps_ret pe_non))), ?_⟩)
  · obtain ⟨h, p, fo, th, d, rfl, _⟩ := h
    rfl
  · obtain ⟨h, p, fo, th, d, rfl, hou, fl, hp, ly, qN, qR⟩ := h
    obtain ⟨⟨dx, fs, fa, ta, na, h1, h2, h3, h4, h5, h6, h7⟩, hok⟩ := id hou
    have keyOf : ∀ z, z ∈ fo → ∃ v, getD d z = some v := fun z hz => getD_some (by rw [ly.keys]; exact List.mem_append_left _ hz)
    have dget : ∀ {H' : Hp} {z : Str}, Ext H H' → z ∈ fo → DGet H' p (.str z) (some (itV d 1 (.str z))) := fun {H' z} e hz => by
      obtain ⟨v, hv⟩ := keyOf z hz
      refine .inl ⟨kd d, Sum.inr z, .inl (e _ _ hp), rfl, ?_⟩
      rw [val_kd, hv]
      show some ((getD d z).getD .non) = some v
      rw [hv]
      rfl
    refine ⟨_, rfl, h, C, dx, fs, _, rfl, h1, Z.T.cl, Z.T.nf, h2, fa, rfl, ⟨_, h5⟩, for_tup (K := K) (a := fa) (xs := fo.map V.str) (fun i σ H' => ∃ u w, σ = [some (.ref h), some (.ref p), u, w] ∧ Ext H H' ∧ ∀ c, c ∈ fo.take i → ¬ Cyc d c) ⟨none, none, rfl, Ext.rfl', fun c hc => by cases hc⟩ (fun i σ H' _ ⟨u, w, _, x, _⟩ => h5.ext x) ?_ ?_⟩
    · rintro i v σ H1 hv ⟨u, w, rfl, x1, nc⟩
      obtain ⟨c, hc, rfl⟩ := strs_at hv
      have mc : c ∈ fo := List.mem_of_getElem? hc
      refine ⟨_, rfl, Nat.le_of_ble_eq_true rfl, fun l hl => ?_⟩
      have xl := Ext.upd (o := .lst [.str c]) hl
      -- the way: n + 1 stations from c
      refine ⟨fun m σ H' => ∃ n, m = fo.length + 1 - n ∧ n + 1 ≤ fo.length ∧ σ = [some (.ref h), some (.ref p), some (.str c), some (.ref l)] ∧ Ext H1 H' ∧ H' l = some (.lst ((abN d (n + 1) (.str c)).map V.str)) ∧ (abN d (n + 1) (.str c)).length = n + 1 ∧ (abN d (n + 1) (.str c)).Nodup ∧ ∀ z, z ∈ abN d (n + 1) (.str c) → z ∈ fo, ⟨_, 0, rfl, ?_, rfl, xl, upd_same, rfl, ?_, ?_⟩, ?_⟩
      · exact List.length_pos_of_mem mc
      · exact (by simp : [c].Nodup)
      · intro z hz
        rw [List.mem_singleton.mp hz]
        exact mc
      rintro m σ H2 ⟨n, rfl, hn, rfl, x2, l2, wl, wnd, wsub⟩
      have x02 := x1.trans x2
      obtain ⟨way, hway⟩ : ∃ way, way = abN d (n + 1) (.str c) := ⟨_, rfl⟩
      rw [← hway] at l2 wl wnd wsub
      -- the last station
      obtain ⟨init, z, ez⟩ : ∃ init z, way = init ++ [z] := by
        have ne : way ≠ [] := fun e => by rw [e] at wl; cases wl
        exact ⟨way.dropLast, way.getLast ne, (List.dropLast_concat_getLast ne).symm⟩
      have zn : itV d n (.str c) = .str z := by
        have g := ab_get d (n + 1) (.str c) n
        have il : init.length = n := by
          have := congrArg List.length ez
          rw [wl, List.length_append, List.length_singleton] at this
          omega
        rw [if_pos (Nat.lt_succ_self n), ← hway, ez, List.getElem?_append_right (by omega), il, Nat.sub_self] at g
        have g : some z = strOf (itV d n (.str c)) := g
        cases e : itV d n (.str c) <;> rw [e] at g <;> first | cases g | skip
        rfl
      have zfo : z ∈ fo := wsub z (by rw [ez]; exact List.mem_append_right _ List.mem_cons_self)
      have up : itV d 1 (.str z) = itV d (n + 1) (.str c) := by
        rw [it_succ d n, zn]
        rfl
      have lst2 : ∀ {H' : Hp}, Ext H2 H' → SqL K H' l (way.map V.str) := fun e => SqL.of (e _ _ l2)
      have last : atI (way.map V.str) (-1) = some (.str z) := by
        rw [ez, List.map_append]
        exact atI_last _ _
      refine ⟨_, rfl, _, rfl, _, rfl, l, _, _, .str z, rfl, rfl, lst2 Ext.rfl', last, p, _, rfl, dget x02 zfo, rfl, _, rfl, ?_⟩
      rw [up]
      -- behind the loop
      have eqz : ∀ x y : Str, decide (V.str x = V.str y) = decide (x = y) := fun x y => by
        by_cases e : x = y
        · rw [e, decide_eq_true rfl, decide_eq_true rfl]
        · rw [decide_eq_false e, decide_eq_false fun h => e (by injection h)]
      have tkc : fo.take (i + 1) = fo.take i ++ [c] := by
        rw [List.take_add_one, hc]
        rfl
      have go : ∀ x, x ∈ fo.take (i + 1) → (¬ Cyc d c) → ¬ Cyc d x := fun x hx n => by
        rw [tkc] at hx
        rcases List.mem_append.mp hx with hx | hx
        · exact nc x hx
        · rw [List.mem_singleton.mp hx]
          exact n
      have stat : ∀ k, k ≤ n → ∃ y, itV d k (.str c) = .str y ∧ way[k]? = some y := fun k hk => by
        have g := ab_get d (n + 1) (.str c) k
        rw [if_pos (by omega), ← hway] at g
        obtain ⟨y, hy⟩ : ∃ y, way[k]? = some y := ⟨_, List.getElem?_eq_getElem (by omega)⟩
        rw [hy] at g
        refine ⟨y, ?_, hy⟩
        cases e : itV d k (.str c) <;> rw [e] at g <;> first | cases g | skip
        rfl
      rcases it_opt ly.ok (n + 1) _ (.inr ⟨c, mc, rfl⟩) with e | ⟨y, hy, e⟩
      · rw [e]
        refine iteF ?_
        refine ⟨_, rfl, _, rfl, _, rfl, l, _, _, .str z, rfl, rfl, lst2 Ext.rfl', last, p, _, rfl, dget x02 zfo, _, rfl, ?_⟩
        rw [up, e]
        refine ⟨rfl, _, rfl, ?_⟩
        refine iteF' (decide_eq_false (by intro z; cases z)) ?_
        refine ⟨_, _, rfl, x02, fun x hx => go x hx fun ⟨m, m0, em⟩ => ?_⟩
        rcases Nat.lt_or_ge n m with l' | g
        · rw [it_stay e l'] at em
          cases em
        · obtain ⟨y0, e0, w0⟩ := stat 0 (Nat.zero_le _)
          obtain ⟨ym, e1, w1⟩ := stat m g
          rw [em] at e1
          have e0 : V.str c = .str y0 := e0
          have : y0 = ym := by
            injection e0 with e0
            injection e1 with e1
            rw [← e0, e1]
          rw [this] at w0
          have := (List.getElem?_inj (by omega) wnd).mp (w0.trans w1.symm)
          omega
      · have dg : ∀ {H' : Hp}, Ext H2 H' → DGet H' p (.str z) (some (.str y)) := fun x => by
          have g := dget (x02.trans x) zfo
          rw [up, e] at g
          exact g
        rw [e]
        refine iteT ?_
        refine ⟨_, rfl, _, rfl, _, rfl, l, _, _, .str z, rfl, rfl, lst2 Ext.rfl', last, p, _, rfl, dg Ext.rfl', _, rfl, l, _, rfl, .inl (lst2 Ext.rfl'), rfl, flat_strs way, _, rfl, ?_⟩
        rw [inV_str]
        refine ite2 (fun c1 => ?_) fun c1 => ?_
        · have yn : y ∉ way := by
            have c2 : (!decide (y ∈ way)) = true := c1
            simpa using c2
          have sn : abN d (n + 2) (.str c) = way ++ [y] := by rw [hway]; exact ab_snoc (n + 1) _ y e
          have nd2 : (way ++ [y]).Nodup := List.nodup_append.mpr ⟨wnd, (by simp : [y].Nodup), fun a ha b hb ee => yn (by rw [List.mem_singleton.mp hb] at ee; rw [← ee]; exact ha)⟩
          have sb2 : ∀ x, x ∈ way ++ [y] → x ∈ fo := fun x hx => (List.mem_append.mp hx).elim (wsub x) fun h => by rw [List.mem_singleton.mp h]; exact hy
          have le2 := nd2.length_le_of_subset sb2
          rw [List.length_append, wl, List.length_singleton] at le2
          refine ⟨_, fun σ' H' hN => ⟨fo.length + 1 - (n + 1), by omega, hN⟩, ?_⟩
          refine ⟨_, rfl, .inl ⟨rfl, _, .inl (.inl l2)⟩, _, rfl, _, rfl, _, rfl, l, _, _, .str z, rfl, rfl, lst2 Ext.rfl', last, p, _, rfl, dg Ext.rfl', l, _, _, rfl, rfl, l2, by rw [List.length_map, wl, sizeLine_eq]; omega, ?_⟩
          refine ⟨n + 1, rfl, le2, rfl, x2.over hl, ?_, ?_, ?_, ?_⟩
          · rw [sn, upd_same, List.map_append]
            rfl
          · rw [sn, List.length_append, wl]
            rfl
          · rw [sn]
            exact nd2
          · rw [sn]
            exact sb2
        · have ym : y ∈ way := by
            have c2 : ¬ (!decide (y ∈ way)) = true := c1
            simpa using c2
          refine ⟨_, rfl, _, rfl, _, rfl, l, _, _, .str z, rfl, rfl, lst2 Ext.rfl', last, p, _, rfl, dg Ext.rfl', _, rfl, rfl, _, rfl, ?_⟩
          refine ite2 (fun c2 => ?_) fun c2 => ?_
          · have yc : y = c := by
              have := of_decide_eq_true c2
              injection this
            subst yc
            refine ⟨_, rfl, l, _, rfl, .inl (lst2 Ext.rfl'), fun t H3 x3 st => qR t way H3 (x02.trans x3) st ?_⟩
            rw [hway]
            rw [hway] at wl wnd wsub
            exact ring_ok wl wnd wsub e
          · have yc : y ≠ c := fun ee => c2 (by rw [ee, decide_eq_true rfl])
            refine ⟨_, _, rfl, x02, fun x hx => go x hx fun ⟨m, m0, em⟩ => ?_⟩
            obtain ⟨j, hj⟩ := List.mem_iff_getElem?.mp ym
            have hjl := (List.getElem?_eq_some_iff.mp hj).1
            obtain ⟨y0, e0, w0⟩ := stat 0 (Nat.zero_le _)
            have e0 : V.str c = .str y0 := e0
            injection e0 with e0
            subst e0
            have j1 : 1 ≤ j := by
              rcases Nat.eq_zero_or_pos j with z0 | z0
              · subst z0
                rw [hj] at w0
                exact absurd (Option.some.inj w0) yc
              · exact z0
            obtain ⟨yj, ej, wj⟩ := stat j (by omega)
            have eyj : yj = y := by
              rw [hj] at wj
              exact (Option.some.inj wj).symm
            subst eyj
            have clo : ∀ m, 1 ≤ m → ∃ k, 1 ≤ k ∧ k ≤ n ∧ itV d m (.str c) = itV d k (.str c) := fun m => by
              induction m with
              | zero => intro h; omega
              | succ m ih =>
                intro _
                rcases Nat.eq_zero_or_pos m with z0 | z0
                · subst z0
                  exact ⟨1, Nat.le_refl _, by omega, rfl⟩
                · obtain ⟨k, k1, kn, ek⟩ := ih z0
                  rcases Nat.lt_or_ge k n with lt | ge
                  · refine ⟨k + 1, by omega, lt, ?_⟩
                    rw [it_succ, it_succ, ek]
                  · have : k = n := by omega
                    subst this
                    refine ⟨j, j1, by omega, ?_⟩
                    rw [it_succ, ek, ← it_succ, e, ej]
            obtain ⟨k, k1, kn, ek⟩ := clo m m0
            obtain ⟨yk, ek2, wk⟩ := stat k kn
            rw [em, ek2] at ek
            injection ek with ek
            subst ek
            have := (List.getElem?_inj (by omega) wnd).mp (w0.trans wk.symm)
            omega
    · rintro σ H1 ⟨u, w, rfl, x1, nc⟩
      rw [List.length_map, List.take_length] at nc
      exact qN nc H1 x1
end
end My

namespace My
open PySem PySem.Spec PyProof.Rows L2
/-! ### the class Tree -/
structure TreC (K : PySem.W.Frag) (C : Addr) : Prop where
  cl : Cls K C
  nh : NoAttr K C "house"
  nl : NoAttr K C "lying"
  ha : PySem.W.findIn K (.ref C) "__class__" = some (some (.builtin "object.__class__"))
  hn : PySem.W.specialIn K (.builtin "object.__class__") "__get__" = some (some (.builtin "getset_descriptor.__get__"))
  htk : PySem.W.takesIn K (.builtin "object.__class__") = some true
  hm : PySem.W.mroIn K C (.type "object") = some true
/-- the methods that are no fields -/
def treM : List Str := ["over", "above", "below", "lies", "moved", "holds", "keeps"]
/-- a tree stands at a, what lies over its nodes at q -/
def TreeAt (H : Hp) (K : PySem.W.Frag) (CT C a q : Addr) (fo th : List Str) (d : Dic) : Prop := ∃ dx fs h, H a = some (.ins CT dx fs) ∧ fs.lookup ("house" : Str) = some (V.ref h) ∧ fs.lookup ("lying" : Str) = some (V.ref q) ∧
  Hou H K C h fo th ∧ H q = some (.dK (kd d)) ∧ LyD fo th d ∧ Acy d ∧ (fo ++ th).length ≤ 1000 ∧ (fo ++ th).Nodup ∧ ∀ m, m ∈ treM → fs.lookup m = none
theorem TreeAt.ext {H H' : Hp} {K : PySem.W.Frag} {CT C a q : Addr} {fo th : List Str} {d : Dic} (h : TreeAt H K CT C a q fo th d) (e : Ext H H') : TreeAt H' K CT C a q fo th d := by
  obtain ⟨dx, fs, ho, h1, h2, h3, h4, h5, h6⟩ := h
  exact ⟨dx, fs, ho, e _ _ h1, h2, h3, h4.ext e, e _ _ h5, h6⟩
theorem TreeAt.ins {H : Hp} {K : PySem.W.Frag} {CT C a q : Addr} {fo th : List Str} {d : Dic} (h : TreeAt H K CT C a q fo th d) : ∃ dx fs, H a = some (.ins CT dx fs) := by
  obtain ⟨dx, fs, ho, h1, _⟩ := h
  exact ⟨dx, fs, h1⟩
theorem tyT {K : PySem.W.Frag} {H : Hp} {CT C a q : Addr} {fo th : List Str} {d : Dic} (T : TreC K CT) (h : TreeAt H K CT C a q fo th d) : TyX K H (.ref a) (.ref CT) := by
  obtain ⟨dx, fs, e⟩ := h.ins
  exact .base (.ins e T.cl T.ha T.hn T.htk T.hm)
/-! ### a dict locked, and let go -/
theorem ext_unlock {H H' : Hp} {p : Addr} {u z : HO} (hp : H p = some u) (e : Ext (L2.upd H p z) H') : Ext H (L2.upd H' p u) := fun b v k => by
  by_cases c : b = p
  · rw [c, upd_same, ← hp, ← c, k]
  · rw [upd_ne c]
    exact e b v (by rw [upd_ne c]; exact k)
theorem seqT_dk {K : PySem.W.Frag} {H : Hp} {a p : Addr} {xs : List V} {kvs : List (Key × V)} {z : HO} (h : SqT K H a xs) (hp : H p = some (.dK kvs)) : SqT K (L2.upd H p z) a xs := by
  rcases h with (h | ⟨o, h⟩) | h
  · exact .inl (.inl (by rw [upd_ne (ne_of h hp (fun z => nomatch z))]; exact h))
  · exact .inl (.inr ⟨o, by rw [upd_ne (ne_of h hp (fun z => nomatch z))]; exact h⟩)
  · exact .inr h
theorem hou_dk {H : Hp} {K : PySem.W.Frag} {C b p : Addr} {fo th : List Str} {kvs : List (Key × V)} {z : HO} (h : Hou H K C b fo th) (hp : H p = some (.dK kvs)) : Hou (L2.upd H p z) K C b fo th := by
  obtain ⟨⟨dx, fs, f, t, n, h1, h2, h3, h4, h5, h6, h7⟩, ok⟩ := h
  exact ⟨⟨dx, fs, f, t, n, by rw [upd_ne (ne_of h1 hp (fun z => nomatch z))]; exact h1, h2, h3, h4, seqT_dk h5 hp, seqT_dk h6 hp, seqT_dk h7 hp⟩, ok⟩
/-- the house stays when an instance is written -/
theorem hou_butI {K : PySem.W.Frag} {H H' : Hp} {a C CF dx h : Addr} {fs : List (Str × V)} {fo th : List Str} (hh : Hou H K C h fo th) (b : But H H' a) (ha : H a = some (.ins CF dx fs)) (ne : h ≠ a) : Hou H' K C h fo th := by
  obtain ⟨⟨dx', fs', f, t, n, h1, h2, h3, h4, h5, h6, h7⟩, k⟩ := hh
  exact ⟨⟨dx', fs', f, t, n, b _ _ ne h1, h2, h3, h4, sqT_but h5 b ha, sqT_but h6 b ha, sqT_but h7 b ha⟩, k⟩
theorem cyc_fo {fo : List Str} {d : Dic} (ok : DicOk fo d) {c : Str} (h : Cyc d c) : c ∈ fo := by
  obtain ⟨n, n0, e⟩ := h
  cases n with
  | zero => exact absurd n0 (Nat.lt_irrefl 0)
  | succ n =>
    rcases it_opt ok n _ (step_str ok c) with h | ⟨y, hy, h⟩
    · have e : itV d n (stepV d (.str c)) = .str c := e
      rw [h] at e
      cases e
    · have e : itV d n (stepV d (.str c)) = .str c := e
      rw [h] at e
      injection e with e
      rw [← e]
      exact hy
def spTInit (K : PySem.W.Frag) (CT C CF CR : Addr) : Sp := fun vs H Q E => ∃ a dx h p fo th o, vs = [.ref a, .ref h, .ref p] ∧ H a = some (.ins CT dx []) ∧ h ≠ a ∧ Hou H K C h fo th ∧ (fo ++ th).length ≤ 1000 ∧ (fo ++ th).Nodup ∧ H p = some (.dK (kd o)) ∧ (∀ z, z ∈ o.map (·.1) → z ∈ fo ++ th) ∧
  ((∃ (i : Nat) (y : V), (o.map (·.2))[i]? = some y ∧ (∀ j z, j < i → (o.map (·.2))[j]? = some z → ∃ s, z = .str s ∧ s ∈ fo) ∧ (∀ od, NotIn K (L2.upd H p (.frz od (.dK (kd o)))) fo y) ∧ ∀ d H' od, Ext (L2.upd H p (.frz od (.dK (kd o)))) H' → H d = none → H' d = some (.xd [("folder", y)]) → E (.ref CF) (some d) H') ∨
  ((∀ z, z ∈ o.map (·.2) → ∃ s, z = .str s ∧ s ∈ fo) ∧ ((∀ c, c ∈ fo → ¬ Cyc (lyD (fo ++ th) o) c) → ∀ q H', But H H' a → H q = none → TreeAt H' K CT C a q fo th (lyD (fo ++ th) o) → Q .non H') ∧
    ∀ d t way H', Ext H H' → H d = none → SqT K H' t (way.map V.str) → H' d = some (.xd [("folders", .ref t)]) → RingOk fo (lyD (fo ++ th) o) way → E (.ref CR) (some d) H'))
/-- a def that may raise -/
def HasX (P : Program) (w : World) (K : PySem.W.Frag) (mg : Str → Option Value) (base : Heap) (k : Nat) (x : Str) (ps : List Str) (sp : Sp) : Prop :=
  ∃ (f : Addr) (fd : FuncData), FnOk P w K mg base (L2.CX P w) k f fd ps sp ∧ mg x = some (.ref f) ∧ PySem.W.keepIn K (.ref f) = true ∧ Binds K fd ps []
theorem pe_hasX {X : Cx} {k : Nat} {x : Str} {ps : List Str} {sp : Sp} {E : XK} {e : Expr} {es : List Expr} {t : TA} {p pos : Pos} (h : HasX X.prog X.w X.K X.mg X.base k x ps sp) (hr : Room k X.A) (ha : PA X (e :: es) t) (hx : Passes (L2.CX X.prog X.w) X E) (hg : Gl X x := by rfl)
    (hdb : (x == ("__debug__" : Str)) = false := by decide) (h1 : starEach (e :: es) X.env = (false, eval e X.env) :: starEach es X.env := by rfl) (h2 : (backTo pos (starEach es X.env)).any (·.1) = false := by rfl) :
    PE X (.Call (.Name x p) (e :: es) [] pos) (tCall sp [] E t) := by
  obtain ⟨f, fd, F, m, kp, b⟩ := h
  exact pe_call F hr hg m kp b .nil hx ha hdb h1 h2
abbrev nm_Tree_init : List Str := ["self", "house", "over", "node", "folder", "lying", "folders"]
theorem sc_Tree_init : FnScope nm_Tree_init ["self", "house", "over"] (defScope s_Tree_init) := ⟨rfl, rfl, rfl, by decide +kernel, rfl, by decide +kernel, by decide +kernel⟩
section
variable {P : Program} {w : World} {K : PySem.W.Frag} {mg : Str → Option Value} {base : Heap} {f C CT CN CF CR CB : Addr} {fd : FuncData}
theorem ok_tInit (Fn : FunD K "__init__" "Tree.__init__" (defArgs s_Tree_init) (defBody s_Tree_init) (defScope s_Tree_init) [] [] f fd) (Z : HouseTxt P w K mg C CB) (T : TreC K CT) (hmust_be_node : HasX P w K mg base 4 "must_be_node" ["house", "thing"] (spMustNode K C CN)) (hmust_be_folder : HasX P w K mg base 4 "must_be_folder" ["house", "thing"] (spMustFolder K C CF))
    (hring : Has P w K mg base 2 "ring" ["house", "lying"] (spRing K C)) (EB : Er P w K mg base "Ringed" "folders" CR) :
    FnOk P w K mg base (L2.CX P w) 6 f fd ["self", "house", "over"] (spTInit K CT C CF CR) := by
  obtain ⟨fI, fdI, TB, FB, bB, _⟩ := EB
  refine Fn.ok sc_Tree_init (fun vs H Q E h => ?_) (fun cdv A outer s H vs Q E hr h => ⟨_,
    (pss_cons (ps_lock (ps_for (passes_of rfl) rfl (pi_keys (pv 2)) (pg_name (i := 3) sc_Tree_init.nd rfl (Or.inl rfl))
      (pss_one (ps_expr (pe_hasX hmust_be_node (hr.mono (by decide)) (pa_cons (pv 1) (pa_cons (pv 3) pa_nil)) (passes_call (takes_of rfl rfl rfl rfl) (fun _ _ _ _ h => h)))))))
      (pss_cons (ps_lock (ps_for (passes_of rfl) rfl (pi_values (pv 2)) (pg_name (i := 4) sc_Tree_init.nd rfl (Or.inl rfl))
      (pss_one (ps_expr (pe_hasX hmust_be_folder (hr.mono (by decide)) (pa_cons (pv 1) (pa_cons (pv 4) pa_nil)) (passes_call (takes_of rfl rfl rfl rfl) (fun _ _ _ _ h => h)))))))
      (pss_cons (ps_setDc (i := 5) (own := [("node", 3)]) (g := (gName 3)) (tt := tYes) rfl sc_Tree_init.nd rfl rfl (sw_trueD rfl rfl rfl (by decide +kernel)) (pi_tup (pe_fld (pv 1) rfl)) (blkOk_by (N := nm_Tree_init) (sc := defScope s_Tree_init) (by decide +kernel)) (fun _ _ _ _ _ => (pg_name (i := 3) sc_Tree_init.nd rfl (Or.inl rfl))) (fun _ _ _ _ _ => pts_nil) (fun _ _ _ _ _ => (pv 3)) (fun _ _ _ _ _ => (pe_dget1 (hu_of hr) (pv 2) (pv 3) ⟨rfl, rfl, rfl, rfl⟩)))
      (pss_cons (ps_set (i := 6) sc_Tree_init.nd rfl (Or.inl rfl) (pe_has hring (hr.mono (by decide)) (pa_cons (pv 1) (pa_cons (pv 5) pa_nil))))
      (pss_cons (ps_if (pt_cmpR op_notN (pv 6) pe_non (nomark _)) (pss_one (ps_raise rfl (takes_of rfl rfl rfl rfl) (pmk_oex TB.oex TB.iC TB.tI FB (hr.mono (by decide)) bB .nil pass0 (by rfl) TB.gl (pa_cons (pv 6) pa_nil)))) pss_nil)
      (pss_cons (ps_fld (pv 0) (pv 1) rfl)
      (pss_one (ps_fld (pv 0) (pv 5) rfl)))))))), ?_⟩)
  · obtain ⟨a, dx, h, p, fo, th, o, rfl, _⟩ := h
    rfl
  · obtain ⟨a, dx, h, p, fo, th, o, rfl, ha, nha, hou, len, nd, hp, keys, hh⟩ := h
    have lenS : (fo ++ th).length < sizeLine := by rw [sizeLine_eq]; omega
    -- the keys
    refine ⟨p, .dK (kd o), hp, True.intro, fun od => ?_⟩
    obtain ⟨HL, hHL⟩ : ∃ HL, HL = L2.upd H p (.frz od (.dK (kd o))) := ⟨_, rfl⟩
    rw [← hHL]
    have pL : HL p = some (.frz od (.dK (kd o))) := by rw [hHL, upd_same]
    have houL : Hou HL K C h fo th := by rw [hHL]; exact hou_dk hou hp
    have kdi : ∀ {i : Nat} {k : Key} {v : V}, (kd o)[i]? = some (k, v) → ∃ z, o[i]? = some (z, v) ∧ k = Sum.inr z := fun {i k v} e => by
      unfold kd at e
      rw [List.getElem?_map] at e
      cases c : o[i]? with
      | none => rw [c] at e; cases e
      | some x =>
        rw [c] at e
        cases e
        exact ⟨_, rfl, rfl⟩
    refine ⟨_, rfl, p, od, rfl, .inl ⟨kd o, pL, ?_⟩⟩
    refine for_it (walk_keys (kvs := kd o)) (fun i σ H' => Ext HL H' ∧ ∃ u, σ = [some (.ref a), some (.ref h), some (.ref p), u, none, none, none]) ⟨Ext.rfl', none, rfl⟩ (fun i σ H' _ p => p.1 _ _ pL) ?_ ?_
    · rintro i x σ H1 H2 hi ⟨x1, u, rfl⟩ ⟨rfl, k, v, e, rfl⟩
      obtain ⟨z, oz, rfl⟩ := kdi e
      refine ⟨_, rfl, _, rfl, h, .str z, fo, th, rfl, houL.ext x1, .inl ⟨z, rfl, keys z (List.mem_map.mpr ⟨_, List.mem_of_getElem? oz, rfl⟩), ?_⟩⟩
      exact ⟨x1, _, rfl⟩
    · rintro σ H1 ⟨x1, u, rfl⟩
      refine ⟨x1 _ _ pL, ?_⟩
      obtain ⟨H2, hH2⟩ : ∃ H2, H2 = L2.upd H1 p (.dK (kd o)) := ⟨_, rfl⟩
      rw [← hH2]
      have x2 : Ext H H2 := by
        rw [hH2]
        exact ext_unlock hp (by rw [← hHL]; exact x1)
      have p2 := x2 _ _ hp
      clear x1 hH2 pL houL hHL HL H1
      -- what lies over them
      refine ⟨p, .dK (kd o), p2, True.intro, fun od2 => ?_⟩
      obtain ⟨HL, hHL⟩ : ∃ HL, HL = L2.upd H2 p (.frz od2 (.dK (kd o))) := ⟨_, rfl⟩
      rw [← hHL]
      have pL : HL p = some (.frz od2 (.dK (kd o))) := by rw [hHL, upd_same]
      have houL : Hou HL K C h fo th := by rw [hHL]; exact hou_dk (hou.ext x2) p2
      have xL : Ext (L2.upd H p (.frz od2 (.dK (kd o)))) HL := fun b v k => by
        rw [hHL]
        by_cases c : b = p
        · subst c
          rw [upd_same] at k ⊢
          exact k
        · rw [upd_ne c] at k ⊢
          exact x2 _ _ k
      have vals : ∀ {i : Nat} {k : Key} {v : V}, (kd o)[i]? = some (k, v) → (o.map (·.2))[i]? = some v := fun {i k v} e => by
        obtain ⟨z, oz, _⟩ := kdi e
        rw [List.getElem?_map, oz]
        rfl
      refine ⟨_, rfl, p, od2, kd o, rfl, pL, ?_⟩
      rcases hh with ⟨n, y, hy, bef, nin, qE⟩ | ⟨all, qN, qR⟩
      · refine for_it (walk_values (kvs := kd o)) (fun i σ H' => (Ext HL H' ∧ ∃ u v, σ = [some (.ref a), some (.ref h), some (.ref p), u, v, none, none]) ∧ i ≤ n) ⟨⟨Ext.rfl', _, _, rfl⟩, Nat.zero_le _⟩ (fun i σ H' _ p => p.1.1 _ _ pL) ?_ ?_
        · rintro i x σ H3 H4 hi ⟨⟨x1, u, v, rfl⟩, le⟩ ⟨rfl, k, e⟩
          have e2 := vals e
          rcases Nat.lt_or_ge i n with l | g
          · obtain ⟨s, rfl, hs⟩ := bef i _ l e2
            exact ⟨_, rfl, _, rfl, h, _, fo, th, rfl, houL.ext x1, .inl ⟨s, rfl, hs, ⟨x1, _, _, rfl⟩, l⟩⟩
          · have : i = n := by omega
            subst this
            rw [hy] at e2
            cases e2
            refine ⟨_, rfl, _, rfl, h, _, fo, th, rfl, houL.ext x1, .inr ⟨(nin od2).ext (xL.trans x1), fun d H' x3 hd hd' => qE d H' od2 (xL.trans (x1.trans x3)) ?_ hd'⟩⟩
            have h1 := ext_none (xL.trans x1) hd
            by_cases c : d = p
            · rw [c, upd_same] at h1
              cases h1
            · rw [upd_ne c] at h1
              exact h1
        · rintro σ H3 ⟨_, le⟩
          have := (List.getElem?_eq_some_iff.mp hy).1
          rw [List.length_map] at this
          rw [kd_len] at le
          omega
      refine for_it (walk_values (kvs := kd o)) (fun i σ H' => Ext HL H' ∧ ∃ u v, σ = [some (.ref a), some (.ref h), some (.ref p), u, v, none, none]) ⟨Ext.rfl', _, _, rfl⟩ (fun i σ H' _ p => p.1 _ _ pL) ?_ ?_
      · rintro i x σ H3 H4 hi ⟨x1, u, v, rfl⟩ ⟨rfl, k, e⟩
        obtain ⟨s, rfl, hs⟩ := all _ (List.mem_of_getElem? (vals e))
        exact ⟨_, rfl, _, rfl, h, _, fo, th, rfl, houL.ext x1, .inl ⟨s, rfl, hs, x1, _, _, rfl⟩⟩
      rintro σ H3 ⟨x1, u, v, rfl⟩
      refine ⟨x1 _ _ pL, ?_⟩
      obtain ⟨H4, hH4⟩ : ∃ H4, H4 = L2.upd H3 p (.dK (kd o)) := ⟨_, rfl⟩
      rw [← hH4]
      have x4 : Ext H H4 := x2.trans (by
        rw [hH4]
        exact ext_unlock p2 (by rw [← hHL]; exact x1))
      clear x1 hH4 pL houL hHL xL HL H3 p2 x2 H2
      -- the table
      have hou4 := hou.ext x4
      obtain ⟨⟨dh, fs, fa, ta, na, h1, h2, h3, h4, h5, h6, h7⟩, hok⟩ := id hou4
      refine ⟨_, rfl, h, C, dh, fs, _, rfl, h1, Z.T.cl, Z.T.nn, h4, ?_⟩
      refine ⟨na, rfl, ⟨_, h7⟩, fun D hD => ?_⟩
      have p4 := x4 _ _ hp
      have e7 : fo.map V.str ++ th.map V.str = (fo ++ th).map V.str := (List.map_append ..).symm
      obtain ⟨d, hd⟩ : ∃ d, d = lyD (fo ++ th) o := ⟨_, rfl⟩
      rw [← hd] at qN qR
      have lyk : d.map (·.1) = fo ++ th := by rw [hd]; exact ly_keys _ _
      have dl : d.length = (fo ++ th).length := by rw [← lyk, List.length_map]
      rw [e7] at h7
      refine dc_tup (K := K) (a := na) (xs := (fo ++ th).map V.str) (fun i H' => Ext H4 H' ∧ H' D = some (.dK (kd (d.take i)))) ⟨Ext.upd hD, upd_same⟩ (fun i H' _ p => h7.ext p.1) ?_ ?_
      · rintro i x H5 hx ⟨x5, hD5⟩
        rw [List.getElem?_map] at hx
        obtain ⟨z, hz, rfl⟩ : ∃ z, (fo ++ th)[i]? = some z ∧ x = .str z := by
          cases c : (fo ++ th)[i]? with
          | none => rw [c] at hx; cases hx
          | some z =>
            rw [c] at hx
            cases hx
            exact ⟨z, rfl, rfl⟩
        have zi : i < (fo ++ th).length := (List.getElem?_eq_some_iff.mp hz).1
        have di : d[i]? = some (z, (getD o z).getD .non) := by
          rw [hd]
          unfold lyD
          rw [List.getElem?_map, hz]
          rfl
        have nz : z ∉ (d.take i).map (·.1) := fun m => by
          rw [List.map_take, lyk] at m
          obtain ⟨j, hj⟩ := List.mem_iff_getElem?.mp m
          have jl := (List.getElem?_eq_some_iff.mp hj).1
          rw [List.length_take] at jl
          rw [List.getElem?_take_of_lt (by omega)] at hj
          have := (List.getElem?_inj (by omega) nd).mp (hj.trans hz.symm)
          omega
        refine ⟨rfl, ?_⟩
        refine ⟨_, rfl, _, rfl, p, rfl, .inl ⟨_, .inl (x5 _ _ p4)⟩, _, rfl, _, DGet.k (k := Sum.inr z) (x5 _ _ p4), ?_⟩
        rw [val_kd]
        refine ⟨_, Sum.inr z, rfl, hD5, by rw [kd_len, List.length_take]; omega, x5.over hD, ?_⟩
        rw [upd_same, put_kd, set_new nz, List.take_add_one, di]
        rfl
      · rintro H5 ⟨x5, hD5⟩
        rw [List.length_map, ← dl, List.take_length] at hD5
        have hou5 := hou.ext (x4.trans x5)
        have ly : LyD fo th d := ⟨lyk, fun q hq => by
          rw [hd] at hq
          unfold lyD at hq
          obtain ⟨z, _, rfl⟩ := List.mem_map.mp hq
          show (getD o z).getD .non = .non ∨ _
          cases e : getD o z with
          | none => exact .inl rfl
          | some v =>
            obtain ⟨q, hq, rfl⟩ := getD_mem e
            obtain ⟨s, es, hs⟩ := all _ (List.mem_map.mpr ⟨q, hq, rfl⟩)
            exact .inr ⟨s, hs, es⟩⟩
        refine ⟨_, rfl, _, rfl, h, D, fo, th, d, rfl, hou5, by rw [List.length_append] at len; omega, hD5, ly, fun nc H6 x6 => ?_, fun t way H6 x6 st ring => ?_⟩
        · refine ⟨_, rfl, rfl, _, rfl, ?_⟩
          refine iteF ?_
          have x6' : Ext H H6 := x4.trans (x5.trans x6)
          refine ⟨_, rfl, _, rfl, a, CT, dx, _, rfl, x6' _ _ ha, T.cl, T.nh, Nat.le_of_ble_eq_true rfl, ?_⟩
          obtain ⟨H7, hH7⟩ : ∃ H7, H7 = L2.upd H6 a (.ins CT dx (putF "house" (.ref h) [])) := ⟨_, rfl⟩
          rw [← hH7]
          have a7 : H7 a = some (.ins CT dx (putF "house" (.ref h) [])) := by rw [hH7, upd_same]
          have b7 : But H6 H7 a := by
            rw [hH7]
            exact But.upd (ext_but Ext.rfl')
          refine ⟨_, rfl, _, rfl, a, CT, dx, _, rfl, a7, T.cl, T.nl, Nat.le_of_ble_eq_true rfl, ?_⟩
          obtain ⟨H8, hH8⟩ : ∃ H8, H8 = L2.upd H7 a (.ins CT dx (putF "lying" (.ref D) (putF "house" (.ref h) []))) := ⟨_, rfl⟩
          rw [← hH8]
          have a8 : H8 a = some (.ins CT dx (putF "lying" (.ref D) (putF "house" (.ref h) []))) := by rw [hH8, upd_same]
          have b8 : But H6 H8 a := b7.trans (by
            rw [hH8]
            exact But.upd (ext_but Ext.rfl'))
          have a6 := x6' _ _ ha
          have Da : D ≠ a := fun e => by
            rw [e, x4 _ _ ha] at hD
            cases hD
          refine qN nc D H8 ((ext_but x6').trans b8) (ext_none x4 hD) ⟨dx, _, h, a8, rfl, rfl, hou_butI (hou.ext x6') b8 a6 nha, b8 _ _ Da (x6 _ _ hD5), ly, acy_of ly.ok fun c hc => nc c (cyc_fo ly.ok hc) hc, len, nd, fun m hm => ?_⟩
          unfold treM at hm
          simp at hm
          rcases hm with rfl | rfl | rfl | rfl | rfl | rfl | rfl <;> rfl
        · refine ⟨_, rfl, rfl, _, rfl, ?_⟩
          refine iteT ?_
          exact raise_at rfl Ext.rfl' fun d' H' e h1 h2 => qR d' t way H' (x4.trans (x5.trans (x6.trans e))) (ext_none (x4.trans (x5.trans x6)) h1) (st.ext e) h2 ring
end
end My

namespace My
open PySem PySem.Spec PyProof.Rows L2
/-! ### what a tree tells -/
/-- the thing is no node -/
def BadN (K : PySem.W.Frag) (ns : List Str) (y : V) (f : Str) (CN : Addr) (H : Hp) (E : XK) : Prop := NotIn K H ns y ∧ ∀ d H', Ext H H' → H d = none → H' d = some (.xd [(f, y)]) → E (.ref CN) (some d) H'
theorem BadN.ext {K : PySem.W.Frag} {ns : List Str} {y : V} {f : Str} {CN : Addr} {H H1 : Hp} {E : XK} (h : BadN K ns y f CN H E) (x : Ext H H1) : BadN K ns y f CN H1 E := ⟨h.1.ext x, fun d H' e h1 h2 => h.2 d H' (x.trans e) (ext_none x h1) h2⟩
def spTOver (K : PySem.W.Frag) (CT C CN : Addr) : Sp := fun vs H Q E => ∃ a q fo th d y, vs = [.ref a, y] ∧ TreeAt H K CT C a q fo th d ∧ ((∃ z, y = .str z ∧ z ∈ fo ++ th ∧ Q ((getD d z).getD .non) H) ∨ BadN K (fo ++ th) y "node" CN H E)
def spTAbove (K : PySem.W.Frag) (CT C CN : Addr) : Sp := fun vs H Q E => ∃ a q fo th d y, vs = [.ref a, y] ∧ TreeAt H K CT C a q fo th d ∧ ((∃ z, y = .str z ∧ z ∈ fo ++ th ∧ ∀ t H', Ext H H' → SqT K H' t ((abv d z).map V.str) → Q (.ref t) H') ∨ BadN K (fo ++ th) y "node" CN H E)
def spTLies (K : PySem.W.Frag) (CT C CN CF : Addr) : Sp := fun vs H Q E => ∃ a q fo th d x y, vs = [.ref a, x, y] ∧ TreeAt H K CT C a q fo th d ∧ (BadN K (fo ++ th) x "node" CN H E ∨
  ∃ z, x = .str z ∧ z ∈ fo ++ th ∧ ((∃ g, y = .str g ∧ g ∈ fo ∧ ∀ H', Ext H H' → Q (.bl (decide (g ∈ abv d z))) H') ∨ BadN K fo y "folder" CF H E))
def spTBelow (K : PySem.W.Frag) (CT C CF : Addr) : Sp := fun vs H Q E => ∃ a q fo th d y, vs = [.ref a, y] ∧ TreeAt H K CT C a q fo th d ∧ ((∃ g, y = .str g ∧ g ∈ fo ∧ ∀ t H', Ext H H' → SqT K H' t (((fo ++ th).filter fun z => decide (g ∈ abv d z)).map V.str) → Q (.ref t) H') ∨ BadN K fo y "folder" CF H E)
abbrev nm_Tree_over : List Str := ["self", "node"]
theorem sc_Tree_over : FnScope nm_Tree_over ["self", "node"] (defScope s_Tree_over) := ⟨rfl, rfl, rfl, by decide +kernel, rfl, by decide +kernel, by decide +kernel⟩
abbrev nm_Tree_above : List Str := ["self", "node", "folders", "folder"]
theorem sc_Tree_above : FnScope nm_Tree_above ["self", "node"] (defScope s_Tree_above) := ⟨rfl, rfl, rfl, by decide +kernel, rfl, by decide +kernel, by decide +kernel⟩
abbrev nm_Tree_below : List Str := ["self", "folder", "node"]
theorem sc_Tree_below : FnScope nm_Tree_below ["self", "folder"] (defScope s_Tree_below) := ⟨rfl, rfl, rfl, by decide +kernel, rfl, by decide +kernel, by decide +kernel⟩
abbrev nm_Tree_lies : List Str := ["self", "node", "folder", "folders"]
theorem sc_Tree_lies : FnScope nm_Tree_lies ["self", "node", "folder"] (defScope s_Tree_lies) := ⟨rfl, rfl, rfl, by decide +kernel, rfl, by decide +kernel, by decide +kernel⟩
section
variable {P : Program} {w : World} {K : PySem.W.Frag} {mg : Str → Option Value} {base : Heap} {f C CT CN CF CR CB : Addr} {fd : FuncData}
theorem dget_ly {fo th : List Str} {d : Dic} {H : Hp} {q : Addr} {z : Str} (ly : LyD fo th d) (hq : H q = some (.dK (kd d))) (hz : z ∈ fo ++ th) : DGet H q (.str z) (some ((getD d z).getD .non)) := by
  obtain ⟨v, hv⟩ := getD_some (d := d) (z := z) (by rw [ly.keys]; exact hz)
  exact .inl ⟨kd d, Sum.inr z, .inl hq, rfl, by rw [val_kd, hv]; rfl⟩
theorem ok_tOver (Fn : FunD K "over" "Tree.over" (defArgs s_Tree_over) (defBody s_Tree_over) (defScope s_Tree_over) [] [] f fd) (T : TreC K CT) (hmust_be_node : HasX P w K mg base 4 "must_be_node" ["house", "thing"] (spMustNode K C CN)) :
    FnOk P w K mg base (L2.CX P w) 5 f fd ["self", "node"] (spTOver K CT C CN) := by
  refine Fn.ok sc_Tree_over (fun vs H Q E h => ?_) (fun cdv A outer s H vs Q E hr h => ⟨_,
    (pss_cons (ps_expr (pe_hasX hmust_be_node (hr.mono (by decide)) (pa_cons (pe_fld (pv 0) rfl) (pa_cons (pv 1) pa_nil)) (passes_call (takes_of rfl rfl rfl rfl) (fun _ _ _ _ h => h))))
      (pss_one (ps_ret (pe_dget (hu_of hr) (pe_fld (pv 0) rfl) (pv 1) (fun _ _ => rfl))))), ?_⟩)
  · obtain ⟨a, q, fo, th, d, y, rfl, _⟩ := h
    rfl
  · obtain ⟨a, q, fo, th, d, y, rfl, tr, hh⟩ := h
    obtain ⟨dx, fs, ho, h1, h2, h3, h4, h5, h6, h7⟩ := id tr
    refine ⟨_, rfl, a, CT, dx, fs, _, rfl, h1, T.cl, T.nh, h2, ?_⟩
    refine ⟨_, rfl, ho, y, fo, th, rfl, h4, ?_⟩
    rcases hh with ⟨z, rfl, hz, q'⟩ | bad
    · exact .inl ⟨z, rfl, hz, _, rfl, a, CT, dx, fs, _, rfl, h1, T.cl, T.nl, h3, _, rfl, q, _, rfl, dget_ly h6 h5 hz, q'⟩
    · exact .inr bad
theorem ok_tAbove (Fn : FunD K "above" "Tree.above" (defArgs s_Tree_above) (defBody s_Tree_above) (defScope s_Tree_above) [] [] f fd) (T : TreC K CT) {fO : Addr} {fdO : FuncData} (tmV : Meth K CT "over" fO) (tV : FnOk P w K mg base (L2.CX P w) 5 fO fdO ["self", "node"] (spTOver K CT C CN)) (tbV : Binds K fdO ["self", "node"] []) (gB_tuple : mg "tuple" = none) :
    FnOk P w K mg base (L2.CX P w) 6 f fd ["self", "node"] (spTAbove K CT C CN) := by
  refine Fn.ok sc_Tree_above (fun vs H Q E h => ?_) (fun cdv A outer s H vs Q E hr h => ⟨_,
    (pss_cons (ps_set (i := 2) sc_Tree_above.nd rfl (Or.inl rfl) (pe_lst pa_nil))
      (pss_cons (ps_set (i := 3) sc_Tree_above.nd rfl (Or.inl rfl) (pe_meth (pv 0) T.cl tmV tV (hr.mono (by decide)) tbV .nil (passes_call (takes_of rfl rfl rfl rfl) (fun _ _ _ _ h => h)) (pa_cons (pv 1) pa_nil)))
      (pss_cons (ps_while (passes_of rfl) (pt_cmpR op_notN (pv 3) pe_non (nomark _)) (pss_cons (ps_expr (pe_bm PySem.F.plainAttrs_list PySem.F.slot_list_append PySem.F.type_list_append mt_append (pv 2) (pa_cons (pv 3) pa_nil)))
      (pss_one (ps_set (i := 3) sc_Tree_above.nd rfl (Or.inl rfl) (pe_dget (hu_of hr) (pe_fld (pv 0) rfl) (pv 3) (fun _ _ => rfl))))))
      (pss_one (ps_ret (pe_callTy call_tup (by rfl) gB_tuple (by decide +kernel) (pa_cons (pv 2) pa_nil))))))), ?_⟩)
  · obtain ⟨a, q, fo, th, d, y, rfl, _⟩ := h
    rfl
  · obtain ⟨a, q, fo, th, d, y, rfl, tr, hh⟩ := h
    obtain ⟨dx, fs, ho, h1, h2, h3, h4, h5, h7b⟩ := id tr
    obtain ⟨ly, acy, len, nd, meth⟩ := h7b
    refine ⟨Nat.zero_le _, fun l hl => ?_⟩
    have xl := Ext.upd (o := .lst []) hl
    refine ⟨_, rfl, a, dx, fs, rfl, xl _ _ h1, meth _ (by decide), _, rfl, a, q, fo, th, d, y, rfl, tr.ext xl, ?_⟩
    rcases hh with ⟨z, rfl, hz, q'⟩ | bad
    · refine .inl ⟨z, rfl, hz, ?_⟩
      refine ⟨fun m σ H' => ∃ k acc v, m = d.length - k ∧ k ≤ d.length ∧ σ = [some (.ref a), some (.str z), some (.ref l), some v] ∧ Ext H H' ∧ H' l = some (.lst (acc.map V.str)) ∧ acc.length ≤ k ∧ v = itV d k ((getD d z).getD .non) ∧ acc ++ abN d (d.length - k) v = abv d z, ⟨_, 0, [], _, rfl, Nat.zero_le _, rfl, xl, upd_same, Nat.zero_le _, rfl, rfl⟩, ?_⟩
      rintro m σ H2 ⟨k, acc, v, rfl, hk, rfl, x2, l2, al, hv, e⟩
      refine ⟨_, rfl, rfl, _, rfl, ?_⟩
      have ov : v = .non ∨ ∃ y, y ∈ fo ∧ v = .str y := by
        rw [hv]
        exact it_opt ly.ok k _ (getD_opt ly.ok z)
      have dl : d.length ≤ 1000 := by
        rw [← List.length_map (f := (·.1)), ly.keys]
        exact len
      rcases ov with rfl | ⟨g, hg, rfl⟩
      · refine iteF ?_
        have : ∀ n, abN d n .non = [] := fun n => by cases n <;> rfl
        rw [this, List.append_nil] at e
        rw [e] at l2
        exact ⟨_, rfl, l, _, rfl, .inl (SqL.of l2), fun t H3 x3 st => q' t H3 (x2.trans x3) st⟩
      · refine iteT ?_
        have kl : k < d.length := by
          rcases Nat.lt_or_ge k d.length with l | g
          · exact l
          · have e1 : itV d k ((getD d z).getD .non) = .non := it_stay (show itV d d.length ((getD d z).getD .non) = .non from acy_end ly.ok acy z) g
            rw [e1] at hv
            cases hv
        have e9 : d.length - k = (d.length - (k + 1)) + 1 := by omega
        rw [e9] at e
        refine ⟨_, fun σ' H' hN => ⟨d.length - (k + 1), by omega, hN⟩, ?_⟩
        refine ⟨_, rfl, .inl ⟨rfl, _, .inl (.inl l2)⟩, _, rfl, l, _, _, rfl, rfl, l2, by rw [List.length_map, sizeLine_eq]; omega, ?_⟩
        have x3 := x2.over (o := .lst (acc.map V.str ++ [.str g])) hl
        refine ⟨_, rfl, a, CT, dx, fs, _, rfl, x3 _ _ h1, T.cl, T.nl, h3, _, rfl, q, _, rfl, dget_ly ly (x3 _ _ h5) (List.mem_append_left _ hg), ?_⟩
        refine ⟨k + 1, acc ++ [g], _, rfl, kl, rfl, x3, by rw [upd_same, List.map_append]; rfl, by rw [List.length_append]; exact Nat.succ_le_succ al, ?_, ?_⟩
        · rw [it_succ, ← hv]
          rfl
        · rw [List.append_assoc]
          exact e
    · exact .inr (bad.ext xl)
theorem ok_tBelow (Fn : FunD K "below" "Tree.below" (defArgs s_Tree_below) (defBody s_Tree_below) (defScope s_Tree_below) [] [] f fd) (T : TreC K CT) (Z : HouseTxt P w K mg C CB) {fA : Addr} {fdA : FuncData} (tmA : Meth K CT "above" fA) (tA : FnOk P w K mg base (L2.CX P w) 6 fA fdA ["self", "node"] (spTAbove K CT C CN)) (tbA : Binds K fdA ["self", "node"] []) (hmust_be_folder : HasX P w K mg base 4 "must_be_folder" ["house", "thing"] (spMustFolder K C CF)) (gB_tuple : mg "tuple" = none) :
    FnOk P w K mg base (L2.CX P w) 7 f fd ["self", "folder"] (spTBelow K CT C CF) := by
  refine Fn.ok sc_Tree_below (fun vs H Q E h => ?_) (fun cdv A outer s H vs Q E hr h => ⟨_,
    (pss_cons (ps_expr (pe_hasX hmust_be_folder (hr.mono (by decide)) (pa_cons (pe_fld (pv 0) rfl) (pa_cons (pv 1) pa_nil)) (passes_call (takes_of rfl rfl rfl rfl) (fun _ _ _ _ h => h))))
      (pss_one (ps_ret (pe_callTy call_tup (by rfl) gB_tuple (by decide +kernel) (pa_cons (pe_lc (own := [("node", 2)]) (g := (gName 2)) rfl sc_Tree_below.nd (pi_tup (pe_fld (pe_fld (pv 0) rfl) rfl)) (blkOk_by (N := nm_Tree_below) (sc := defScope s_Tree_below) (by decide +kernel)) (fun _ _ _ _ _ => (pg_name (i := 2) sc_Tree_below.nd rfl (Or.inl rfl))) (fun _ _ _ _ _ => pts_one (pt_cmpR (opK (r := fun K => rIn K false) (K := K) rfl op_in_seq) (pv 1) (pe_meth (pv 0) T.cl tmA tA (hr.mono (by decide)) tbA .nil passL (pa_cons (pv 2) pa_nil)) (by rfl))) (fun _ _ _ _ _ => (pv 2))) pa_nil))))), ?_⟩)
  · obtain ⟨a, q, fo, th, d, y, rfl, _⟩ := h
    rfl
  · obtain ⟨a, q, fo, th, d, y, rfl, tr, hh⟩ := h
    obtain ⟨dx, fs, ho, h1, h2, h3, h4, h5, h7b⟩ := id tr
    obtain ⟨ly, acy, len, nd, meth⟩ := h7b
    refine ⟨_, rfl, a, CT, dx, fs, _, rfl, h1, T.cl, T.nh, h2, ?_⟩
    refine ⟨_, rfl, ho, y, fo, th, rfl, h4, ?_⟩
    rcases hh with ⟨g, rfl, hg, q'⟩ | bad
    · refine .inl ⟨g, rfl, hg, ?_⟩
      obtain ⟨⟨dh, hf, fa, ta, na, k1, k2, k3, k4, k5, k6, k7⟩, hok⟩ := id h4
      have e7 : fo.map V.str ++ th.map V.str = (fo ++ th).map V.str := (List.map_append ..).symm
      rw [e7] at k7
      refine ⟨_, rfl, a, CT, dx, fs, _, rfl, h1, T.cl, T.nh, h2, ho, C, dh, hf, _, rfl, k1, Z.T.cl, Z.T.nn, k4, na, rfl, ⟨_, k7⟩, fun D hD => ?_⟩
      refine lc_tup (K := K) (a := na) (xs := (fo ++ th).map V.str) (fun k H' => Ext H H' ∧ H' D = some (.lst ((((fo ++ th).take k).filter fun z => decide (g ∈ abv d z)).map V.str))) ⟨Ext.upd hD, upd_same⟩ (fun k H' _ z => k7.ext z.1) ?_ ?_
      · rintro k v H4 hv ⟨x4, d4⟩
        obtain ⟨z, hz, rfl⟩ := strs_at hv
        have tk : (fo ++ th).take (k + 1) = (fo ++ th).take k ++ [z] := by
          rw [List.take_add_one, hz]
          rfl
        rw [tk]
        refine ⟨rfl, ?_⟩
        refine ⟨_, rfl, _, rfl, a, dx, fs, rfl, x4 _ _ h1, meth _ (by decide), _, rfl, a, q, fo, th, d, _, rfl, tr.ext x4, .inl ⟨z, rfl, List.mem_of_getElem? hz, fun t H5 x5 st => ?_⟩⟩
        refine ⟨t, _, rfl, .inr st, rfl, flat_strs _, _, rfl, ?_⟩
        rw [inV_str]
        have d5 := x5 _ _ d4
        have cc : ∀ {b : Bool}, (if false = true then !b else b) = true → b = true := fun h => h
        refine ite2 (fun c => ?_) fun c => ?_
        · refine ⟨_, rfl, _, d5, ?_, (x4.trans x5).over hD, ?_⟩
          · rw [List.length_map]
            refine Nat.lt_of_le_of_lt (List.length_filter_le _ _) ?_
            rw [List.length_take, sizeLine_eq]
            omega
          · rw [upd_same, List.filter_append, List.filter_cons, if_pos (cc c), List.map_append]
            rfl
        · refine ⟨x4.trans x5, ?_⟩
          rw [d5, List.filter_append, List.filter_cons, if_neg (show ¬ decide (g ∈ abv d z) = true from c), List.filter_nil, List.append_nil]
      · rintro H5 ⟨x5, d5⟩
        rw [List.length_map, List.take_length] at d5
        exact ⟨_, _, rfl, .inl (SqL.of d5), fun t H6 x6 st => q' t H6 (x5.trans x6) st⟩
    · exact .inr bad
theorem ok_tLies (Fn : FunD K "lies" "Tree.lies" (defArgs s_Tree_lies) (defBody s_Tree_lies) (defScope s_Tree_lies) [] [] f fd) (T : TreC K CT) {fA : Addr} {fdA : FuncData} (tmA : Meth K CT "above" fA) (tA : FnOk P w K mg base (L2.CX P w) 6 fA fdA ["self", "node"] (spTAbove K CT C CN)) (tbA : Binds K fdA ["self", "node"] []) (hmust_be_folder : HasX P w K mg base 4 "must_be_folder" ["house", "thing"] (spMustFolder K C CF)) :
    FnOk P w K mg base (L2.CX P w) 7 f fd ["self", "node", "folder"] (spTLies K CT C CN CF) := by
  refine Fn.ok sc_Tree_lies (fun vs H Q E h => ?_) (fun cdv A outer s H vs Q E hr h => ⟨_,
    (pss_cons (ps_set (i := 3) sc_Tree_lies.nd rfl (Or.inl rfl) (pe_meth (pv 0) T.cl tmA tA (hr.mono (by decide)) tbA .nil (passes_call (takes_of rfl rfl rfl rfl) (fun _ _ _ _ h => h)) (pa_cons (pv 1) pa_nil)))
      (pss_cons (ps_expr (pe_hasX hmust_be_folder (hr.mono (by decide)) (pa_cons (pe_fld (pv 0) rfl) (pa_cons (pv 2) pa_nil)) (passes_call (takes_of rfl rfl rfl rfl) (fun _ _ _ _ h => h))))
      (pss_one (ps_ret (pe_cmpR op_in_seq (pv 2) (pv 3) (by rfl)))))), ?_⟩)
  · obtain ⟨a, q, fo, th, d, x, y, rfl, _⟩ := h
    rfl
  · obtain ⟨a, q, fo, th, d, x, y, rfl, tr, hh⟩ := h
    obtain ⟨dx, fs, ho, h1, h2, h3, h4, h5, h7b⟩ := id tr
    obtain ⟨ly, acy, len, nd, meth⟩ := h7b
    refine ⟨_, rfl, a, dx, fs, rfl, h1, meth _ (by decide), _, rfl, a, q, fo, th, d, x, rfl, tr, ?_⟩
    rcases hh with bad | ⟨z, rfl, hz, hh⟩
    · exact .inr bad
    refine .inl ⟨z, rfl, hz, fun t H1 x1 st => ?_⟩
    refine ⟨_, rfl, a, CT, dx, fs, _, rfl, x1 _ _ h1, T.cl, T.nh, h2, ?_⟩
    refine ⟨_, rfl, ho, y, fo, th, rfl, h4.ext x1, ?_⟩
    rcases hh with ⟨g, rfl, hg, q'⟩ | bad
    · refine .inl ⟨g, rfl, hg, ?_⟩
      refine ⟨_, rfl, _, rfl, t, _, rfl, .inr st, rfl, flat_strs _, ?_⟩
      show Q (.bl (inV _ _)) _
      rw [inV_str]
      exact q' H1 x1
    · exact .inr (bad.ext x1)
end
end My

namespace My
open PySem PySem.Spec PyProof.Rows L2
/-! ### a tree moved, trees compared -/
/-- what lies over the nodes of ns but z -/
def mvN (d : Dic) (z : Str) (ns : List Str) : Dic := (ns.filter fun w => !decide (w = z) && !decide ((getD d w).getD .non = .non)).map fun w => (w, (getD d w).getD .non)
theorem mvN_keys (d : Dic) (z : Str) (ns : List Str) : (mvN d z ns).map (·.1) = ns.filter fun w => !decide (w = z) && !decide ((getD d w).getD .non = .non) := by
  unfold mvN
  rw [List.map_map]
  conv => rhs; rw [← List.map_id (ns.filter _)]
  rfl
theorem mvN_key {d : Dic} {z w : Str} {ns : List Str} (h : w ∈ (mvN d z ns).map (·.1)) : w ∈ ns ∧ w ≠ z ∧ (getD d w).getD .non ≠ .non := by
  rw [mvN_keys] at h
  obtain ⟨h1, h2⟩ := List.mem_filter.mp h
  refine ⟨h1, fun e => ?_, fun e => ?_⟩
  · rw [decide_eq_true e] at h2
    cases h2
  · rw [decide_eq_true e] at h2
    simp at h2
theorem mvN_snoc (d : Dic) (z w : Str) (ns : List Str) : mvN d z (ns ++ [w]) = mvN d z ns ++ if (!decide (w = z) && !decide ((getD d w).getD .non = .non)) = true then [(w, (getD d w).getD .non)] else [] := by
  unfold mvN
  rw [List.filter_append, List.map_append]
  by_cases c : (!decide (w = z) && !decide ((getD d w).getD .non = .non)) = true
  · rw [List.filter_cons, if_pos c, if_pos c]
    rfl
  · rw [List.filter_cons, if_neg c, if_neg c]
    rfl
theorem getD_none {d : Dic} {z : Str} (h : z ∉ d.map (·.1)) : getD d z = none := by
  induction d with
  | nil => rfl
  | cons p d ih =>
    rw [List.map_cons] at h
    rw [getD_cons, if_neg fun e => h (by rw [← e]; exact List.mem_cons_self)]
    exact ih fun m => h (List.mem_cons_of_mem _ m)
theorem getD_app (d e : Dic) (z : Str) : getD (d ++ e) z = (getD d z).or (getD e z) := by
  unfold getD
  rw [List.find?_append, Option.map_or]
theorem getD_mv {d : Dic} {z w : Str} : ∀ {ns : List Str}, w ∈ ns → w ≠ z → (getD (mvN d z ns) w).getD .non = (getD d w).getD .non
  | y :: ns, h, ne => by
    have e : mvN d z (y :: ns) = (if (!decide (y = z) && !decide ((getD d y).getD .non = .non)) = true then [(y, (getD d y).getD .non)] else []) ++ mvN d z ns := by
      unfold mvN
      rw [List.filter_cons]
      split <;> rfl
    rw [e, getD_app]
    by_cases c : y = w
    · subst c
      by_cases c2 : (getD d y).getD .non = .non
      · rw [if_neg (by rw [decide_eq_true c2]; simp)]
        rw [getD_none (fun m => (mvN_key m).2.2 c2), c2]
        rfl
      · rw [if_pos (by rw [decide_eq_false c2, decide_eq_false ne]; rfl), getD_cons, if_pos rfl]
        rfl
    · have hw : w ∈ ns := (List.mem_cons.mp h).resolve_left fun e => c e.symm
      have : getD (if (!decide (y = z) && !decide ((getD d y).getD .non = .non)) = true then [(y, (getD d y).getD .non)] else []) w = none := by
        split
        · rw [getD_cons, if_neg c]
          rfl
        · rfl
      rw [this]
      exact getD_mv hw ne
/-- the moved tree, by its table -/
theorem ly_mv {fo th : List Str} {d : Dic} {z : Str} {v : V} (ly : LyD fo th d) (nd : (fo ++ th).Nodup) (hz : z ∈ fo ++ th) (o : Dic) (ho : (v = .non ∧ o = mvN d z (fo ++ th)) ∨ o = mvN d z (fo ++ th) ++ [(z, v)]) : lyD (fo ++ th) o = setD d z v := by
  refine dic_ext ?_ ?_ fun w hw => ?_
  · rw [ly_keys, set_keys (by rw [ly.keys]; exact hz), ly.keys]
  · rw [ly_keys]
    exact nd
  · rw [ly_keys] at hw
    rw [ly_get hw, getD_set]
    have nz : z ∉ (mvN d z (fo ++ th)).map (·.1) := fun m => (mvN_key m).2.1 rfl
    by_cases c : w = z
    · subst c
      rw [if_pos rfl]
      rcases ho with ⟨rfl, rfl⟩ | rfl
      · rw [getD_none nz]
        rfl
      · rw [getD_app, getD_none nz, getD_cons, if_pos rfl]
        rfl
    · rw [if_neg c]
      obtain ⟨x, hx⟩ := getD_some (d := d) (z := w) (by rw [ly.keys]; exact hw)
      have e : (getD (mvN d z (fo ++ th)) w).getD .non = x := by
        rw [getD_mv hw c, hx]
        rfl
      rw [hx]
      rcases ho with ⟨_, rfl⟩ | rfl
      · rw [e]
      · rw [getD_app, getD_cons, if_neg fun e => c e.symm]
        show some (((getD (mvN d z (fo ++ th)) w).or none).getD .non) = _
        rw [Option.or_none, e]
theorem mv_vals {fo : List Str} {d : Dic} {z : Str} {ns : List Str} (ok : DicOk fo d) {v : V} (h : v ∈ (mvN d z ns).map (·.2)) : ∃ s, v = .str s ∧ s ∈ fo := by
  obtain ⟨p, hp, rfl⟩ := List.mem_map.mp h
  have k := mvN_key (d := d) (z := z) (ns := ns) (List.mem_map.mpr ⟨p, hp, rfl⟩)
  unfold mvN at hp
  obtain ⟨w, _, rfl⟩ := List.mem_map.mp hp
  rcases getD_opt ok w with e | ⟨s, hs, e⟩
  · exact absurd e k.2.2
  · exact ⟨s, e, hs⟩
def spTMoved (K : PySem.W.Frag) (CT C CN CF CR : Addr) : Sp := fun vs H Q E => ∃ a q fo th d x y, vs = [.ref a, x, y] ∧ TreeAt H K CT C a q fo th d ∧ (BadN K (fo ++ th) x "node" CN H E ∨ ∃ z, x = .str z ∧ z ∈ fo ++ th ∧
  ((y ≠ .non ∧ BadN K fo y "folder" CF H E) ∨ (Opt fo y ∧ (Acy (setD d z y) → ∀ t q' H', Ext H H' → H t = none → H q' = none → TreeAt H' K CT C t q' fo th (setD d z y) → Q (.ref t) H') ∧
    ∀ d' t way H', Ext H H' → H d' = none → SqT K H' t (way.map V.str) → H' d' = some (.xd [("folders", .ref t)]) → RingOk fo (setD d z y) way → E (.ref CR) (some d') H')))
end My

namespace L2
open PySem PySem.Spec PyProof.Rows
/-! two dicts with flat values compared, whatever comes of it -/
def eqDV (ks ls : List (Key × V)) : Bool := (ks.length == ls.length) && ks.all fun p => match valV ls p.1 with
  | none => false
  | some v => eqV p.2 v
theorem hits_any {A : Around} {s : Shared} {kvs : List (Key × V)} {vb : List (Key × Value)} (rb : KV kvs vb) {ks : List (Key × V)} {va : List (Key × Value)} (ra : KV ks va) :
    (∀ p ∈ ks, flatV p.2 = true) → (∀ k v, valV kvs k = some v → flatV v = true) → PySem.W.KeqHits A s vb va (ks.all fun p => match valV kvs p.1 with
      | none => false
      | some v => eqV p.2 v) := by
  unfold KV at ra
  induction ra with
  | nil => intro _ _; exact .nil
  | @cons p q ps qs h t ih =>
    intro hp hl
    obtain ⟨h1, h2⟩ := h
    have f := hp p List.mem_cons_self
    have rr : RelO (valV kvs p.1) (valueAt vb p.1) := rb.val p.1
    obtain ⟨k, v⟩ := q
    have h1' : p.1 = k := h1
    rw [List.all_cons]
    cases e : valV kvs p.1 with
    | none =>
      rw [e] at rr
      refine .miss ?_
      rw [← h1']
      cases c : valueAt vb p.1 with
      | none => rfl
      | some y => rw [c] at rr; exact rr.elim
    | some v' =>
      rw [e] at rr
      obtain ⟨y, hy, ry⟩ := rr.some_of
      rw [h1'] at hy
      exact .hit hy (eqAt_V h2 ry f (hl _ _ e)) (ih (fun p' hm => hp p' (List.mem_cons_of_mem _ hm)) hl)
section
variable {X : Cx}
def rEqDF : R2 := fun x y H Q => ∃ a b ks ls, x = .ref a ∧ y = .ref b ∧ H a = some (.dK ks) ∧ H b = some (.dK ls) ∧ (∀ p ∈ ks, flatV p.2 = true) ∧ (∀ k v, valV ls k = some v → flatV v = true) ∧ Q (.bl (eqDV ks ls)) H
def rNeDF : R2 := fun x y H Q => ∃ a b ks ls, x = .ref a ∧ y = .ref b ∧ H a = some (.dK ks) ∧ H b = some (.dK ls) ∧ (∀ p ∈ ks, flatV p.2 = true) ∧ (∀ k v, valV ls k = some v → flatV v = true) ∧ Q (.bl (!eqDV ks ls)) H
theorem op_eq_dictF (hu : X.A.units < cLine) : OpR X (compareOp .Eq) rEqDF := by
  intro pins s σ H x y v u Q I rx ry h
  obtain ⟨a, b, ks, ls, rfl, rfl, ea, eb, f1, f2, q⟩ := h
  obtain rfl : v = Value.ref a := rx
  obtain rfl : u = Value.ref b := ry
  obtain ⟨_, ya, va, ra, da⟩ := (show ObjOk X.prog X.w H s.heap a (.dK ks) from I.hok a _ ea)
  obtain ⟨_, yb, vb, rb, db⟩ := (show ObjOk X.prog X.w H s.heap b (.dK ls) from I.hok b _ eb)
  refine PySem.W.keq_eq (knd := mixKind X.prog X.w) (r := _) ya yb da db hu (fun _ => hits_any rb ra f1 f2) (fin_bl I q ?_)
  unfold eqDV
  rw [ra.length, rb.length]
theorem op_ne_dictF (hu : X.A.units < cLine) : OpR X (compareOp .NotEq) rNeDF := by
  intro pins s σ H x y v u Q I rx ry h
  obtain ⟨a, b, ks, ls, rfl, rfl, ea, eb, f1, f2, q⟩ := h
  obtain rfl : v = Value.ref a := rx
  obtain rfl : u = Value.ref b := ry
  obtain ⟨_, ya, va, ra, da⟩ := (show ObjOk X.prog X.w H s.heap a (.dK ks) from I.hok a _ ea)
  obtain ⟨_, yb, vb, rb, db⟩ := (show ObjOk X.prog X.w H s.heap b (.dK ls) from I.hok b _ eb)
  refine PySem.W.keq_ne (knd := mixKind X.prog X.w) (r := _) ya yb da db hu (fun _ => hits_any rb ra f1 f2) (fin_bl I q ?_)
  unfold eqDV
  rw [ra.length, rb.length]
end
end L2

namespace My
open PySem PySem.Spec PyProof.Rows L2
/-! ### trees compared -/
theorem eqV_ns {fo fo2 : List Str} {x y : V} (hx : Opt fo x) (hy : Opt fo2 y) : eqV x y = decide (x = y) := by
  rcases hx with rfl | ⟨z, _, rfl⟩ <;> rcases hy with rfl | ⟨u, _, rfl⟩
  · rfl
  · rfl
  · rfl
  · by_cases e : z = u
    · rw [e, decide_eq_true rfl]
      exact beq_self_eq_true u
    · rw [decide_eq_false fun h => e (by injection h)]
      exact Bool.eq_false_iff.mpr fun h => e (eq_of_beq h)
theorem getD_at {d : Dic} (nd : (d.map (·.1)).Nodup) {p : Str × V} (h : p ∈ d) : getD d p.1 = some p.2 := by
  induction d with
  | nil => cases h
  | cons q d ih =>
    rw [List.map_cons] at nd
    obtain ⟨n1, n2⟩ := List.nodup_cons.mp nd
    rw [getD_cons]
    rcases List.mem_cons.mp h with rfl | h
    · exact if_pos rfl
    · rw [if_neg fun e => n1 (by rw [e]; exact List.mem_map.mpr ⟨p, h, rfl⟩)]
      exact ih n2 h
theorem eqDV_kd {fo th : List Str} {d e : Dic} (h1 : LyD fo th d) (h2 : LyD fo th e) (nd : (fo ++ th).Nodup) : eqDV (kd d) (kd e) = decide (d = e) := by
  have kk : d.map (·.1) = e.map (·.1) := by rw [h1.keys, h2.keys]
  have ll : (kd d).length = (kd e).length := by rw [kd_len, kd_len, ← List.length_map (f := (·.1)) (as := d), ← List.length_map (f := (·.1)) (as := e), kk]
  have nd1 : (d.map (·.1)).Nodup := by rw [h1.keys]; exact nd
  have nd2 : (e.map (·.1)).Nodup := by rw [h2.keys]; exact nd
  unfold eqDV
  rw [ll, beq_self_eq_true, Bool.true_and]
  by_cases c : d = e
  · rw [decide_eq_true c]
    subst c
    refine List.all_eq_true.mpr fun p hp => ?_
    unfold kd at hp
    obtain ⟨q, hq, rfl⟩ := List.mem_map.mp hp
    show (match valV (kd d) (Sum.inr q.1) with
      | none => false
      | some v => eqV q.2 v) = true
    rw [val_kd, getD_at nd1 hq]
    show eqV q.2 q.2 = true
    have o : Opt fo q.2 := h1.ok q hq
    rw [eqV_ns o o, decide_eq_true rfl]
  · rw [decide_eq_false c]
    refine Bool.eq_false_iff.mpr fun a => c (dic_ext kk nd1 fun z hz => ?_)
    obtain ⟨q, hq, rfl⟩ := List.mem_map.mp hz
    have := List.all_eq_true.mp a (Sum.inr q.1, q.2) (List.mem_map.mpr ⟨q, hq, rfl⟩)
    have this : (match valV (kd e) (Sum.inr q.1) with
      | none => false
      | some v => eqV q.2 v) = true := this
    rw [val_kd] at this
    rw [getD_at nd1 hq]
    cases g : getD e q.1 with
    | none => rw [g] at this; cases this
    | some v =>
      rw [g] at this
      have this : eqV q.2 v = true := this
      obtain ⟨r, hr, rfl⟩ := getD_mem g
      rw [eqV_ns (h1.ok q hq) (h2.ok r hr)] at this
      rw [of_decide_eq_true this]
def spTEq (K : PySem.W.Frag) (CT C : Addr) : Sp := fun vs H Q _ => ∃ a q fo th d y, vs = [.ref a, y] ∧ TreeAt H K CT C a q fo th d ∧ ((∃ t, TyX K H y t ∧ PySem.W.kitOne K t (.ref CT) = some false ∧ Q (.bl false) H) ∨
  ∃ b q2 fo2 th2 d2, y = .ref b ∧ TreeAt H K CT C b q2 fo2 th2 d2 ∧ ∀ H', Ext H H' → Q (.bl (decide (fo = fo2) && (decide (th = th2) && decide (d = d2)))) H')
abbrev nm_Tree_eq : List Str := ["self", "other"]
theorem sc_Tree_eq : FnScope nm_Tree_eq ["self", "other"] (defScope s_Tree_eq) := ⟨rfl, rfl, rfl, by decide +kernel, rfl, by decide +kernel, by decide +kernel⟩
section
variable {P : Program} {w : World} {K : PySem.W.Frag} {mg : Str → Option Value} {base : Heap} {f C CT CN CF CR CB : Addr} {fd : FuncData}
theorem ok_tEq (Fn : FunD K "__eq__" "Tree.__eq__" (defArgs s_Tree_eq) (defBody s_Tree_eq) (defScope s_Tree_eq) [] [] f fd) (T : TreC K CT) (Z : HouseTxt P w K mg C CB) (gB_isinstance : mg "isinstance" = none) (gT : mg "Tree" = some (.ref CT)) (kT : PySem.W.kitOne K (.ref CT) (.ref CT) = some true) :
    FnOk P w K mg base CX0 2 f fd ["self", "other"] (spTEq K CT C) := by
  refine Fn.ok sc_Tree_eq (fun vs H Q E h => ?_) (fun cdv A outer s H vs Q E hr h => ⟨_, PSs.nox
    (pss_one (ps_ret (pe_and (pe_callB call_isi (by rfl) gB_isinstance boot_isinstance (pa_cons (pv 1) (pa_cons (pe_glob (v := .ref CT) (by rfl) gT rfl) pa_nil))) (pe_and (pe_cmpR (op_eqO (EI := E0) (hr.mono (by decide)) Z.mE (Z.E _) Z.bE pass0) (pe_fld (pv 0) rfl) (pe_fld (pv 1) rfl) (nomark _)) (pe_one (pe_cmpR (op_eq_dictF hr.units0) (pe_fld (pv 0) rfl) (pe_fld (pv 1) rfl) (nomark _))))))), ?_⟩)
  · obtain ⟨a, q, fo, th, d, y, rfl, _⟩ := h
    rfl
  · obtain ⟨a, q, fo, th, d, y, rfl, tr, hh⟩ := h
    obtain ⟨dx, fs, h, h1, h2, h3, h4, h5, ly, acy, len, nd, meth⟩ := id tr
    rcases hh with ⟨t, ty, kt, q'⟩ | ⟨b, q2, fo2, th2, d2, rfl, tr2, q'⟩
    · exact ⟨_, rfl, y, .ref CT, t, .ref CT, false, rfl, .own CT, ty, kt, false, rfl, q'⟩
    · refine ⟨_, rfl, .ref b, .ref CT, .ref CT, .ref CT, true, rfl, .own CT, tyT T tr2, kT, true, rfl, ?_⟩
      refine iteT ?_
      obtain ⟨dx', fs', h', g1, g2, g3, g4, g5, ly2, acy2, len2, nd2, meth2⟩ := id tr2
      obtain ⟨hx, hfs, hins⟩ := h4.ins
      refine ⟨_, rfl, a, CT, dx, fs, _, rfl, h1, T.cl, T.nh, h2, _, rfl, b, CT, dx', fs', _, rfl, g1, T.cl, T.nh, g2, h, hx, hfs, .ref C, rfl, hins, tyH Z.T g4, by simp [PySem.W.notFirst], h, fo, th, _, rfl, h4, .inr ⟨h', fo2, th2, rfl, g4, _, rfl, _, rfl, ?_⟩⟩
      refine ite2 (fun e => ?_) fun e => ?_
      · obtain ⟨e1, e2⟩ := Bool.and_eq_true_iff.mp e
        have e1' := of_decide_eq_true e1
        have e2' := of_decide_eq_true e2
        subst e1' e2'
        refine ⟨_, rfl, a, CT, dx, fs, _, rfl, h1, T.cl, T.nl, h3, _, rfl, b, CT, dx', fs', _, rfl, g1, T.cl, T.nl, g3, q, q2, kd d, kd d2, rfl, rfl, h5, g5, ?_, ?_, ?_⟩
        · intro p hp
          unfold kd at hp
          obtain ⟨r, hr, rfl⟩ := List.mem_map.mp hp
          show flatV r.2 = true
          rcases ly.ok r hr with e | ⟨z, _, e⟩ <;> rw [e] <;> rfl
        · intro k v hv
          unfold valV at hv
          cases c : (kd d2).find? fun kv => decide (kv.1 = k) with
          | none => rw [c] at hv; cases hv
          | some p =>
            rw [c] at hv
            cases hv
            have hp := List.mem_of_find?_eq_some c
            unfold kd at hp
            obtain ⟨r, hr, rfl⟩ := List.mem_map.mp hp
            show flatV r.2 = true
            rcases ly2.ok r hr with e | ⟨z, _, e⟩ <;> rw [e] <;> rfl
        rw [eqDV_kd ly ly2 nd]
        have z := q' H Ext.rfl'
        rw [e1, e2, Bool.true_and, Bool.true_and] at z
        exact z
      · have z := q' H Ext.rfl'
        have e3 : (decide (fo = fo2) && decide (th = th2)) = false := by
          cases hh : (decide (fo = fo2) && decide (th = th2)) with
          | false => rfl
          | true => exact absurd hh e
        rw [← Bool.and_assoc, e3, Bool.false_and] at z
        exact z
end
end My

namespace My
open PySem PySem.Spec PyProof.Rows L2
/-! ### a drawn tree -/
def spTreeD (K : PySem.W.Frag) : Sp := fun vs H Q _ => ∃ (p lf lt : Addr) (fo th : List Str) (n : Int), vs = [.ref p, .ref lf, .ref lt] ∧ Pool H p n ∧ n < 900000 ∧ H lf = some (.lst (fo.map V.str)) ∧ H lt = some (.lst (th.map V.str)) ∧ lf ≠ p ∧ lt ≠ p ∧ (fo ++ th).Nodup ∧ (fo ++ th).length ≤ 7 ∧
  ∀ u d H', But H H' p → Pool H' p (n + 7) → H u = none → H' u = some (.dK (kd d)) → LyD fo th d → Acy d → Q (.ref u) H'
def okV (d : Dic) (z : Str) (v : V) : Bool := match v with
  | .str g => !grB d z g
  | _ => true
abbrev nm__law_tree : List Str := ["_law_pool_here", "_law_folders", "_law_things", "_law_ups", "_law_node", "_law_some", "_law_folder"]
theorem sc__law_tree : FnScope nm__law_tree ["_law_pool_here", "_law_folders", "_law_things"] (defScope s__law_tree) := ⟨rfl, rfl, rfl, by decide +kernel, rfl, by decide +kernel, by decide +kernel⟩
section
variable {P : Program} {w : World} {K : PySem.W.Frag} {mg : Str → Option Value} {base : Heap} {f C CB CF : Addr} {fd : FuncData}
theorem ok_tree (Fn : FnP K "_law_tree" s__law_tree f fd) (h_law_take : Has P w K mg base 1 "_law_take" ["_law_pool_here", "_law_many"] spTake) (h_law_goes_round : Has P w K mg base 1 "_law_goes_round" ["_law_ups", "_law_node", "_law_folder"] (spGoes K)) (gB_len : mg "len" = none) : FnOk P w K mg base CX0 2 f fd ["_law_pool_here", "_law_folders", "_law_things"] (spTreeD K) := by
  refine Fn.ok sc__law_tree (fun vs H Q E h => ?_) (fun cdv A outer s H vs Q E hr h => ⟨_, PSs.nox
    (pss_cons (ps_set (i := 3) sc__law_tree.nd rfl (Or.inr rfl) pe_dnewK)
      (pss_cons (ps_for PassesOwn.never rfl (pi_list (pe_op L2.op_cat (pv 1) (pv 2))) (pg_name (i := 4) sc__law_tree.nd rfl (Or.inr rfl))
      (pss_cons (ps_setLc (i := 5) (own := [("_law_folder", 6)]) (g := (gName 6)) rfl sc__law_tree.nd rfl rfl (sw_true rfl rfl rfl (by decide +kernel)) (pi_list (pe_op L2.op_cat (pe_lst (pa_cons pe_non pa_nil)) (pv 1))) (blkOk_by (N := nm__law_tree) (sc := defScope s__law_tree) (by decide +kernel)) (fun _ _ _ _ _ => (pg_name (i := 6) sc__law_tree.nd rfl (Or.inl rfl))) (fun _ _ _ _ _ => pts_one (PW.pt (pw_or (pt_cmpR op_isN (pv 6) pe_non (nomark _)) (pw_or1 (pt_not (pt_val (pe_has h_law_goes_round (hr.mono (by decide)) (pa_cons (pv 3) (pa_cons (pv 4) (pa_cons (pv 6) pa_nil)))))))))) (fun _ _ _ _ _ => (pv 6)))
      (pss_one (ps_dput (hu_of hr) (pv 3) (pv 4) (pe_ix ix_list (pv 5) (pe_has h_law_take (hr.mono (by decide)) (pa_cons (pv 0) (pa_cons (pe_callB call_len (by rfl) gB_len boot_len (pa_cons (pv 5) pa_nil)) pa_nil))) (fun _ _ => rfl)) rfl))))
      (pss_one (ps_ret (pv 3))))), ?_⟩)
  · obtain ⟨p, lf, lt, fo, th, n, rfl, _⟩ := h
    rfl
  · obtain ⟨p, lf, lt, fo, th, n, rfl, hp, hn, hf, ht, nfp, ntp, nd, n7, q⟩ := h
    have lm : ∀ zs : List Str, (zs.map V.str).length = zs.length := fun zs => List.length_map _
    have fle : fo.length ≤ 7 := by
      rw [List.length_append] at n7
      omega
    refine fun u hu => ?_
    obtain ⟨H1, hH1⟩ : ∃ H1, H1 = L2.upd H u (.dK []) := ⟨_, rfl⟩
    rw [← hH1]
    have x1 : Ext H H1 := by
      rw [hH1]
      exact Ext.upd hu
    have u1 : H1 u = some (.dK (kd [])) := by rw [hH1, upd_same]; rfl
    have nup : u ≠ p := fun e => by
      obtain ⟨_, _, _, h, _⟩ := hp
      rw [← e, hu] at h
      cases h
    refine ⟨_, rfl, _, rfl, lf, lt, _, _, rfl, rfl, x1 _ _ hf, x1 _ _ ht, by rw [lm, lm, sizeLine_eq, ← List.length_append]; omega, fun ln hln => ?_⟩
    obtain ⟨H2, hH2⟩ : ∃ H2, H2 = L2.upd H1 ln (.lst (fo.map V.str ++ th.map V.str)) := ⟨_, rfl⟩
    rw [← hH2]
    have x2 : Ext H1 H2 := by
      rw [hH2]
      exact Ext.upd hln
    have n2 : H2 ln = some (.lst ((fo ++ th).map V.str)) := by rw [hH2, upd_same, List.map_append]
    have nln : ln ≠ p := pool_ne (pool_ext hp x1) hln
    have nlu : ln ≠ u := fun e => by
      rw [e, u1] at hln
      cases hln
    refine ⟨ln, rfl, ⟨_, SqL.of n2⟩, for_list (K := K) (a := ln) (xs := (fo ++ th).map V.str) (fun i σ H' => (∃ v4 v5 v6, σ = [some (.ref p), some (.ref lf), some (.ref lt), some (.ref u), v4, v5, v6]) ∧ But H H' p ∧ Pool H' p (n + i) ∧ H' ln = some (.lst ((fo ++ th).map V.str)) ∧ ∃ d, H' u = some (.dK (kd d)) ∧ d.map (·.1) = (fo ++ th).take i ∧ DicOk fo d ∧ Acy d) ?_ (fun i σ H' _ z => SqL.of z.2.2.2.1) ?_ ?_⟩
    · refine ⟨⟨_, _, _, rfl⟩, ext_but (x1.trans x2), by simpa using pool_ext hp (x1.trans x2), n2, [], x2 _ _ u1, rfl, (fun p hp => nomatch hp : DicOk fo []), (fun z => ⟨1, rfl⟩ : Acy [])⟩
    · rintro i v σ H3 hv ⟨⟨v4, v5, v6, rfl⟩, b3, p3, n3, d, u3, dk, ok, acy⟩
      obtain ⟨z, hz, rfl⟩ := strs_at hv
      have zi : i < (fo ++ th).length := (List.getElem?_eq_some_iff.mp hz).1
      have f3 := b3 _ _ nfp hf
      have dl : d.length ≤ 7 := by
        rw [← List.length_map (f := (·.1)), dk, List.length_take]
        omega
      refine ⟨Nat.le_of_ble_eq_true rfl, fun l0 hl0 => ?_⟩
      have x30 := Ext.upd (o := .lst [V.non]) hl0
      refine ⟨_, rfl, l0, lf, _, _, rfl, rfl, upd_same, x30 _ _ f3, by rw [lm, sizeLine_eq]; show 1 + fo.length ≤ _; omega, fun lc hlc => ?_⟩
      obtain ⟨H4, hH4⟩ : ∃ H4, H4 = L2.upd (L2.upd H3 l0 (.lst [V.non])) lc (.lst (V.non :: fo.map V.str)) := ⟨_, rfl⟩
      have x4 : Ext H3 H4 := by
        rw [hH4]
        exact x30.trans (Ext.upd hlc)
      have c4 : H4 lc = some (.lst (V.non :: fo.map V.str)) := by rw [hH4, upd_same]
      have e4 : H4 = L2.upd (L2.upd H3 l0 (.lst [V.non])) lc (.lst ([V.non] ++ fo.map V.str)) := hH4
      rw [← e4]
      refine ⟨lc, rfl, ⟨_, SqL.of c4⟩, fun D hD => ?_⟩
      have u4 := x4 _ _ u3
      obtain ⟨xs, hxs⟩ : ∃ xs, xs = V.non :: fo.map V.str := ⟨_, rfl⟩
      rw [← hxs] at c4
      have xl : xs.length ≤ 8 := by rw [hxs, List.length_cons, lm]; omega
      refine lc_list (K := K) (a := lc) (xs := xs) (fun k H' => Ext H4 H' ∧ H' D = some (.lst ((xs.take k).filter (okV d z)))) ⟨Ext.upd hD, upd_same⟩ (fun k H' _ w => SqL.of (w.1 _ _ c4)) ?_ ?_
      · rintro k v H5 hv ⟨x5, d5⟩
        have kl := (List.getElem?_eq_some_iff.mp hv).1
        have tk : xs.take (k + 1) = xs.take k ++ [v] := by
          rw [List.take_add_one, hv]
          rfl
        rw [tk]
        have put : ∀ {H6 : Hp}, H6 = H5 → okV d z v = true → ∃ acc, H6 D = some (.lst acc) ∧ acc.length < sizeLine ∧ Ext H4 (L2.upd H6 D (.lst (acc ++ [v]))) ∧ L2.upd H6 D (.lst (acc ++ [v])) D = some (.lst ((xs.take k ++ [v]).filter (okV d z))) := fun e o => by
          subst e
          refine ⟨_, d5, ?_, x5.over hD, ?_⟩
          · refine Nat.lt_of_le_of_lt (List.length_filter_le _ _) ?_
            rw [List.length_take, sizeLine_eq]
            omega
          · rw [upd_same, List.filter_append, List.filter_cons, if_pos o]
            rfl
        have skip : okV d z v = false → Ext H4 H5 ∧ H5 D = some (.lst ((xs.take k ++ [v]).filter (okV d z))) := fun o => ⟨x5, by rw [d5, List.filter_append, List.filter_cons, if_neg (by rw [o]; exact Bool.false_ne_true), List.filter_nil, List.append_nil]⟩
        refine ⟨rfl, _, rfl, rfl, _, rfl, ?_⟩
        cases v with
        | non => 
          refine iteT ?_
          exact ⟨_, rfl, put rfl rfl⟩
        | str g =>
          refine iteF ?_
          have hg : g ∈ fo := by
            have := List.mem_of_getElem? hv
            rw [hxs] at this
            rcases List.mem_cons.mp this with e | h
            · cases e
            · obtain ⟨y, hy, e⟩ := List.mem_map.mp h
              cases e
              exact hy
          refine ⟨_, rfl, _, rfl, _, rfl, u, d, fo, z, g, rfl, x5 _ _ u4, ok, hg, by omega, _, rfl, ?_⟩
          refine ite2 (fun c => ?_) fun c => ?_
          · exact ⟨_, rfl, put rfl c⟩
          · exact skip (Bool.eq_false_iff.mpr c)
        | _ =>
          have := List.mem_of_getElem? hv
          rw [hxs] at this
          rcases List.mem_cons.mp this with e | h
          · cases e
          · obtain ⟨y, hy, e⟩ := List.mem_map.mp h
            cases e
      rintro H5 ⟨x5, d5⟩
      rw [List.take_length] at d5
      obtain ⟨sel, hsel⟩ : ∃ sel, sel = xs.filter (okV d z) := ⟨_, rfl⟩
      rw [← hsel] at d5
      have sl : sel.length ≤ 8 := by
        rw [hsel]
        exact Nat.le_trans (List.length_filter_le _ _) xl
      have s0 : 1 ≤ sel.length := by
        rw [hsel, hxs, List.filter_cons, if_pos (show okV d z .non = true from rfl), List.length_cons]
        omega
      have x35 := x4.trans x5
      have D3 : H3 D = none := ext_none x4 hD
      have nDp : D ≠ p := pool_ne p3 D3
      have p5 := pool_ext p3 x35
      refine ⟨_, rfl, _, rfl, _, rfl, _, _, rfl, .inl ⟨_, SqL.of d5, rfl⟩, p, _, n + (i : Int), rfl, by omega, by omega, p5, by omega, fun r1 o1 r10 r11 gp => ?_⟩
      obtain ⟨r1, rfl⟩ := Int.eq_ofNat_of_zero_le r10
      have r1' : r1 < sel.length := by omega
      obtain ⟨H6, hH6⟩ : ∃ H6, H6 = L2.upd H5 p o1 := ⟨_, rfl⟩
      rw [← hH6] at gp ⊢
      have b6 : But H5 H6 p := by
        rw [hH6]
        exact But.upd (ext_but Ext.rfl')
      have d6 := b6 _ _ nDp d5
      refine ⟨D, _, _, sel[r1], rfl, rfl, SqL.of d6, atI_nat (List.getElem?_eq_getElem r1'), ?_⟩
      obtain ⟨v, hv⟩ : ∃ v, v = sel[r1] := ⟨_, rfl⟩
      rw [← hv]
      have mv : v ∈ sel := by rw [hv]; exact List.getElem_mem r1'
      rw [hsel] at mv
      obtain ⟨mv, okv⟩ := List.mem_filter.mp mv
      have ov : Opt fo v := by
        rw [hxs] at mv
        rcases List.mem_cons.mp mv with e | h
        · exact .inl e
        · obtain ⟨y, hy, e⟩ := List.mem_map.mp h
          exact .inr ⟨y, hy, e.symm⟩
      have u6 := b6 _ _ nup (x35 _ _ u3)
      have nz : z ∉ d.map (·.1) := fun m => by
        rw [dk] at m
        obtain ⟨j, hj⟩ := List.mem_iff_getElem?.mp m
        have jl := (List.getElem?_eq_some_iff.mp hj).1
        rw [List.length_take] at jl
        rw [List.getElem?_take_of_lt (by omega)] at hj
        have := (List.getElem?_inj (by omega) nd).mp (hj.trans hz.symm)
        omega
      refine ⟨_, rfl, _, rfl, u, _, rfl, .inl ⟨_, Sum.inr z, u6, rfl, by rw [kd_len, sizeLine_eq]; omega, rfl⟩, ?_⟩
      refine ⟨⟨_, _, _, rfl⟩, fun b w nb hb => ?_, pool_upd (by rw [show n + ((i + 1 : Nat) : Int) = n + (i : Int) + 1 by omega]; exact gp) nup, ?_, setD d z v, by rw [upd_same, put_kd], ?_, set_ok ok ov, ?_⟩
      · rw [upd_ne (ne_of_none hb hu)]
        exact b6 _ _ nb (x35 _ _ (b3 _ _ nb hb))
      · rw [upd_ne nlu]
        exact b6 _ _ nln (x35 _ _ n3)
      · rw [set_new nz, List.map_append, dk, List.take_add_one, hz]
        rfl
      · rcases ov with rfl | ⟨g, hg, rfl⟩
        · exact acy_setN acy
        · have okv : (!grB d z g) = true := okv
          refine acy_setS acy (gr_no ok acy ?_)
          cases h : grB d z g
          · rfl
          · rw [h] at okv; cases okv
    · rintro σ H3 ⟨⟨v4, v5, v6, rfl⟩, b3, p3, n3, d, u3, dk, ok, acy⟩
      rw [lm] at p3 dk
      rw [List.take_length] at dk
      exact ⟨_, rfl, q u d H3 b3 (pool_mono p3 (by omega)) hu u3 ⟨dk, ok⟩ acy⟩
end
end My

namespace My
open PySem PySem.Spec PyProof.Rows L2
def spHolds (K : PySem.W.Frag) : Sp := fun vs H Q _ => ∃ (p t : Addr) (d : Dic) (fo ns : List Str) (wd a f : Str), vs = [.ref p, .ref t] ∧ H p = some (.dK (kd d)) ∧ Ups fo ns d ∧ ns.length ≤ 100 ∧ wd ∈ wordsS ∧ a ∈ ns ∧ f ∈ ns ∧ SqT K H t [.str wd, .str a, .str f] ∧ ∀ H', Ext H H' → Q (.bl (holdsG (liesA d) wd a f)) H'
def spKeep (K : PySem.W.Frag) : Sp := fun vs H Q _ => ∃ (p l : Addr) (d : Dic) (fo ns : List Str) (rows : List (List Str)), vs = [.ref p, .ref l] ∧ H p = some (.dK (kd d)) ∧ Ups fo ns d ∧ ns.length ≤ 100 ∧ RowsAt K H l rows ∧ (∀ r, r ∈ rows → ∃ w a b, r = [w, a, b] ∧ w ∈ wordsS ∧ a ∈ ns ∧ b ∈ ns) ∧ rows.length < 1000 ∧
  ∀ H', Ext H H' → Q (.bl (rows.all (holdsGR (liesA d)))) H'
abbrev nm__law_holds : List Str := ["_law_ups", "_law_fact_here", "_law_word", "_law_one", "_law_other"]
theorem sc__law_holds : FnScope nm__law_holds ["_law_ups", "_law_fact_here"] (defScope s__law_holds) := ⟨rfl, rfl, rfl, by decide +kernel, rfl, by decide +kernel, by decide +kernel⟩
abbrev nm__law_keep : List Str := ["_law_ups", "_law_rows", "_law_fact_here"]
theorem sc__law_keep : FnScope nm__law_keep ["_law_ups", "_law_rows"] (defScope s__law_keep) := ⟨rfl, rfl, rfl, by decide +kernel, rfl, by decide +kernel, by decide +kernel⟩
section
variable {P : Program} {w : World} {K : PySem.W.Frag} {mg : Str → Option Value} {base : Heap} {f C CB : Addr} {fd : FuncData}
theorem ok_holds (Fn : FnP K "_law_holds" s__law_holds f fd) (h_law_above : Has P w K mg base 1 "_law_above" ["_law_ups", "_law_node"] (spAbove K)) : FnOk P w K mg base CX0 2 f fd ["_law_ups", "_law_fact_here"] (spHolds K) := by
  refine Fn.ok sc__law_holds (fun vs H Q E h => ?_) (fun cdv A outer s H vs Q E hr h => ⟨_, PSs.nox
    (pss_cons (ps_asg (pv 1) (pg_tup rfl (pgs_cons (pg_name (i := 2) sc__law_holds.nd rfl (Or.inl rfl)) (pgs_cons (pg_name (i := 3) sc__law_holds.nd rfl (Or.inl rfl)) (pgs_cons (pg_name (i := 4) sc__law_holds.nd rfl (Or.inl rfl)) pgs_nil)))))
      (pss_cons (ps_if (pt_cmpR op_eq (pv 2) pe_str (nomark _)) (pss_one (ps_ret (pe_or (pe_cmpR op_in_seq (pv 4) (pe_has h_law_above (hr.mono (by decide)) (pa_cons (pv 0) (pa_cons (pv 3) pa_nil))) (by rfl)) (pe_one (pe_cmpR op_in_seq (pv 3) (pe_has h_law_above (hr.mono (by decide)) (pa_cons (pv 0) (pa_cons (pv 4) pa_nil))) (by rfl)))))) pss_nil)
      (pss_one (ps_ret (pe_cmpR op_eq (pe_cmpR op_in_seq (pv 4) (pe_has h_law_above (hr.mono (by decide)) (pa_cons (pv 0) (pa_cons (pv 3) pa_nil))) (by rfl)) (pe_cmpR op_eq (pv 2) pe_str (nomark _)) (nomark _)))))), ?_⟩)
  · obtain ⟨p, t, d, fo, ns, wd, a, f, rfl, _⟩ := h
    rfl
  · obtain ⟨p, t, d, fo, ns, wd, a, fs, rfl, hp, up, len, hw, ha, hf, sq, q⟩ := h
    refine ⟨_, rfl, t, _, rfl, sq, rfl, _, _, rfl, _, _, rfl, _, _, rfl, rfl, ?_⟩
    unfold holdsG at q
    refine ⟨_, rfl, rfl, _, rfl, ?_⟩
    refine ite2 (fun e => ?_) fun e => ?_
    · have e' : wd = "line" := by
        have z := of_decide_eq_true e
        injection z
      subst e'
      rw [if_neg (by decide), if_neg (by decide)] at q
      refine ⟨_, rfl, _, rfl, _, rfl, p, d, fo, ns, a, rfl, .inl hp, up, len, ha, fun l H1 x1 _ hl => ?_⟩
      refine ⟨l, _, rfl, .inl (SqL.of hl), rfl, flat_strs _, _, rfl, ?_⟩
      rw [if_neg Bool.false_ne_true, inV_str]
      refine ite2 (fun c => ?_) fun c => ?_
      · have z := q H1 x1
        rw [show liesA d a fs = true from c, Bool.true_or] at z
        exact z
      · have c' : liesA d a fs = false := decide_eq_false fun m => c (decide_eq_true m)
        rw [c'] at q
        refine ⟨_, rfl, _, rfl, _, rfl, p, d, fo, ns, fs, rfl, .inl (x1 _ _ hp), up, len, hf, fun l2 H2 x2 _ hl2 => ?_⟩
        refine ⟨l2, _, rfl, .inl (SqL.of hl2), rfl, flat_strs _, ?_⟩
        rw [if_neg Bool.false_ne_true, inV_str]
        exact q H2 (x1.trans x2)
    · have e' : wd ≠ "line" := fun z => e (decide_eq_true (by rw [z]))
      have hw' : wd = "below" ∨ wd = "not" := by
        unfold wordsS at hw
        simp at hw
        rcases hw with z | z | z
        · exact .inl z
        · exact .inr z
        · exact absurd z e'
      refine ⟨_, rfl, _, rfl, _, rfl, p, d, fo, ns, a, rfl, .inl hp, up, len, ha, fun l H1 x1 _ hl => ?_⟩
      refine ⟨l, _, rfl, .inl (SqL.of hl), rfl, flat_strs _, ?_⟩
      rw [if_neg Bool.false_ne_true, inV_str]
      refine ⟨_, rfl, rfl, rfl, ?_⟩
      have z := q H1 x1
      rcases hw' with rfl | rfl
      · rw [if_pos rfl] at z
        have e2 : decide (V.bl (decide (fs ∈ abv d a)) = V.bl (decide (V.str "below" = V.str "below"))) = liesA d a fs := by
          show _ = decide (fs ∈ abv d a)
          by_cases m : fs ∈ abv d a
          · rw [decide_eq_true m]; rfl
          · rw [decide_eq_false m]; rfl
        rw [e2]
        exact z
      · rw [if_neg (by decide), if_pos rfl] at z
        have e2 : decide (V.bl (decide (fs ∈ abv d a)) = V.bl (decide (V.str "not" = V.str "below"))) = !liesA d a fs := by
          show _ = !decide (fs ∈ abv d a)
          by_cases m : fs ∈ abv d a
          · rw [decide_eq_true m]; rfl
          · rw [decide_eq_false m]; rfl
        rw [e2]
        exact z
theorem ok_keep (Fn : FnP K "_law_keep" s__law_keep f fd) (h_law_holds : Has P w K mg base 2 "_law_holds" ["_law_ups", "_law_fact_here"] (spHolds K)) (gB_all : mg "all" = none) : FnOk P w K mg base CX0 3 f fd ["_law_ups", "_law_rows"] (spKeep K) := by
  refine Fn.ok sc__law_keep (fun vs H Q E h => ?_) (fun cdv A outer s H vs Q E hr h => ⟨_, PSs.nox
    (pss_one (ps_ret (pe_callB (cr_all rfl) (by rfl) gB_all boot_all (pa_cons (pe_lc (own := [("_law_fact_here", 2)]) (g := (gName 2)) (tt := tYes) rfl sc__law_keep.nd (pi_list (pv 1)) (blkOk_by (N := nm__law_keep) (sc := defScope s__law_keep) (by decide +kernel)) (fun _ _ _ _ _ => (pg_name (i := 2) sc__law_keep.nd rfl (Or.inl rfl))) (fun _ _ _ _ _ => pts_nil) (fun _ _ _ _ _ => (pe_has h_law_holds (hr.mono (by decide)) (pa_cons (pv 0) (pa_cons (pv 2) pa_nil))))) pa_nil)))), ?_⟩)
  · obtain ⟨p, l, d, fo, ns, rows, rfl, _⟩ := h
    rfl
  · obtain ⟨p, l, d, fo, ns, rows, rfl, hp, up, nl, ⟨xs, hl, hr0⟩, th3, len, q⟩ := h
    have lx : xs.length = rows.length := hr0.len
    refine ⟨_, rfl, l, rfl, ⟨_, SqL.of hl⟩, fun D hD => ?_⟩
    refine lc_list (K := K) (a := l) (xs := xs) (fun i H' => Ext H H' ∧ H' D = some (.lst (((rows.take i).map (holdsGR (liesA d))).map V.bl))) ⟨Ext.upd hD, upd_same⟩ (fun i H' _ z => SqL.of (z.1 _ _ hl)) ?_ ?_
    · intro i v H1 hv ⟨x1, l1⟩
      obtain ⟨t, r, rfl, sq, hr⟩ := (hr0.ext x1).at_ hv
      obtain ⟨wd, a, b, rfl, hw, ha, hb⟩ := th3 r (List.mem_of_getElem? hr)
      have tk : rows.take (i + 1) = rows.take i ++ [[wd, a, b]] := by
        rw [List.take_add_one, hr]
        rfl
      have i1 : i < xs.length := (List.getElem?_eq_some_iff.mp hv).1
      refine ⟨rfl, ?_⟩
      refine lcYes ?_
      refine ⟨_, rfl, _, rfl, p, t, d, fo, ns, wd, a, b, rfl, x1 _ _ hp, up, nl, hw, ha, hb, sq, fun H2 x2 => ⟨_, x2 _ _ l1, ?_, ?_, ?_⟩⟩
      · rw [List.length_map, List.length_map, List.length_take, sizeLine_eq]; omega
      · exact (x1.trans x2).over hD
      · rw [upd_same, tk, List.map_append, List.map_append]
        rfl
    · intro H1 ⟨x1, l1⟩
      rw [lx, List.take_length] at l1
      refine ⟨D, rows.map (holdsGR (liesA d)), rfl, SqL.of l1, ?_⟩
      rw [List.all_map]
      exact q H1 x1
end
end My

namespace My
open PySem PySem.Spec PyProof.Rows L2
def spFact (K : PySem.W.Frag) : Sp := fun vs H Q _ => ∃ (p lf lt : Addr) (fo th : List Str) (n : Int), vs = [.ref p, .ref lf, .ref lt] ∧ Pool H p n ∧ n < 900000 ∧ H lf = some (.lst (fo.map V.str)) ∧ H lt = some (.lst (th.map V.str)) ∧ lf ≠ p ∧ lt ≠ p ∧ (fo ++ th).Nodup ∧ 1 ≤ fo.length ∧ 2 ≤ (fo ++ th).length ∧ (fo ++ th).length ≤ 7 ∧
  ∀ t w a b H', But H H' p → Pool H' p (n + 3) → H t = none → H' t = some (.tup [.str w, .str a, .str b]) → IsT fo th w a b → (a ∈ fo ∨ b ∈ fo) → Q (.ref t) H'
theorem toldS_line {ns : List Str} {a b : Str} (h : ordS ns a b = [a, b]) : toldS ns "line" a b = [("line" : Str), a, b] := by
  unfold toldS
  rw [if_pos rfl, h]
theorem toldS_other {ns : List Str} {w a b : Str} (h : w ≠ "line") : toldS ns w a b = [w, a, b] := by
  unfold toldS
  rw [if_neg h]
abbrev nm__law_fact : List Str := ["_law_pool_here", "_law_folders", "_law_things", "_law_nodes", "_law_other", "_law_rest", "_law_one", "_law_word", "_law_node"]
theorem sc__law_fact : FnScope nm__law_fact ["_law_pool_here", "_law_folders", "_law_things"] (defScope s__law_fact) := ⟨rfl, rfl, rfl, by decide +kernel, rfl, by decide +kernel, by decide +kernel⟩
section
variable {P : Program} {w : World} {K : PySem.W.Frag} {mg : Str → Option Value} {base : Heap} {f C CB CF : Addr} {fd : FuncData}
theorem ok_fact (Fn : FnP K "_law_fact" s__law_fact f fd) (h_law_take : Has P w K mg base 1 "_law_take" ["_law_pool_here", "_law_many"] spTake) (gB_len : mg "len" = none) : FnOk P w K mg base CX0 2 f fd ["_law_pool_here", "_law_folders", "_law_things"] (spFact K) := by
  refine Fn.ok sc__law_fact (fun vs H Q E h => ?_) (fun cdv A outer s H vs Q E hr h => ⟨_, PSs.nox
    (pss_cons (ps_set (i := 3) sc__law_fact.nd rfl (Or.inl rfl) (pe_op L2.op_cat (pv 1) (pv 2)))
      (pss_cons (ps_set (i := 4) sc__law_fact.nd rfl (Or.inr rfl) (pe_ix ix_list (pv 1) (pe_has h_law_take (hr.mono (by decide)) (pa_cons (pv 0) (pa_cons (pe_callB call_len (by rfl) gB_len boot_len (pa_cons (pv 1) pa_nil)) pa_nil))) (fun _ _ => rfl)))
      (pss_cons (ps_setLc (i := 5) (own := [("_law_node", 8)]) (g := (gName 8)) rfl sc__law_fact.nd rfl rfl (sw_true rfl rfl rfl (by decide +kernel)) (pi_list (pv 3)) (blkOk_by (N := nm__law_fact) (sc := defScope s__law_fact) (by decide +kernel)) (fun _ _ _ _ _ => (pg_name (i := 8) sc__law_fact.nd rfl (Or.inl rfl))) (fun _ _ _ _ _ => pts_one (pt_cmpR op_ne (pv 8) (pv 4) (nomark _))) (fun _ _ _ _ _ => (pv 8)))
      (pss_cons (ps_set (i := 6) sc__law_fact.nd rfl (Or.inl rfl) (pe_ix ix_list (pv 5) (pe_has h_law_take (hr.mono (by decide)) (pa_cons (pv 0) (pa_cons (pe_callB call_len (by rfl) gB_len boot_len (pa_cons (pv 5) pa_nil)) pa_nil))) (fun _ _ => rfl)))
      (pss_cons (ps_set (i := 7) sc__law_fact.nd rfl (Or.inl rfl) (pe_ix ix_list (pe_lst (pa_cons pe_str (pa_cons pe_str (pa_cons pe_str (pa_cons pe_str pa_nil))))) (pe_has h_law_take (hr.mono (by decide)) (pa_cons (pv 0) (pa_cons pe_int pa_nil))) (fun _ _ => rfl)))
      (C8.pss_cut (ps_if (pt_cmpR op_eq (pv 7) pe_str (nomark _)) (pss_one (ps_if (pt_cmpR op_gt (pe_bm PySem.F.plainAttrs_list PySem.F.slot_list_index PySem.F.type_list_index mt_index (pv 3) (pa_cons (pv 6) pa_nil)) (pe_bm PySem.F.plainAttrs_list PySem.F.slot_list_index PySem.F.type_list_index mt_index (pv 3) (pa_cons (pv 4) pa_nil)) (nomark _)) (pss_one (ps_ret (pe_tup (pa_cons (pv 7) (pa_cons (pv 4) (pa_cons (pv 6) pa_nil)))))) pss_nil)) pss_nil)
      (pss_one (ps_ret (pe_tup (pa_cons (pv 7) (pa_cons (pv 6) (pa_cons (pv 4) pa_nil)))))))))))), ?_⟩)
  · obtain ⟨p, lf, lt, fo, th, n, rfl, _⟩ := h
    rfl
  · obtain ⟨p, lf, lt, fo, th, n, rfl, hp, hn, hf, ht, nfp, ntp, nd, f1, n2, n7, q⟩ := h
    have lm : ∀ zs : List Str, (zs.map V.str).length = zs.length := fun zs => List.length_map _
    have f7 : fo.length ≤ 7 := by
      rw [List.length_append] at n7
      omega
    refine ⟨_, rfl, _, rfl, lf, lt, _, _, rfl, rfl, hf, ht, by rw [lm, lm, sizeLine_eq, ← List.length_append]; omega, fun ln hln => ?_⟩
    obtain ⟨H1, hH1⟩ : ∃ H1, H1 = upd H ln (.lst (fo.map V.str ++ th.map V.str)) := ⟨_, rfl⟩
    rw [← hH1]
    have x1 : Ext H H1 := by
      rw [hH1]
      exact Ext.upd hln
    have n1 : H1 ln = some (.lst ((fo ++ th).map V.str)) := by rw [hH1, upd_same, List.map_append]
    have nln : ln ≠ p := pool_ne hp hln
    have p1 := pool_ext hp x1
    refine ⟨_, rfl, _, rfl, _, rfl, _, _, rfl, .inl ⟨_, SqL.of (x1 _ _ hf), rfl⟩, p, _, n, rfl, by rw [lm]; omega, by rw [lm]; omega, p1, by omega, fun r1 o1 r10 r11 gp => ?_⟩
    obtain ⟨r1, rfl⟩ := Int.eq_ofNat_of_zero_le r10
    rw [lm] at r11
    have r1' : r1 < fo.length := by omega
    obtain ⟨H2, hH2⟩ : ∃ H2, H2 = upd H1 p o1 := ⟨_, rfl⟩
    rw [← hH2] at gp ⊢
    have b2 : But H H2 p := by
      rw [hH2]
      exact But.upd (ext_but x1)
    have k2 : ∀ b u, b ≠ p → H1 b = some u → H2 b = some u := fun b u hb e => by rw [hH2, upd_ne hb]; exact e
    have hf2 := k2 _ _ nfp (x1 _ _ hf)
    have n2' := k2 _ _ nln n1
    obtain ⟨ot, hot⟩ : ∃ ot, ot = fo[r1] := ⟨_, rfl⟩
    refine ⟨lf, _, _, .str ot, rfl, rfl, SqL.of hf2, atI_nat (by rw [List.getElem?_map, List.getElem?_eq_getElem r1', hot]; rfl), ?_⟩
    have mo : ot ∈ fo := by rw [hot]; exact List.getElem_mem r1'
    refine ⟨_, rfl, ln, rfl, ⟨_, SqL.of n2'⟩, fun D hD => ?_⟩
    refine lc_list (K := K) (a := ln) (xs := (fo ++ th).map V.str) (fun k H' => Ext H2 H' ∧ H' D = some (.lst ((((fo ++ th).take k).filter fun z => !decide (z = ot)).map V.str))) ⟨Ext.upd hD, upd_same⟩ (fun k H' _ z => SqL.of (z.1 _ _ n2')) ?_ ?_
    · intro k v H4 hv ⟨x4, d4⟩
      obtain ⟨z, hz, rfl⟩ := strs_at hv
      have tk : (fo ++ th).take (k + 1) = (fo ++ th).take k ++ [z] := by
        rw [List.take_add_one, hz]
        rfl
      have k6 : k < 7 := by
        have := (List.getElem?_eq_some_iff.mp hz).1
        omega
      rw [tk]
      refine ⟨rfl, _, rfl, _, rfl, rfl, _, rfl, ?_⟩
      have ee : decide (V.str z = V.str ot) = decide (z = ot) := by
        by_cases e : z = ot
        · rw [e, decide_eq_true rfl, decide_eq_true rfl]
        · rw [decide_eq_false e, decide_eq_false fun h => e (by injection h)]
      refine ite2 (fun c => ?_) fun c => ?_
      · rw [ee] at c
        refine ⟨_, rfl, _, d4, ?_, x4.over hD, ?_⟩
        · rw [List.length_map]
          refine Nat.lt_of_le_of_lt (List.length_filter_le _ _) ?_
          rw [List.length_take, sizeLine_eq]
          omega
        · rw [upd_same, List.filter_append, List.filter_cons, if_pos c, List.map_append]
          rfl
      · rw [ee] at c
        refine ⟨x4, ?_⟩
        rw [d4, List.filter_append, List.filter_cons, if_neg c, List.filter_nil, List.append_nil]
    · intro H4 ⟨x4, d4⟩
      rw [lm, List.take_length] at d4
      obtain ⟨rest, hrest⟩ : ∃ rest, rest = (fo ++ th).filter fun z => !decide (z = ot) := ⟨_, rfl⟩
      rw [← hrest] at d4
      have rlen : rest.length ≤ 7 := by
        rw [hrest]
        exact Nat.le_trans (List.length_filter_le _ _) n7
      have rmem : ∀ z, z ∈ rest → z ∈ fo ++ th ∧ z ≠ ot := fun z hz => by
        rw [hrest] at hz
        obtain ⟨h1, h2⟩ := List.mem_filter.mp hz
        exact ⟨h1, fun e => by simp [e] at h2⟩
      have rpos : 0 < rest.length := by
        cases hh : rest with
        | cons z zs => exact Nat.succ_pos _
        | nil =>
          exfalso
          have all : ∀ z, z ∈ fo ++ th → z = ot := fun z hz => by
            by_cases e : z = ot
            · exact e
            · have : z ∈ rest := by
                rw [hrest]
                exact List.mem_filter.mpr ⟨hz, by simp [e]⟩
              rw [hh] at this
              cases this
          have h0 : 0 < (fo ++ th).length := by omega
          have h1 : 1 < (fo ++ th).length := by omega
          have e0 := all _ (List.getElem_mem h0)
          have e1 := all _ (List.getElem_mem h1)
          have := (List.getElem_inj nd).mp (e0.trans e1.symm)
          omega
      have p4 := pool_ext gp x4
      have nDp : D ≠ p := pool_ne gp hD
      have n4 := x4 _ _ n2'
      refine ⟨_, rfl, _, rfl, _, rfl, _, _, rfl, .inl ⟨_, SqL.of d4, rfl⟩, p, _, _, rfl, by rw [lm]; omega, by rw [lm]; omega, p4, by omega, fun r2 o2 r20 r21 gp2 => ?_⟩
      obtain ⟨r2, rfl⟩ := Int.eq_ofNat_of_zero_le r20
      rw [lm] at r21
      have r2' : r2 < rest.length := by omega
      obtain ⟨H5, hH5⟩ : ∃ H5, H5 = upd H4 p o2 := ⟨_, rfl⟩
      rw [← hH5] at gp2 ⊢
      have k5 : ∀ b u, b ≠ p → H4 b = some u → H5 b = some u := fun b u hb e => by rw [hH5, upd_ne hb]; exact e
      have b5 : But H H5 p := fun b u hb e => k5 b u hb (x4 _ _ (b2 b u hb e))
      have d5 := k5 _ _ nDp d4
      have n5 := k5 _ _ nln n4
      obtain ⟨on, hon⟩ : ∃ on, on = rest[r2] := ⟨_, rfl⟩
      refine ⟨D, _, _, .str on, rfl, rfl, SqL.of d5, atI_nat (by rw [List.getElem?_map, List.getElem?_eq_getElem r2', hon]; rfl), ?_⟩
      obtain ⟨mon, nno⟩ := rmem on (by rw [hon]; exact List.getElem_mem r2')
      refine ⟨Nat.le_of_ble_eq_true rfl, fun l6 hl6 => ⟨_, rfl, p, 4, _, rfl, by decide, by decide, pool_ext gp2 (Ext.upd hl6), by omega, fun r3 o3 r30 r31 gp3 => ?_⟩⟩
      obtain ⟨r3, rfl⟩ := Int.eq_ofNat_of_zero_le r30
      obtain ⟨H6, hH6⟩ : ∃ H6, H6 = upd (upd H5 l6 (.lst [.str "below", .str "below", .str "not", .str "line"])) p o3 := ⟨_, rfl⟩
      rw [← hH6] at gp3 ⊢
      have n6p : l6 ≠ p := pool_ne gp2 hl6
      have l66 : H6 l6 = some (.lst [.str "below", .str "below", .str "not", .str "line"]) := by rw [hH6, upd_ne n6p, upd_same]
      have k6 : ∀ b u, b ≠ p → H5 b = some u → H6 b = some u := fun b u hb e => by
        rw [hH6, upd_ne hb]
        exact Ext.upd hl6 _ _ e
      have b6 : But H H6 p := fun b u hb e => k6 b u hb (b5 b u hb e)
      have n6 := k6 _ _ nln n5
      have none6 : ∀ t, H6 t = none → H t = none := fun t h => by
        cases hh : H t with
        | none => rfl
        | some u =>
          by_cases e : t = p
          · obtain ⟨y, hy⟩ := gp3.lst
            rw [e, hy] at h
            cases h
          · rw [b6 t u e hh] at h
            cases h
      obtain ⟨wd, hwd, hw⟩ : ∃ wd : Str, atI ([.str "below", .str "below", .str "not", .str "line"] : List V) (r3 : Int) = some (.str wd) ∧ (wd = "below" ∨ wd = "not" ∨ wd = "line") := by
        match r3, r31 with
        | 0, _ => exact ⟨_, rfl, .inl rfl⟩
        | 1, _ => exact ⟨_, rfl, .inl rfl⟩
        | 2, _ => exact ⟨_, rfl, .inr (.inl rfl)⟩
        | 3, _ => exact ⟨_, rfl, .inr (.inr rfl)⟩
        | n + 4, h => exact absurd h (by omega)
      refine ⟨l6, _, _, .str wd, rfl, rfl, SqL.of l66, hwd, ?_⟩
      have mow : ot ∈ fo ++ th := List.mem_append_left _ mo
      refine ⟨fun σ' H' => H' = H6 ∧ σ' = [some (.ref p), some (.ref lf), some (.ref lt), some (.ref ln), some (.str ot), some (.ref D), some (.str on), some (.str wd), none] ∧ (wd = "line" → ordS (fo ++ th) on ot = [on, ot]), ?_, ?_⟩
      · obtain ⟨i, hi⟩ := List.mem_iff_getElem?.mp mon
        obtain ⟨j, hj⟩ := List.mem_iff_getElem?.mp mow
        have ij : i ≠ j := fun e => nno (by
          subst e
          rw [hi] at hj
          injection hj)
        refine ⟨_, rfl, rfl, _, rfl, ?_⟩
        refine ite2 (fun c => ?_) fun c => ⟨rfl, rfl, fun e => absurd (decide_eq_true (by rw [e])) c⟩
        have e' : wd = "line" := by
          have z := of_decide_eq_true c
          injection z
        subst e'
        refine ⟨_, rfl, .inl ⟨rfl, _, .inl (.inl n6)⟩, _, rfl, ln, _, _, i, .str on, rfl, rfl, SqL.of n6, rfl, flat_strs _, by rw [List.getElem?_map, hi]; rfl, beq_self_eq_true on, strs_idx nd hi, ?_⟩
        refine ⟨_, rfl, .inl ⟨rfl, _, .inl (.inl n6)⟩, _, rfl, ln, _, _, j, .str ot, rfl, rfl, SqL.of n6, rfl, flat_strs _, by rw [List.getElem?_map, hj]; rfl, beq_self_eq_true ot, strs_idx nd hj, ?_⟩
        refine ⟨_, _, rfl, rfl, _, rfl, ?_⟩
        refine ite2 (fun c => ?_) fun c => ?_
        · have c' : j < i := by
            have := of_decide_eq_true c
            omega
          have oo := ord_lt nd hj hi c'
          exact ⟨_, rfl, _, rfl, _, rfl, Nat.le_of_ble_eq_true rfl, fun t ht => q t "line" ot on _ (b6.ext (Ext.upd ht)) (pool_mono (pool_ext gp3 (Ext.upd ht)) (by omega)) (none6 t ht) upd_same ⟨⟨by decide, mow, mon, fun e => nno e.symm, .inl rfl⟩, toldS_line oo⟩ (.inl mo)⟩
        · have c' : i < j := by
            have : ¬ ((i : Int) > j) := fun z => c (decide_eq_true z)
            omega
          exact ⟨rfl, rfl, fun _ => ord_lt nd hi hj c'⟩
      · rintro σ' H' ⟨rfl, rfl, ho⟩
        refine ⟨_, rfl, _, rfl, _, rfl, Nat.le_of_ble_eq_true rfl, fun t ht => q t wd on ot _ (b6.ext (Ext.upd ht)) (pool_mono (pool_ext gp3 (Ext.upd ht)) (by omega)) (none6 t ht) upd_same ?_ (.inr mo)⟩
        have hwm : wd ∈ wordsS := by rcases hw with rfl | rfl | rfl <;> decide
        refine ⟨⟨hwm, mon, mow, nno, .inr mo⟩, ?_⟩
        by_cases e : wd = "line"
        · subst e
          exact toldS_line (ho rfl)
        · exact toldS_other e
end
end My

namespace My
open PySem PySem.Spec PyProof.Rows L2
def spTrue (K : PySem.W.Frag) : Sp := fun vs H Q _ => ∃ (p lf lt u : Addr) (fo th : List Str) (d : Dic) (n : Int), vs = [.ref p, .ref lf, .ref lt, .ref u] ∧ Pool H p n ∧ n < 900000 ∧ H lf = some (.lst (fo.map V.str)) ∧ H lt = some (.lst (th.map V.str)) ∧ lf ≠ p ∧ lt ≠ p ∧ (fo ++ th).Nodup ∧ 1 ≤ fo.length ∧ 2 ≤ (fo ++ th).length ∧ (fo ++ th).length ≤ 7 ∧
  H u = some (.dK (kd d)) ∧ Ups fo (fo ++ th) d ∧ ∀ t w a b H', But H H' p → Pool H' p (n + 3) → H t = none → H' t = some (.tup [.str w, .str a, .str b]) → IsT fo th w a b → Q (.ref t) H'
abbrev nm__law_true : List Str := ["_law_pool_here", "_law_folders", "_law_things", "_law_ups", "_law_fact_here", "_law_word", "_law_one", "_law_other"]
theorem sc__law_true : FnScope nm__law_true ["_law_pool_here", "_law_folders", "_law_things", "_law_ups"] (defScope s__law_true) := ⟨rfl, rfl, rfl, by decide +kernel, rfl, by decide +kernel, by decide +kernel⟩
section
variable {P : Program} {w : World} {K : PySem.W.Frag} {mg : Str → Option Value} {base : Heap} {f C CB CF : Addr} {fd : FuncData}
theorem ok_true (Fn : FnP K "_law_true" s__law_true f fd) (h_law_fact : Has P w K mg base 2 "_law_fact" ["_law_pool_here", "_law_folders", "_law_things"] (spFact K)) (h_law_holds : Has P w K mg base 2 "_law_holds" ["_law_ups", "_law_fact_here"] (spHolds K)) : FnOk P w K mg base CX0 3 f fd ["_law_pool_here", "_law_folders", "_law_things", "_law_ups"] (spTrue K) := by
  refine Fn.ok sc__law_true (fun vs H Q E h => ?_) (fun cdv A outer s H vs Q E hr h => ⟨_, PSs.nox
    (pss_cons (ps_set (i := 4) sc__law_true.nd rfl (Or.inl rfl) (pe_has h_law_fact (hr.mono (by decide)) (pa_cons (pv 0) (pa_cons (pv 1) (pa_cons (pv 2) pa_nil)))))
      (pss_cons (ps_if (pt_val (pe_has h_law_holds (hr.mono (by decide)) (pa_cons (pv 3) (pa_cons (pv 4) pa_nil)))) (pss_one (ps_ret (pv 4))) pss_nil)
      (pss_cons (ps_asg (pv 4) (pg_tup rfl (pgs_cons (pg_name (i := 5) sc__law_true.nd rfl (Or.inl rfl)) (pgs_cons (pg_name (i := 6) sc__law_true.nd rfl (Or.inl rfl)) (pgs_cons (pg_name (i := 7) sc__law_true.nd rfl (Or.inl rfl)) pgs_nil)))))
      (pss_cons (ps_if (pt_cmpR op_eq (pv 5) pe_str (nomark _)) (pss_one (ps_ret (pe_ifExp (pt_cmpR op_in_seq (pv 7) (pv 1) (by rfl)) (pe_tup (pa_cons pe_str (pa_cons (pv 6) (pa_cons (pv 7) pa_nil)))) (pe_tup (pa_cons pe_str (pa_cons (pv 7) (pa_cons (pv 6) pa_nil))))))) pss_nil)
      (pss_one (ps_ret (pe_tup (pa_cons (pe_ifExp (pt_cmpR op_eq (pv 5) pe_str (nomark _)) pe_str pe_str) (pa_cons (pv 6) (pa_cons (pv 7) pa_nil)))))))))), ?_⟩)
  · obtain ⟨p, lf, lt, u, fo, th, d, n, rfl, _⟩ := h
    rfl
  · obtain ⟨p, lf, lt, u, fo, th, d, n, rfl, hp, hn, hf, ht, nfp, ntp, nd, f1, n2, n7, hu, ups, q⟩ := h
    obtain ⟨y0, hy0⟩ := hp.lst
    refine ⟨_, rfl, _, rfl, _, rfl, p, lf, lt, fo, th, n, rfl, hp, hn, hf, ht, nfp, ntp, nd, f1, n2, n7, fun t wd a b H1 b1 p1 t0 t1 ist fab => ?_⟩
    have np : t ≠ p := fun e => by rw [e, hy0] at t0; cases t0
    have u1 := b1 _ _ (ne_of hu hy0 (fun z => nomatch z)) hu
    have f1' := b1 _ _ nfp hf
    refine ⟨_, rfl, _, rfl, u, t, d, fo, fo ++ th, wd, a, b, rfl, u1, ups, by omega, ist.1.1, ist.1.2.1, ist.1.2.2.1, SqT.of t1, fun H2 x2 => ?_⟩
    have t2 := x2 _ _ t1
    have p2 := pool_ext p1 x2
    have b2 : But H H2 p := b1.ext x2
    have back : ∀ {H' : Hp} {r : Addr}, Ext H2 H' → H2 r = none → H r = none := fun {H' r} _ h => by
      cases hh : H r with
      | none => rfl
      | some w =>
        by_cases e : r = p
        · obtain ⟨y, hy⟩ := p2.lst
          rw [e, hy] at h
          cases h
        · rw [b2 r w e hh] at h
          cases h
    have isN : ∀ {x y : Str}, x ∈ fo ++ th → y ∈ fo → x ≠ y → IsT fo th "not" x y := fun hx hy ne => ⟨⟨by decide, hx, List.mem_append_left _ hy, ne, .inr hy⟩, toldS_other (by decide)⟩
    refine ⟨_, rfl, ?_⟩
    refine ite2 (fun c => ?_) fun c => ?_
    · exact ⟨_, rfl, q t wd a b H2 b2 p2 t0 t2 ist⟩
    · refine ⟨_, rfl, t, _, rfl, SqT.of t2, rfl, _, _, rfl, _, _, rfl, _, _, rfl, rfl, ?_⟩
      refine ⟨_, rfl, rfl, _, rfl, ?_⟩
      refine ite2 (fun e => ?_) fun e => ?_
      · have e' : wd = "line" := by
          have z := of_decide_eq_true e
          injection z
        refine ⟨_, rfl, _, rfl, lf, _, rfl, .inl (SqL.of (x2 _ _ f1')), rfl, flat_strs _, _, rfl, ?_⟩
        rw [inV_str]
        refine ite2 (fun c1 => ?_) fun c1 => ?_
        · have mb : b ∈ fo := of_decide_eq_true c1
          exact ⟨_, rfl, _, rfl, Nat.le_of_ble_eq_true rfl, fun r hr => q r "not" a b _ (b2.ext (Ext.upd hr)) (pool_ext p2 (Ext.upd hr)) (back Ext.rfl' hr) upd_same (isN ist.1.2.1 mb ist.1.2.2.2.1)⟩
        · have nb : b ∉ fo := fun m => c1 (decide_eq_true m)
          have ma : a ∈ fo := fab.resolve_right nb
          exact ⟨_, rfl, _, rfl, Nat.le_of_ble_eq_true rfl, fun r hr => q r "not" b a _ (b2.ext (Ext.upd hr)) (pool_ext p2 (Ext.upd hr)) (back Ext.rfl' hr) upd_same (isN ist.1.2.2.1 ma (Ne.symm ist.1.2.2.2.1))⟩
      · have e' : wd ≠ "line" := fun h => e (decide_eq_true (by rw [h]))
        have mb : b ∈ fo := ist.1.2.2.2.2.resolve_left e'
        refine ⟨_, rfl, rfl, _, rfl, ?_⟩
        refine ite2 (fun c1 => ?_) fun c1 => ?_
        · exact ⟨_, rfl, _, rfl, Nat.le_of_ble_eq_true rfl, fun r hr => q r "not" a b _ (b2.ext (Ext.upd hr)) (pool_ext p2 (Ext.upd hr)) (back Ext.rfl' hr) upd_same (isN ist.1.2.1 mb ist.1.2.2.2.1)⟩
        · exact ⟨_, rfl, _, rfl, Nat.le_of_ble_eq_true rfl, fun r hr => q r "below" a b _ (b2.ext (Ext.upd hr)) (pool_ext p2 (Ext.upd hr)) (back Ext.rfl' hr) upd_same ⟨⟨by decide, ist.1.2.1, ist.1.2.2.1, ist.1.2.2.2.1, .inr mb⟩, toldS_other (by decide)⟩⟩
end
end My

namespace My
open PySem PySem.Spec PyProof.Rows L2
theorem ups_of {fo th : List Str} {d : Dic} (ly : LyD fo th d) : Ups fo (fo ++ th) d := ⟨ly.ok, fun z hz => by
  obtain ⟨v, hv⟩ := getD_some (d := d) (z := z) (by rw [ly.keys]; exact hz)
  rw [hv]
  rfl, by rw [← ly.keys, List.length_map]; exact Nat.le_refl _, fun z hz => List.mem_append_left _ hz⟩
theorem Rows.butP {K : PySem.W.Frag} {H H' : Hp} {p : Addr} {ys : List V} (hp : H p = some (.lst ys)) (b : But H H' p) : ∀ {xs : List V} {rs : List (List Str)}, Rows K H xs rs → Rows K H' xs rs
  | [], [], _ => True.intro
  | _ :: _, _ :: _, ⟨⟨t, e1, h⟩, hr⟩ => ⟨⟨t, e1, sqT_butL hp b h⟩, Rows.butP hp b hr⟩
  | [], _ :: _, h => h.elim
  | _ :: _, [], h => h.elim
def spLTold (K : PySem.W.Frag) : Sp := fun vs H Q _ => ∃ (p lf lt : Addr) (fo th : List Str) (many bent : Nat) (n : Int), vs = [.ref p, .ref lf, .ref lt, .int (many : Int), .int (bent : Int)] ∧ Pool H p n ∧ n < 800000 ∧ H lf = some (.lst (fo.map V.str)) ∧ H lt = some (.lst (th.map V.str)) ∧ lf ≠ p ∧ lt ≠ p ∧ (fo ++ th).Nodup ∧ OkS (fo ++ th) ∧ 1 ≤ fo.length ∧ 2 ≤ (fo ++ th).length ∧ (fo ++ th).length ≤ 7 ∧ many ≤ 6 ∧ bent ≤ 6 ∧
  ∀ l xs rows H', But H H' p → Pool H' p (n + 50) → H l = none → H' l = some (.lst xs) → Rows K H' xs rows → TR fo th rows → rows.Nodup → rows.length ≤ many → Q (.ref l) H'
abbrev nm__law_told : List Str := ["_law_pool_here", "_law_folders", "_law_things", "_law_many", "_law_bent", "_law_ups", "_law_found", "_law_k", "_law_fact_here"]
theorem sc__law_told : FnScope nm__law_told ["_law_pool_here", "_law_folders", "_law_things", "_law_many", "_law_bent"] (defScope s__law_told) := ⟨rfl, rfl, rfl, by decide +kernel, rfl, by decide +kernel, by decide +kernel⟩
section
variable {P : Program} {w : World} {K : PySem.W.Frag} {mg : Str → Option Value} {base : Heap} {f C CB CF : Addr} {fd : FuncData}
theorem ok_ltold (Fn : FnP K "_law_told" s__law_told f fd) (h_law_tree : Has P w K mg base 2 "_law_tree" ["_law_pool_here", "_law_folders", "_law_things"] (spTreeD K)) (h_law_take : Has P w K mg base 1 "_law_take" ["_law_pool_here", "_law_many"] spTake) (h_law_fact : Has P w K mg base 2 "_law_fact" ["_law_pool_here", "_law_folders", "_law_things"] (spFact K))
    (h_law_true : Has P w K mg base 3 "_law_true" ["_law_pool_here", "_law_folders", "_law_things", "_law_ups"] (spTrue K)) (gB_range : mg "range" = none) : FnOk P w K mg base CX0 4 f fd ["_law_pool_here", "_law_folders", "_law_things", "_law_many", "_law_bent"] (spLTold K) := by
  refine Fn.ok sc__law_told (fun vs H Q E h => ?_) (fun cdv A outer s H vs Q E hr h => ⟨_, PSs.nox
    (pss_cons (ps_par (i := 5) (j := 6) rfl sc__law_told.nd rfl rfl (by decide) rfl rfl (pa_cons (pe_has h_law_tree (hr.mono (by decide)) (pa_cons (pv 0) (pa_cons (pv 1) (pa_cons (pv 2) pa_nil)))) (pa_cons (pe_lst pa_nil) pa_nil)) (by rfl))
      (pss_cons (ps_for PassesOwn.never rfl (pi_range1 (by rfl) gB_range (pa_cons (pv 3) pa_nil)) (pg_name (i := 7) sc__law_told.nd rfl (Or.inl rfl))
      (pss_cons (ps_set (i := 8) sc__law_told.nd rfl (Or.inl rfl) (pe_has h_law_true (hr.mono (by decide)) (pa_cons (pv 0) (pa_cons (pv 1) (pa_cons (pv 2) (pa_cons (pv 5) pa_nil))))))
      (C8.pss_cut (ps_if (PW.pt (pw_and (pt_cmpR op_gt (pv 4) pe_int (nomark _)) (pw_and1 (pt_cmpR op_eq (pe_has h_law_take (hr.mono (by decide)) (pa_cons (pv 0) (pa_cons (pv 4) pa_nil))) pe_int (nomark _))))) (pss_one (ps_set (i := 8) sc__law_told.nd rfl (Or.inl rfl) (pe_has h_law_fact (hr.mono (by decide)) (pa_cons (pv 0) (pa_cons (pv 1) (pa_cons (pv 2) pa_nil)))))) pss_nil)
      (pss_one (ps_if (pt_cmpR (op_notInD (u65 hr)) (pv 8) (pv 6) (by rfl)) (pss_one (ps_expr (pe_bm PySem.F.plainAttrs_list PySem.F.slot_list_append PySem.F.type_list_append mt_append (pv 6) (pa_cons (pv 8) pa_nil)))) pss_nil)))))
      (pss_one (ps_ret (pv 6))))), ?_⟩)
  · obtain ⟨p, lf, lt, fo, th, many, bent, n, rfl, _⟩ := h
    rfl
  · obtain ⟨p, lf, lt, fo, th, many, bent, n, rfl, hp, hn, hf, ht, nfp, ntp, nd, okS, f1, n2, n7, m6, b6, q⟩ := h
    obtain ⟨y0, hy0⟩ := hp.lst
    refine ⟨_, rfl, _, rfl, _, rfl, p, lf, lt, fo, th, n, rfl, hp, by omega, hf, ht, nfp, ntp, nd, n7, fun u d H1 b1 p1 hu u1 ly acy => ?_⟩
    refine ⟨Nat.zero_le _, fun l hl => ?_⟩
    have xl := Ext.upd (o := .lst []) hl
    refine ⟨_, _, rfl, ?_⟩
    have hl0 : H l = none := by
      cases hh : H l with
      | none => rfl
      | some w =>
        by_cases e : l = p
        · obtain ⟨y, hy⟩ := p1.lst
          rw [e, hy] at hl
          cases hl
        · rw [b1 l w e hh] at hl
          cases hl
    have nlp : l ≠ p := pool_ne p1 hl
    have nul : u ≠ l := fun e => by rw [e, hl] at u1; cases u1
    have nup : u ≠ p := fun e => by rw [e, hy0] at hu; cases hu
    have ups := ups_of ly
    refine ⟨_, rfl, many, rfl, by omega, by omega, for_range (lo := 0) (n := many) (fun k σ H' => (∃ v7 v8, σ = [some (.ref p), some (.ref lf), some (.ref lt), some (.int (many : Int)), some (.int (bent : Int)), some (.ref u), some (.ref l), v7, v8]) ∧ But H H' p ∧ Pool H' p (n + 7 + 7 * k) ∧ H' u = some (.dK (kd d)) ∧ ∃ xs rows, H' l = some (.lst xs) ∧ Rows K H' xs rows ∧ TR fo th rows ∧ rows.Nodup ∧ rows.length ≤ k) ?_ ?_ ?_⟩
    · exact ⟨⟨_, _, rfl⟩, b1.ext xl, by simpa using pool_ext p1 xl, xl _ _ u1, [], [], upd_same, True.intro, (fun r hr => by cases hr), List.nodup_nil, Nat.le_refl _⟩
    · rintro k σ H2 hk ⟨⟨v7, v8, rfl⟩, b2, p2, u2, xs, rows, l2, r2, tr2, nd2, len2⟩
      obtain ⟨y2, hy2⟩ := p2.lst
      refine ⟨_, rfl, _, rfl, _, rfl, _, rfl, p, lf, lt, u, fo, th, d, _, rfl, p2, by omega, b2 _ _ nfp hf, b2 _ _ ntp ht, nfp, ntp, nd, f1, n2, n7, u2, ups, fun t wd a b H3 b3 p3 t0 t3 ist => ?_⟩
      have u3 := b3 _ _ nup u2
      have l3 := b3 _ _ nlp l2
      have r3 := r2.butP hy2 b3
      have b03 := b2.trans b3
      obtain ⟨y3, hy3⟩ := p3.lst
      refine ⟨fun σ' H' => (∃ t wd a b, σ' = [some (.ref p), some (.ref lf), some (.ref lt), some (.int (many : Int)), some (.int (bent : Int)), some (.ref u), some (.ref l), some (.int (0 + (k : Int))), some (.ref t)] ∧ H' t = some (.tup [.str wd, .str a, .str b]) ∧ IsT fo th wd a b) ∧ But H H' p ∧ Pool H' p (n + 7 + 7 * ((k + 1 : Nat) : Int)) ∧ H' u = some (.dK (kd d)) ∧ H' l = some (.lst xs) ∧ Rows K H' xs rows, ?_, ?_⟩
      · have same : But H H3 p ∧ Pool H3 p (n + 7 + 7 * ((k + 1 : Nat) : Int)) ∧ H3 u = some (.dK (kd d)) ∧ H3 l = some (.lst xs) ∧ Rows K H3 xs rows := ⟨b03, pool_mono p3 (by omega), u3, l3, r3⟩
        refine ⟨_, rfl, _, _, rfl, rfl, _, rfl, ?_⟩
        refine ite2 (fun c => ?_) fun c => ?_
        · have bp : 0 < bent := by
            have := of_decide_eq_true c
            omega
          refine ⟨_, rfl, _, rfl, p, (bent : Int), _, rfl, by omega, by omega, p3, by omega, fun r1 o1 r10 r11 gp => ?_⟩
          obtain ⟨H4, hH4⟩ : ∃ H4, H4 = L2.upd H3 p o1 := ⟨_, rfl⟩
          rw [← hH4] at gp ⊢
          have b4 : But H3 H4 p := by
            rw [hH4]
            exact But.upd (ext_but Ext.rfl')
          refine ⟨rfl, _, rfl, ?_⟩
          refine ite2 (fun c2 => ?_) fun c2 => ?_
          · have b04 := b03.trans b4
            refine ⟨_, rfl, _, rfl, _, rfl, p, lf, lt, fo, th, _, rfl, gp, by omega, b04 _ _ nfp hf, b04 _ _ ntp ht, nfp, ntp, nd, f1, n2, n7, fun t' wd' a' b' H5 b5 p5 t50 t5 ist5 _ => ?_⟩
            obtain ⟨y4, hy4⟩ := gp.lst
            exact ⟨⟨t', wd', a', b', rfl, t5, ist5⟩, b04.trans b5, pool_mono p5 (by omega), b5 _ _ nup (b4 _ _ nup u3), b5 _ _ nlp (b4 _ _ nlp l3), (r3.butP hy3 b4).butP hy4 b5⟩
          · exact ⟨⟨t, wd, a, b, rfl, b4 _ _ (ne_of t3 hy3 (fun z => nomatch z)) t3, ist⟩, b03.trans b4, pool_mono gp (by omega), b4 _ _ nup u3, b4 _ _ nlp l3, r3.butP hy3 b4⟩
        · exact ⟨⟨t, wd, a, b, rfl, t3, ist⟩, same⟩
      · rintro σ' H4 ⟨⟨t, wd, a, b, rfl, t4, ist⟩, b4, p4, u4, l4, r4⟩
        have trs : TR fo th (rows ++ [[wd, a, b]]) := fun r hr => by
          rcases List.mem_append.mp hr with hr | hr
          · exact tr2 r hr
          · exact ⟨wd, a, b, List.mem_singleton.mp hr, ist⟩
        have ok1 := trs.ok okS
        have okr : OkR rows := fun r hr => ok1 r (List.mem_append_left _ hr)
        refine ⟨_, rfl, _, rfl, .tuple (([wd, a, b] : List Str).map PyData.str), _, .tup (SqT.of t4) (dpAll_str [wd, a, b]), .lst (SqL.of l4) (rows_dp r4), shaped_strT [wd, a, b] (ok1 _ (List.mem_append_right _ List.mem_cons_self)), rows_shaped okr, _, rfl, ?_⟩
        rw [any_rows]
        refine ite2 (fun c => ?_) fun c => ?_
        · have c' : [wd, a, b] ∉ rows := by simpa using c
          refine ⟨_, rfl, .inl ⟨rfl, _, .inl (.inl l4)⟩, _, rfl, l, _, _, rfl, rfl, l4, by rw [r4.len, sizeLine_eq]; omega, ?_⟩
          refine ⟨⟨_, _, rfl⟩, fun c u h1 h2 => ?_, pool_upd p4 nlp, ?_, xs ++ [.ref t], rows ++ [[wd, a, b]], upd_same, Rows.upd l4 (Rows.app r4 ⟨⟨t, rfl, SqT.of t4⟩, True.intro⟩), trs, ?_, ?_⟩
          · rw [upd_ne (ne_of_none h2 hl0)]
            exact b4 c u h1 h2
          · rw [upd_ne nul]
            exact u4
          · exact List.nodup_append.mpr ⟨nd2, (by simp), fun x hx y hy e => c' (by rw [← List.mem_singleton.mp hy, ← e]; exact hx)⟩
          · rw [List.length_append]
            exact Nat.succ_le_succ len2
        · exact ⟨⟨_, _, rfl⟩, b4, p4, u4, xs, rows, l4, r4, tr2, nd2, by omega⟩
    · rintro σ H2 ⟨⟨v7, v8, rfl⟩, b2, p2, u2, xs, rows, l2, r2, tr2, nd2, len2⟩
      exact ⟨_, rfl, q l xs rows H2 b2 (pool_mono p2 (by omega)) hl0 l2 r2 tr2 nd2 len2⟩
end
end My

namespace My
open PySem PySem.Spec PyProof.Rows L2
def spEvery5 (K : PySem.W.Frag) : Sp := fun vs H Q _ => ∃ lf lt fo th, vs = [.ref lf, .ref lt] ∧ H lf = some (.lst (fo.map V.str)) ∧ H lt = some (.lst (th.map V.str)) ∧ (fo ++ th).length ≤ 7 ∧ ∀ l xs rows H', Ext H H' → H l = none → H' l = some (.lst xs) → Rows K H' xs rows → FactR fo th rows → xs.length ≤ 147 → Q (.ref l) H'
abbrev nm__law_every : List Str := ["_law_folders", "_law_things", "_law_nodes", "_law_found", "_law_node", "_law_rest", "_law_other"]
theorem sc__law_every : FnScope nm__law_every ["_law_folders", "_law_things"] (defScope s__law_every) := ⟨rfl, rfl, rfl, by decide +kernel, rfl, by decide +kernel, by decide +kernel⟩
section
variable {P : Program} {w : World} {K : PySem.W.Frag} {mg : Str → Option Value} {base : Heap} {f C CB CF : Addr} {fd : FuncData}
theorem ok_every5 (Fn : FnP K "_law_every" s__law_every f fd) : FnOk P w K mg base CX0 1 f fd ["_law_folders", "_law_things"] (spEvery5 K) := by
  refine Fn.ok sc__law_every (fun vs H Q E h => ?_) (fun cdv A outer s H vs Q E hr h => ⟨_, PSs.nox
    (pss_cons (ps_par (i := 2) (j := 3) rfl sc__law_every.nd rfl rfl (by decide) rfl rfl (pa_cons (pe_op L2.op_cat (pv 0) (pv 1)) (pa_cons (pe_lst pa_nil) pa_nil)) (by rfl))
      (pss_cons (ps_for PassesOwn.never rfl (pi_list (pv 2)) (pg_name (i := 4) sc__law_every.nd rfl (Or.inr rfl))
      (pss_cons (ps_setLc (i := 5) (own := [("_law_other", 6)]) (g := (gName 6)) rfl sc__law_every.nd rfl rfl (sw_true rfl rfl rfl (by decide +kernel)) (pi_list (pv 2)) (blkOk_by (N := nm__law_every) (sc := defScope s__law_every) (by decide +kernel)) (fun _ _ _ _ _ => (pg_name (i := 6) sc__law_every.nd rfl (Or.inl rfl))) (fun _ _ _ _ _ => pts_one (pt_cmpR op_ne (pv 6) (pv 4) (nomark _))) (fun _ _ _ _ _ => (pv 6)))
      (pss_cons (ps_expr (pe_bm PySem.F.plainAttrs_list PySem.F.slot_list_extend PySem.F.type_list_extend mt_extend (pv 3) (pa_cons (pe_lc (own := [("_law_other", 6)]) (g := (gName 6)) (tt := tYes) rfl sc__law_every.nd (pi_list (pv 5)) (blkOk_by (N := nm__law_every) (sc := defScope s__law_every) (by decide +kernel)) (fun _ _ _ _ _ => (pg_name (i := 6) sc__law_every.nd rfl (Or.inl rfl))) (fun _ _ _ _ _ => pts_nil) (fun _ _ _ _ _ => (pe_tup (pa_cons pe_str (pa_cons (pv 4) (pa_cons (pv 6) pa_nil)))))) pa_nil)))
      (pss_cons (ps_expr (pe_bm PySem.F.plainAttrs_list PySem.F.slot_list_extend PySem.F.type_list_extend mt_extend (pv 3) (pa_cons (pe_lc (own := [("_law_other", 6)]) (g := (gName 6)) rfl sc__law_every.nd (pi_list (pv 5)) (blkOk_by (N := nm__law_every) (sc := defScope s__law_every) (by decide +kernel)) (fun _ _ _ _ _ => (pg_name (i := 6) sc__law_every.nd rfl (Or.inl rfl))) (fun _ _ _ _ _ => pts_one (pt_cmpR (opK (r := fun K => rIn K false) (K := K) rfl op_in_seq) (pv 4) (pv 0) (by rfl))) (fun _ _ _ _ _ => (pe_tup (pa_cons pe_str (pa_cons (pv 6) (pa_cons (pv 4) pa_nil)))))) pa_nil)))
      (pss_one (ps_expr (pe_bm PySem.F.plainAttrs_list PySem.F.slot_list_extend PySem.F.type_list_extend mt_extend (pv 3) (pa_cons (pe_lc (own := [("_law_other", 6)]) (g := (gName 6)) rfl sc__law_every.nd (pi_list (pv 5)) (blkOk_by (N := nm__law_every) (sc := defScope s__law_every) (by decide +kernel)) (fun _ _ _ _ _ => (pg_name (i := 6) sc__law_every.nd rfl (Or.inl rfl))) (fun _ _ _ _ _ => pts_one (pt_cmpR (opK (r := fun K => rIn K false) (K := K) rfl op_in_seq) (pv 4) (pv 0) (by rfl))) (fun _ _ _ _ _ => (pe_tup (pa_cons pe_str (pa_cons (pv 6) (pa_cons (pv 4) pa_nil)))))) pa_nil))))))))
      (pss_one (ps_ret (pv 3))))), ?_⟩)
  · obtain ⟨lf, lt, fo, th, rfl, _⟩ := h
    rfl
  · obtain ⟨lf, lt, fo, th, rfl, hf, ht, n7, q⟩ := h
    have lm : ∀ zs : List Str, (zs.map V.str).length = zs.length := fun zs => List.length_map _
    refine ⟨_, rfl, _, rfl, lf, lt, _, _, rfl, rfl, hf, ht, by rw [lm, lm, sizeLine_eq, ← List.length_append]; omega, fun ln hln => ⟨Nat.zero_le _, fun l hl => ⟨_, _, rfl, ?_⟩⟩⟩
    obtain ⟨H1, hH1⟩ : ∃ H1, H1 = L2.upd H ln (.lst (fo.map V.str ++ th.map V.str)) := ⟨_, rfl⟩
    rw [← hH1] at hl ⊢
    have x1 : Ext H H1 := by
      rw [hH1]
      exact Ext.upd hln
    have hl0 := ext_none x1 hl
    have n1 : H1 ln = some (.lst ((fo ++ th).map V.str)) := by rw [hH1, upd_same, List.map_append]
    have nln : ln ≠ l := ne_of_none n1 hl
    have x2 := Ext.upd (o := .lst []) hl
    refine ⟨_, rfl, ln, rfl, ⟨_, SqL.of (x2 _ _ n1)⟩, for_list (K := K) (a := ln) (xs := (fo ++ th).map V.str) (fun i σ H' => (∃ v4 v5 v6, σ = [some (.ref lf), some (.ref lt), some (.ref ln), some (.ref l), v4, v5, v6]) ∧ Ext H H' ∧ H' ln = some (.lst ((fo ++ th).map V.str)) ∧ ∃ acc rs, H' l = some (.lst acc) ∧ acc.length ≤ 21 * i ∧ Rows K H' acc rs ∧ FactR fo th rs) ⟨⟨_, _, _, rfl⟩, x1.trans x2, x2 _ _ n1, [], [], upd_same, Nat.zero_le _, True.intro, fun r hr => by cases hr⟩ (fun i σ H' _ z => SqL.of z.2.2.1) ?_ ?_⟩
    · rintro i v σ H3 hv ⟨⟨v4, v5, v6, rfl⟩, xf3, n3, acc3, rs3, l3, len3, r3, f3⟩
      obtain ⟨z, hz, rfl⟩ := strs_at hv
      have mzn : z ∈ fo ++ th := List.mem_of_getElem? hz
      have i7 : i < 7 := by
        have := (List.getElem?_eq_some_iff.mp hz).1
        omega
      refine ⟨_, rfl, ln, rfl, ⟨_, SqL.of n3⟩, fun lr hlr => ?_⟩
      have nlr0 : l ≠ lr := ne_of_none l3 hlr
      have nlr : lr ≠ l := Ne.symm nlr0
      refine lc_list (K := K) (a := ln) (xs := (fo ++ th).map V.str) (fun k H' => Ext H3 H' ∧ H' lr = some (.lst ((((fo ++ th).take k).filter fun y => !decide (y = z)).map V.str))) ⟨Ext.upd hlr, upd_same⟩ (fun k H' _ w => SqL.of (w.1 _ _ n3)) ?_ ?_
      · rintro k v H4 hv ⟨x4, d4⟩
        obtain ⟨y, hy, rfl⟩ := strs_at hv
        have tk : (fo ++ th).take (k + 1) = (fo ++ th).take k ++ [y] := by
          rw [List.take_add_one, hy]
          rfl
        have k6 : k < 7 := by
          have := (List.getElem?_eq_some_iff.mp hy).1
          omega
        rw [tk]
        refine ⟨rfl, _, rfl, _, rfl, rfl, _, rfl, ?_⟩
        have ee : decide (V.str y = V.str z) = decide (y = z) := by
          by_cases e : y = z
          · rw [e, decide_eq_true rfl, decide_eq_true rfl]
          · rw [decide_eq_false e, decide_eq_false fun h => e (by injection h)]
        refine ite2 (fun c => ?_) fun c => ?_
        · rw [ee] at c
          refine ⟨_, rfl, _, d4, ?_, x4.over hlr, ?_⟩
          · rw [List.length_map]
            refine Nat.lt_of_le_of_lt (List.length_filter_le _ _) ?_
            rw [List.length_take, sizeLine_eq]
            omega
          · rw [upd_same, List.filter_append, List.filter_cons, if_pos c, List.map_append]
            rfl
        · rw [ee] at c
          refine ⟨x4, ?_⟩
          rw [d4, List.filter_append, List.filter_cons, if_neg c, List.filter_nil, List.append_nil]
      rintro HR ⟨xR, dr⟩
      rw [lm, List.take_length] at dr
      obtain ⟨rest, hrest⟩ : ∃ rest, rest = (fo ++ th).filter fun y => !decide (y = z) := ⟨_, rfl⟩
      rw [← hrest] at dr
      have inrest : ∀ y, y ∈ rest → y ∈ fo ++ th ∧ y ≠ z := fun y hy => by
        rw [hrest] at hy
        obtain ⟨h1, h2⟩ := List.mem_filter.mp hy
        exact ⟨h1, fun e => by rw [decide_eq_true e] at h2; cases h2⟩
      have restl : rest.length ≤ 7 := by
        rw [hrest]
        exact Nat.le_trans (List.length_filter_le _ _) n7
      obtain ⟨H4, hH4⟩ : ∃ H4, H4 = HR := ⟨_, rfl⟩
      have xr4 : ∀ b u, b ≠ l → HR b = some u → H4 b = some u := fun b u _ e => by rw [hH4]; exact e
      have xf4 : Ext H H4 := by rw [hH4]; exact xf3.trans xR
      have l4 : H4 l = some (.lst acc3) := by rw [hH4]; exact xR _ _ l3
      have r4 : Rows K H4 acc3 rs3 := by rw [hH4]; exact r3.ext xR
      have f4 : FactR fo th rs3 := f3
      obtain ⟨acc4, ha4⟩ : ∃ a, a = acc3 := ⟨_, rfl⟩
      obtain ⟨rs4, hrs4⟩ : ∃ a, a = rs3 := ⟨_, rfl⟩
      rw [← ha4] at l4 r4
      rw [← hrs4] at r4 f4
      have len4 : acc4.length ≤ 21 * i := by rw [ha4]; exact len3
      rw [← hH4]
      -- line
      refine ⟨_, rfl, .inl ⟨rfl, _, .inl (.inl l4)⟩, _, rfl, lr, rfl, ⟨_, SqL.of (xr4 _ _ nlr dr)⟩, fun D1 hD1 => ?_⟩
      refine lc_list (K := K) (a := lr) (xs := rest.map V.str) (fun k H' => Ext H4 H' ∧ ∃ xs rows, H' D1 = some (.lst xs) ∧ xs.length ≤ k ∧ Rows K H' xs rows ∧ FactR fo th rows) ⟨Ext.upd hD1, [], [], upd_same, Nat.le_refl _, True.intro, fun r hr => by cases hr⟩ (fun k H' _ z => SqL.of (z.1 _ _ (xr4 _ _ nlr dr))) ?_ ?_
      · rintro k v H' hv ⟨x', xs, rows, d', xl', rr', fr'⟩
        obtain ⟨y, hy, rfl⟩ := strs_at hv
        obtain ⟨my, nyz⟩ := inrest y (List.mem_of_getElem? hy)
        have k7 := (List.getElem?_eq_some_iff.mp hv).1
        rw [lm] at k7
        refine ⟨rfl, ?_⟩
        refine lcYes ?_
        refine ⟨_, rfl, _, rfl, Nat.le_of_ble_eq_true rfl, fun T hT => ?_⟩
        have xT := Ext.upd (o := .tup [.str "line", .str z, .str y]) hT
        refine ⟨xs, xT _ _ d', by rw [sizeLine_eq]; omega, (x'.trans xT).over hD1, xs ++ [.ref T], rows ++ [[("line" : Str), z, y]], upd_same, by rw [List.length_append]; exact Nat.succ_le_succ xl', Rows.upd (xT _ _ d') (Rows.app (rr'.ext xT) ⟨⟨T, rfl, SqT.of upd_same⟩, True.intro⟩), fun r hr => ?_⟩
        rcases List.mem_append.mp hr with hr | hr
        · exact fr' r hr
        · exact ⟨_, _, _, List.mem_singleton.mp hr, by decide, mzn, my, Ne.symm nyz, .inl rfl⟩
      rintro H5a ⟨x5a, xs1, rows1, d1, xl1, rr1, fr1⟩
      rw [lm] at xl1
      have l5a := x5a _ _ l4
      have nD1 : l ≠ D1 := ne_of_none l4 hD1
      refine ⟨l, D1, _, xs1, rfl, rfl, l5a, d1, by rw [sizeLine_eq]; omega, ?_⟩
      obtain ⟨H5, hH5⟩ : ∃ H', H' = L2.upd H5a l (.lst (acc4 ++ xs1)) := ⟨_, rfl⟩
      rw [← hH5]
      have l5 : H5 l = some (.lst (acc4 ++ xs1)) := by rw [hH5, upd_same]
      have y5 : ∀ b u, b ≠ l → H4 b = some u → H5 b = some u := fun b u n e => by rw [hH5, upd_ne n]; exact x5a b u e
      have xf5 : Ext H H5 := fun b u e => y5 b u (ne_of_none e hl0) (xf4 b u e)
      have xr5 : ∀ b u, b ≠ l → HR b = some u → H5 b = some u := fun b u n e => y5 b u n (xr4 b u n e)
      obtain ⟨acc5, ha5⟩ : ∃ a, a = acc4 ++ xs1 := ⟨_, rfl⟩
      rw [← ha5] at l5
      have r5 : Rows K H5 acc5 (rs4 ++ rows1) := by
        rw [hH5, ha5]
        exact Rows.upd l5a (Rows.app (r4.ext x5a) rr1)
      have f5 : FactR fo th (rs4 ++ rows1) := fun r hr => (List.mem_append.mp hr).elim (f4 r) (fr1 r)
      have len5 : acc5.length ≤ acc4.length + 7 := by rw [ha5, List.length_append]; omega
      obtain ⟨rs5, hrs5⟩ : ∃ a, a = rs4 ++ rows1 := ⟨_, rfl⟩
      rw [← hrs5] at r5 f5
      -- below
      refine ⟨_, rfl, .inl ⟨rfl, _, .inl (.inl l5)⟩, _, rfl, lr, rfl, ⟨_, SqL.of (xr5 _ _ nlr dr)⟩, fun D2 hD2 => ?_⟩
      refine lc_list (K := K) (a := lr) (xs := rest.map V.str) (fun k H' => Ext H5 H' ∧ ∃ xs rows, H' D2 = some (.lst xs) ∧ xs.length ≤ k ∧ Rows K H' xs rows ∧ FactR fo th rows) ⟨Ext.upd hD2, [], [], upd_same, Nat.le_refl _, True.intro, fun r hr => by cases hr⟩ (fun k H' _ z => SqL.of (z.1 _ _ (xr5 _ _ nlr dr))) ?_ ?_
      · rintro k v H' hv ⟨x', xs, rows, d', xl', rr', fr'⟩
        obtain ⟨y, hy, rfl⟩ := strs_at hv
        obtain ⟨my, nyz⟩ := inrest y (List.mem_of_getElem? hy)
        have k7 := (List.getElem?_eq_some_iff.mp hv).1
        rw [lm] at k7
        refine ⟨rfl, ?_⟩
        refine ⟨_, rfl, _, rfl, lf, _, rfl, .inl (SqL.of ((xf5.trans x') _ _ hf)), rfl, flat_strs _, _, rfl, ?_⟩
        rw [inV_str]
        refine ite2 (fun c => ?_) fun c => ?_
        · have mz : z ∈ fo := of_decide_eq_true c
          refine ⟨_, rfl, _, rfl, Nat.le_of_ble_eq_true rfl, fun T hT => ?_⟩
          have xT := Ext.upd (o := .tup [.str "below", .str y, .str z]) hT
          refine ⟨xs, xT _ _ d', by rw [sizeLine_eq]; omega, (x'.trans xT).over hD2, xs ++ [.ref T], rows ++ [[("below" : Str), y, z]], upd_same, by rw [List.length_append]; exact Nat.succ_le_succ xl', Rows.upd (xT _ _ d') (Rows.app (rr'.ext xT) ⟨⟨T, rfl, SqT.of upd_same⟩, True.intro⟩), fun r hr => ?_⟩
          rcases List.mem_append.mp hr with hr | hr
          · exact fr' r hr
          · exact ⟨_, _, _, List.mem_singleton.mp hr, by decide, my, mzn, nyz, .inr mz⟩
        · exact ⟨x', xs, rows, d', by omega, rr', fr'⟩
      rintro H6a ⟨x6a, xs2, rows2, d2, xl2, rr2, fr2⟩
      rw [lm] at xl2
      have l6a := x6a _ _ l5
      have nD2 : l ≠ D2 := ne_of_none l5 hD2
      refine ⟨l, D2, _, xs2, rfl, rfl, l6a, d2, by rw [sizeLine_eq]; omega, ?_⟩
      obtain ⟨H6, hH6⟩ : ∃ H', H' = L2.upd H6a l (.lst (acc5 ++ xs2)) := ⟨_, rfl⟩
      rw [← hH6]
      have l6 : H6 l = some (.lst (acc5 ++ xs2)) := by rw [hH6, upd_same]
      have y6 : ∀ b u, b ≠ l → H5 b = some u → H6 b = some u := fun b u n e => by rw [hH6, upd_ne n]; exact x6a b u e
      have xf6 : Ext H H6 := fun b u e => y6 b u (ne_of_none e hl0) (xf5 b u e)
      have xr6 : ∀ b u, b ≠ l → HR b = some u → H6 b = some u := fun b u n e => y6 b u n (xr5 b u n e)
      obtain ⟨acc6, ha6⟩ : ∃ a, a = acc5 ++ xs2 := ⟨_, rfl⟩
      rw [← ha6] at l6
      have r6 : Rows K H6 acc6 (rs5 ++ rows2) := by
        rw [hH6, ha6]
        exact Rows.upd l6a (Rows.app (r5.ext x6a) rr2)
      have f6 : FactR fo th (rs5 ++ rows2) := fun r hr => (List.mem_append.mp hr).elim (f5 r) (fr2 r)
      have len6 : acc6.length ≤ acc5.length + 7 := by rw [ha6, List.length_append]; omega
      obtain ⟨rs6, hrs6⟩ : ∃ a, a = rs5 ++ rows2 := ⟨_, rfl⟩
      rw [← hrs6] at r6 f6
      -- not
      refine ⟨_, rfl, .inl ⟨rfl, _, .inl (.inl l6)⟩, _, rfl, lr, rfl, ⟨_, SqL.of (xr6 _ _ nlr dr)⟩, fun D3 hD3 => ?_⟩
      refine lc_list (K := K) (a := lr) (xs := rest.map V.str) (fun k H' => Ext H6 H' ∧ ∃ xs rows, H' D3 = some (.lst xs) ∧ xs.length ≤ k ∧ Rows K H' xs rows ∧ FactR fo th rows) ⟨Ext.upd hD3, [], [], upd_same, Nat.le_refl _, True.intro, fun r hr => by cases hr⟩ (fun k H' _ z => SqL.of (z.1 _ _ (xr6 _ _ nlr dr))) ?_ ?_
      · rintro k v H' hv ⟨x', xs, rows, d', xl', rr', fr'⟩
        obtain ⟨y, hy, rfl⟩ := strs_at hv
        obtain ⟨my, nyz⟩ := inrest y (List.mem_of_getElem? hy)
        have k7 := (List.getElem?_eq_some_iff.mp hv).1
        rw [lm] at k7
        refine ⟨rfl, ?_⟩
        refine ⟨_, rfl, _, rfl, lf, _, rfl, .inl (SqL.of ((xf6.trans x') _ _ hf)), rfl, flat_strs _, _, rfl, ?_⟩
        rw [inV_str]
        refine ite2 (fun c => ?_) fun c => ?_
        · have mz : z ∈ fo := of_decide_eq_true c
          refine ⟨_, rfl, _, rfl, Nat.le_of_ble_eq_true rfl, fun T hT => ?_⟩
          have xT := Ext.upd (o := .tup [.str "not", .str y, .str z]) hT
          refine ⟨xs, xT _ _ d', by rw [sizeLine_eq]; omega, (x'.trans xT).over hD3, xs ++ [.ref T], rows ++ [[("not" : Str), y, z]], upd_same, by rw [List.length_append]; exact Nat.succ_le_succ xl', Rows.upd (xT _ _ d') (Rows.app (rr'.ext xT) ⟨⟨T, rfl, SqT.of upd_same⟩, True.intro⟩), fun r hr => ?_⟩
          rcases List.mem_append.mp hr with hr | hr
          · exact fr' r hr
          · exact ⟨_, _, _, List.mem_singleton.mp hr, by decide, my, mzn, nyz, .inr mz⟩
        · exact ⟨x', xs, rows, d', by omega, rr', fr'⟩
      rintro H7a ⟨x7a, xs3, rows3, d3, xl3, rr3, fr3⟩
      rw [lm] at xl3
      have l7a := x7a _ _ l6
      have nD3 : l ≠ D3 := ne_of_none l6 hD3
      refine ⟨l, D3, _, xs3, rfl, rfl, l7a, d3, by rw [sizeLine_eq]; omega, ?_⟩
      obtain ⟨H7, hH7⟩ : ∃ H', H' = L2.upd H7a l (.lst (acc6 ++ xs3)) := ⟨_, rfl⟩
      rw [← hH7]
      have l7 : H7 l = some (.lst (acc6 ++ xs3)) := by rw [hH7, upd_same]
      have y7 : ∀ b u, b ≠ l → H6 b = some u → H7 b = some u := fun b u n e => by rw [hH7, upd_ne n]; exact x7a b u e
      have xf7 : Ext H H7 := fun b u e => y7 b u (ne_of_none e hl0) (xf6 b u e)
      have xr7 : ∀ b u, b ≠ l → HR b = some u → H7 b = some u := fun b u n e => y7 b u n (xr6 b u n e)
      obtain ⟨acc7, ha7⟩ : ∃ a, a = acc6 ++ xs3 := ⟨_, rfl⟩
      rw [← ha7] at l7
      have r7 : Rows K H7 acc7 (rs6 ++ rows3) := by
        rw [hH7, ha7]
        exact Rows.upd l7a (Rows.app (r6.ext x7a) rr3)
      have f7 : FactR fo th (rs6 ++ rows3) := fun r hr => (List.mem_append.mp hr).elim (f6 r) (fr3 r)
      have len7 : acc7.length ≤ acc6.length + 7 := by rw [ha7, List.length_append]; omega
      obtain ⟨rs7, hrs7⟩ : ∃ a, a = rs6 ++ rows3 := ⟨_, rfl⟩
      rw [← hrs7] at r7 f7
      exact ⟨⟨_, _, _, rfl⟩, xf7, xr7 _ _ nln (xR _ _ n3), acc7, rs7, l7, by omega, r7, f7⟩
    · rintro σ H3 ⟨⟨v4, v5, v6, rfl⟩, xf3, n3, acc3, rs3, l3, len3, r3, f3⟩
      rw [lm] at len3
      exact ⟨_, rfl, q l acc3 rs3 H3 xf3 hl0 l3 r3 f3 (by omega)⟩
end
end My

namespace My
open PySem PySem.Spec PyProof.Rows L2
/-! ### what a tree holds, and keeps -/
def liesT (d : Dic) (x y : Str) : Bool := decide (y ∈ abv d x)
def spTHolds (K : PySem.W.Frag) (CT C CE : Addr) : Sp := fun vs H Q E => ∃ a q fo th d x, vs = [.ref a, x] ∧ TreeAt H K CT C a q fo th d ∧ ((FactOf K H fo th x false ∧ ∀ d' H', Ext H H' → H d' = none → H' d' = some (.xd [("index", .int 0)]) → E (.ref CE) (some d') H') ∨
  ∃ r wd b c, x = .ref r ∧ SeqAt2 K H r [.str wd, .str b, .str c] ∧ IsF fo th wd b c ∧ ∀ H', Ext H H' → Q (.bl (holdsG (liesT d) wd b c)) H')
theorem raise_c {f : Str} {CI : Addr} {σ : L2.St} {H H3 : Hp} {y : V} {E : XK} (x3 : Ext H H3) (q : ∀ d H', Ext H H' → H d = none → H' d = some (.xd [(f, y)]) → E (.ref CI) (some d) H') :
    tMkO CI (spInit CI f) [] (tCons (tC y) tNil) σ H3 fun cls d H' => E cls d H' := by
  refine ⟨Nat.le_of_ble_eq_true rfl, fun e he => ?_⟩
  refine ⟨e, _, rfl, upd_same, fun d hd ne => ⟨rfl, d, [(f, y)], upd_same, ?_, ?_, ?_⟩⟩
  · rw [upd_ne ne, upd_same]
  · rw [upd_ne ne] at hd
    exact hd
  · rw [upd_ne ne] at hd
    refine q d _ (fun b u k => ?_) ?_ upd_same
    · have k1 := x3 b u k
      rw [upd_ne (ne_of_none k1 hd), del_ne (ne_of_none k1 he), upd_ne (ne_of_none k1 he), upd_ne (ne_of_none k1 hd), upd_ne (ne_of_none k1 he)]
      exact k1
    · exact ext_none x3 hd
theorem fact_true {K : PySem.W.Frag} {H : Hp} {fo th : List Str} {r : Addr} {w b c : Str} (sq : SeqAt2 K H r [.str w, .str b, .str c]) (isf : IsF fo th w b c) : FactOf K H fo th (.ref r) true :=
  .inr (.inr ⟨r, _, _, _, rfl, sq, .inl rfl, .inl rfl, .inl rfl, (is_fact isf).symm⟩)
abbrev nm_Tree_holds : List Str := ["self", "fact", "word", "one", "other"]
theorem sc_Tree_holds : FnScope nm_Tree_holds ["self", "fact"] (defScope s_Tree_holds) := ⟨rfl, rfl, rfl, by decide +kernel, rfl, by decide +kernel, by decide +kernel⟩
section
variable {P : Program} {w : World} {K : PySem.W.Frag} {mg : Str → Option Value} {base : Heap} {f C CT CN CF CR CB CE : Addr} {fd : FuncData}
theorem ok_tHolds (Fn : FunD K "holds" "Tree.holds" (defArgs s_Tree_holds) (defBody s_Tree_holds) (defScope s_Tree_holds) [] [] f fd) (T : TreC K CT) {fA : Addr} {fdA : FuncData} (tmA : Meth K CT "above" fA) (tA : FnOk P w K mg base (L2.CX P w) 6 fA fdA ["self", "node"] (spTAbove K CT C CN)) (tbA : Binds K fdA ["self", "node"] [])
    (his_fact : Has P w K mg base 5 "is_fact" ["house", "thing"] (spIsFact K C)) (EB : Er P w K mg base "BadFact" "index" CE) :
    FnOk P w K mg base (L2.CX P w) 7 f fd ["self", "fact"] (spTHolds K CT C CE) := by
  obtain ⟨fI, fdI, TB, FB, bB, _⟩ := EB
  refine Fn.ok sc_Tree_holds (fun vs H Q E h => ?_) (fun cdv A outer s H vs Q E hr h => ⟨_,
    (pss_cons (ps_if (pt_not (pt_val (pe_has his_fact (hr.mono (by decide)) (pa_cons (pe_fld (pv 0) rfl) (pa_cons (pv 1) pa_nil))))) (pss_one (ps_raise rfl (takes_of rfl rfl rfl rfl) (pmk_oex TB.oex TB.iC TB.tI FB (hr.mono (by decide)) bB .nil pass0 (by rfl) TB.gl (pa_cons pe_int pa_nil)))) pss_nil)
      (pss_cons (ps_asg (pv 1) (pg_seq rfl (pgs_cons (pg_name (i := 2) sc_Tree_holds.nd rfl (Or.inl rfl)) (pgs_cons (pg_name (i := 3) sc_Tree_holds.nd rfl (Or.inl rfl)) (pgs_cons (pg_name (i := 4) sc_Tree_holds.nd rfl (Or.inl rfl)) pgs_nil)))))
      (pss_cons (ps_if (pt_cmpR op_eq (pv 2) pe_str (nomark _)) (pss_one (ps_ret (pe_or (pe_cmpR op_in_seq (pv 4) (pe_meth (pv 0) T.cl tmA tA (hr.mono (by decide)) tbA .nil (passes_call (takes_of rfl rfl rfl rfl) (fun _ _ _ _ h => h)) (pa_cons (pv 3) pa_nil)) (by rfl)) (pe_one (pe_cmpR op_in_seq (pv 3) (pe_meth (pv 0) T.cl tmA tA (hr.mono (by decide)) tbA .nil (passes_call (takes_of rfl rfl rfl rfl) (fun _ _ _ _ h => h)) (pa_cons (pv 4) pa_nil)) (by rfl)))))) pss_nil)
      (pss_one (ps_ret (pe_cmpR op_eq (pe_cmpR op_in_seq (pv 4) (pe_meth (pv 0) T.cl tmA tA (hr.mono (by decide)) tbA .nil (passes_call (takes_of rfl rfl rfl rfl) (fun _ _ _ _ h => h)) (pa_cons (pv 3) pa_nil)) (by rfl)) (pe_cmpR op_eq (pv 2) pe_str (nomark _)) (nomark _))))))), ?_⟩)
  · obtain ⟨a, q, fo, th, d, x, rfl, _⟩ := h
    rfl
  · obtain ⟨a, q, fo, th, d, x, rfl, tr, hh⟩ := h
    obtain ⟨dx, fs, ho, h1, h2, h3, h4, h5, ly, acy, len, nd, meth⟩ := id tr
    refine ⟨_, rfl, a, CT, dx, fs, _, rfl, h1, T.cl, T.nh, h2, ?_⟩
    rcases hh with ⟨fo1, qE⟩ | ⟨r, wd, b, c, rfl, sq, isf, q'⟩
    · refine ⟨_, rfl, ho, x, fo, th, false, rfl, h4, fo1, fun H1 x1 => ⟨false, rfl, ?_⟩⟩
      refine iteT ?_
      exact raise_c x1 qE
    · refine ⟨_, rfl, ho, _, fo, th, true, rfl, h4, fact_true sq isf, fun H1 x1 => ⟨true, rfl, ?_⟩⟩
      refine iteF ?_
      have sq1 := sq.ext x1
      refine ⟨_, rfl, r, _, rfl, sq1, rfl, _, _, rfl, _, _, rfl, _, _, rfl, rfl, ?_⟩
      have tr1 := tr.ext x1
      have mb : b ∈ fo ++ th := isf.2.1
      have mc : c ∈ fo ++ th := isf.2.2.1
      refine ⟨_, rfl, rfl, _, rfl, ?_⟩
      refine ite2 (fun e => ?_) fun e => ?_
      · have e' : wd = "line" := by
          have z := of_decide_eq_true e
          injection z
        subst e'
        have qq : ∀ H', Ext H H' → Q (.bl (liesT d b c || liesT d c b)) H' := q'
        refine ⟨_, rfl, _, rfl, a, dx, fs, rfl, x1 _ _ h1, meth _ (by decide), _, rfl, a, q, fo, th, d, _, rfl, tr1, .inl ⟨b, rfl, mb, fun t H2 x2 st => ?_⟩⟩
        refine ⟨t, _, rfl, .inr st, rfl, flat_strs _, _, rfl, ?_⟩
        rw [inV_str]
        show if liesT d b c = true then _ else _
        refine ite2 (fun c1 => ?_) fun c1 => ?_
        · rw [c1, Bool.true_or] at qq
          exact qq H2 (x1.trans x2)
        · rw [Bool.eq_false_iff.mpr c1, Bool.false_or] at qq
          refine ⟨_, rfl, _, rfl, a, dx, fs, rfl, (x1.trans x2) _ _ h1, meth _ (by decide), _, rfl, a, q, fo, th, d, _, rfl, tr1.ext x2, .inl ⟨c, rfl, mc, fun t2 H3 x3 st2 => ?_⟩⟩
          refine ⟨t2, _, rfl, .inr st2, rfl, flat_strs _, ?_⟩
          rw [inV_str]
          exact qq H3 (x1.trans (x2.trans x3))
      · have e' : wd ≠ "line" := fun h => e (decide_eq_true (by rw [h]))
        refine ⟨_, rfl, _, rfl, a, dx, fs, rfl, x1 _ _ h1, meth _ (by decide), _, rfl, a, q, fo, th, d, _, rfl, tr1, .inl ⟨b, rfl, mb, fun t H2 x2 st => ?_⟩⟩
        refine ⟨t, _, rfl, .inr st, rfl, flat_strs _, ?_⟩
        rw [inV_str]
        refine ⟨_, rfl, rfl, rfl, ?_⟩
        have z := q' H2 (x1.trans x2)
        have ev : decide (V.bl (decide (c ∈ abv d b)) = V.bl (decide (V.str wd = V.str "below"))) = holdsG (liesT d) wd b c := by
          have hw : wd = "below" ∨ wd = "not" := by
            have := isf.1
            unfold wordsS at this
            simp at this
            rcases this with h | h | h
            · exact .inl h
            · exact .inr h
            · exact absurd h e'
          unfold holdsG liesT
          rcases hw with rfl | rfl
          · rw [if_pos rfl]
            cases decide (c ∈ abv d b) <;> rfl
          · rw [if_neg (by decide), if_pos rfl]
            cases decide (c ∈ abv d b) <;> rfl
        rw [← ev] at z
        exact z
end
end My

namespace L2
open PySem PySem.Spec PyProof.Rows
/-- X(), X an own exception class without own __init__ -/
theorem pmk_own0 {X : Cx} {C : Addr} {bmB : List Value} {B newId initId : String} {x : Str} {p pos : Pos} (F : ExcBaseFacts B newId initId bmB) (q : PySem.W.excIn X.K C bmB newId = true) (gC : X.mg x = some (.ref C))
    (kC : PySem.W.keepIn X.K (.ref C) = true) (r : Raises X (.ref C)) (hg : Gl X x) (hdb : (x == ("__debug__" : Str)) = false := by decide) :
    PMk X (.Call (.Name x p) [] [] pos) (fun _ H Q => Q (.ref C) none H) := by
  intro pins s σ H Q I h
  refine wpAny_Call_Name_kw (ld_glob I hg gC ?_ hdb)
  refine PySem.W.callWith_K0 I.kIn kC ?_
  show wpAny _ _ (call (.ref C) []) _ _ _
  obtain ⟨bm, N, nm, qn, bs, hdct, sn, sub, ab, col, dd, k0, k1, k2, k3, k5, mN, hC, hN, hni, T⟩ := exc_obj I.kIn q
  refine wpAny_call_exc_subT F T hC hN hni (fun h' e hm => ?_) (Nat.zero_le _)
  exact mk_of I hm r h (I.hok.gone hm.new)
end L2

namespace My
open PySem PySem.Spec PyProof.Rows L2
/-- an error without anything in it -/
structure UnC (K : PySem.W.Frag) (mg : Str → Option Value) (CU : Addr) where
  bmB : List Value
  B : String
  newId : String
  initId : String
  F : ExcBaseFacts B newId initId bmB
  q : PySem.W.excIn K CU bmB newId = true
  g : mg "UnlikeHouses" = some (.ref CU)
  k : PySem.W.keepIn K (.ref CU) = true
  s1 : PySem.W.subIn K (.ref CU) (.type "BaseException") = some true
  s2 : PySem.W.typeIn K (.ref CU) = some (.type "type")
def spTKeeps (K : PySem.W.Frag) (CT C CFc CU : Addr) : Sp := fun vs H Q E => ∃ a q fo th d b fo2 th2 rows, vs = [.ref a, .ref b] ∧ TreeAt H K CT C a q fo th d ∧ FacAt H K CFc C b fo2 th2 rows ∧ (((decide (fo2 = fo) && decide (th2 = th)) = false ∧ ∀ H', Ext H H' → E (.ref CU) none H') ∨
  (fo2 = fo ∧ th2 = th ∧ TR fo th rows ∧ rows.length < 1000 ∧ ∀ H', Ext H H' → Q (.bl (rows.all (holdsGR (liesT d)))) H'))
abbrev nm_Tree_keeps : List Str := ["self", "facts", "fact"]
theorem sc_Tree_keeps : FnScope nm_Tree_keeps ["self", "facts"] (defScope s_Tree_keeps) := ⟨rfl, rfl, rfl, by decide +kernel, rfl, by decide +kernel, by decide +kernel⟩
section
variable {P : Program} {w : World} {K : PySem.W.Frag} {mg : Str → Option Value} {base : Heap} {f C CT CN CF CR CB CE CFc CU : Addr} {fd : FuncData}
theorem ok_tKeeps (Fn : FunD K "keeps" "Tree.keeps" (defArgs s_Tree_keeps) (defBody s_Tree_keeps) (defScope s_Tree_keeps) [] [] f fd) (T : TreC K CT) (Z : HouseTxt P w K mg C CB) (F : FacTxt P w K mg CFc C CE) {fH : Addr} {fdH : FuncData} (tmH : Meth K CT "holds" fH) (tH : FnOk P w K mg base (L2.CX P w) 7 fH fdH ["self", "fact"] (spTHolds K CT C CE)) (tbH : Binds K fdH ["self", "fact"] [])
    (EU : UnC K mg CU) (gB_all : mg "all" = none) :
    FnOk P w K mg base (L2.CX P w) 8 f fd ["self", "facts"] (spTKeeps K CT C CFc CU) := by
  refine Fn.ok sc_Tree_keeps (fun vs H Q E h => ?_) (fun cdv A outer s H vs Q E hr h => ⟨_,
    (pss_cons (ps_if (pt_cmpR (op_neO (EI := E0) (hr.mono (by decide)) Z.mE Z.ne Z.T.hm (Z.E _) Z.bE pass0) (pe_fld (pv 1) rfl) (pe_fld (pv 0) rfl) (nomark _)) (pss_one (ps_raise rfl (takes_of rfl rfl rfl rfl) (pmk_own0 EU.F EU.q EU.g EU.k (raises_own EU.s1 EU.s2) (by rfl)))) pss_nil)
      (pss_one (ps_ret (pe_callB (cr_all rfl) (by rfl) gB_all boot_all (pa_cons (pe_lc (own := [("fact", 2)]) (g := (gName 2)) (tt := tYes) rfl sc_Tree_keeps.nd (pi_list (pe_meth0 (pv 1) F.T.cl F.mT (F.To _) (hr.mono (by decide)) F.bT .nil pass0)) (blkOk_by (N := nm_Tree_keeps) (sc := defScope s_Tree_keeps) (by decide +kernel)) (fun _ _ _ _ _ => (pg_name (i := 2) sc_Tree_keeps.nd rfl (Or.inl rfl))) (fun _ _ _ _ _ => pts_nil) (fun _ _ _ _ _ => (pe_meth (pv 0) T.cl tmH tH (hr.mono (by decide)) tbH .nil passL (pa_cons (pv 2) pa_nil)))) pa_nil))))), ?_⟩)
  · obtain ⟨a, q, fo, th, d, b, fo2, th2, rows, rfl, _⟩ := h
    rfl
  · obtain ⟨a, q, fo, th, d, b, fo2, th2, rows, rfl, tr, fa, hh⟩ := h
    obtain ⟨dx, fs, ho, h1, h2, h3, h4, h5, ly, acy, len, nd, meth⟩ := id tr
    obtain ⟨dx', fs', ho', r, ys, g1, g2, g3, g4, g5, g6, g7, g8⟩ := id fa
    obtain ⟨hx, hfs, hins⟩ := g4.ins
    refine ⟨_, rfl, b, CFc, dx', fs', _, rfl, g1, F.T.cl, F.T.nh, g2, _, rfl, a, CT, dx, fs, _, rfl, h1, T.cl, T.nh, h2, ho', hx, hfs, .ref C, rfl, hins, tyH Z.T h4, by simp [PySem.W.notFirst], ho', fo2, th2, _, rfl, g4, .inr ⟨ho, fo, th, rfl, h4, _, rfl, _, rfl, ?_⟩⟩
    rcases hh with ⟨ne, qE⟩ | ⟨rfl, rfl, trr, rl, q'⟩
    · rw [ne]
      refine iteT ?_
      exact qE H Ext.rfl'
    · refine iteF' (by rw [decide_eq_true rfl, decide_eq_true rfl]; rfl) ?_
      refine ⟨_, rfl, b, dx', fs', rfl, g1, g8 _ (by decide), b, fo2, th2, rows, rfl, fa, fun l zs H1 x1 hl hl1 rz => ?_⟩
      refine ⟨l, rfl, ⟨_, SqL.of hl1⟩, fun D hD => ?_⟩
      have zl : zs.length = rows.length := rz.len
      refine lc_list (K := K) (a := l) (xs := zs) (fun i H' => Ext H1 H' ∧ H' D = some (.lst (((rows.take i).map (holdsGR (liesT d))).map V.bl))) ⟨Ext.upd hD, upd_same⟩ (fun i H' _ z => SqL.of (z.1 _ _ hl1)) ?_ ?_
      · intro i v H2 hv ⟨x2, l2⟩
        obtain ⟨t, r', rfl, sq, hr'⟩ := (rz.ext x2).at_ hv
        obtain ⟨wd, o, p, rfl, isf, _⟩ := trr r' (List.mem_of_getElem? hr')
        have tk : rows.take (i + 1) = rows.take i ++ [[wd, o, p]] := by
          rw [List.take_add_one, hr']
          rfl
        have i1 : i < zs.length := (List.getElem?_eq_some_iff.mp hv).1
        refine ⟨rfl, ?_⟩
        refine lcYes ?_
        refine ⟨_, rfl, a, dx, fs, rfl, (x1.trans x2) _ _ h1, meth _ (by decide), _, rfl, a, q, fo2, th2, d, _, rfl, tr.ext (x1.trans x2), .inr ⟨t, wd, o, p, rfl, .inr sq, isf, fun H3 x3 => ?_⟩⟩
        refine ⟨_, x3 _ _ l2, ?_, (x2.trans x3).over hD, ?_⟩
        · rw [List.length_map, List.length_map, List.length_take, sizeLine_eq]; omega
        · rw [upd_same, tk, List.map_append, List.map_append]
          rfl
      · rintro H2 ⟨x2, l2⟩
        rw [zl, List.take_length] at l2
        refine ⟨D, rows.map (holdsGR (liesT d)), rfl, SqL.of l2, ?_⟩
        rw [List.all_map]
        exact q' H2 (x1.trans x2)
end
end My

namespace L2
open PySem PySem.Spec PyProof.Rows
section
variable {P : Program} {w : World} {K : PySem.W.Frag} {mg : Str → Option Value} {base : Heap} {x qual : Str} {params : Arguments} {body : List Stmt} {scope : Scope} {dvs : List V} {kws : List (Str × V)} {f : Addr} {fd : FuncData}
/-- a def's rule, its code object known -/
theorem FunD.okC {CX : CXT} {N ps : List Str} {k : Nat} {sp : Sp} (F : FunD K x qual params body scope dvs kws f fd) (S : FnScope N ps scope) (len : ∀ vs H Q E, sp vs H Q E → vs.length = ps.length)
    (hbody : ∀ (cdv : Value) (A : Around) (outer : List Env) (s : Shared) (H : Hp) (vs : List V) (Q : VK) (E : XK), fd.code = cdv → Room k (A.deeper (envOfC qual scope s.heap.objs.size f cdv)) → sp vs H Q E →
      ∃ t, PSs (cxOf CX P w K mg base N qual scope f cdv A outer s H E) body t ∧ t { nx := fun _ H' => Q .non H', rt := Q } (start N vs) H) : FnOk P w K mg base CX (k + 1) f fd ps sp := by
  obtain ⟨oc, od, dV, kV, doc, pm, an, cdv, ct, osl, rfl, lk, hcd, _, _⟩ := F.ex
  exact fn_of lk hcd S len fun A outer s H vs Q E hr hsp => hbody cdv A outer s H vs Q E rfl hr hsp
end
end L2
namespace My
open PySem PySem.Spec PyProof.Rows L2 LamX
def TRef5 (K : PySem.W.Frag) (CE CU : Addr) : (XK → Hp → VK → Prop) → Hp → VK → Prop := fun tl H Q =>
  tl (fun cls d H' => (∃ (dd : Addr) (v : V), d = some dd ∧ cls = .ref CE ∧ H' dd = some (.xd [("index", v)]) ∧ ∀ t, H' t = none → Q (.ref t) (L2.upd H' t (.tup [.str "fact", v]))) ∨ (cls = .ref CU ∧ ∀ t, H' t = none → Q (.ref t) (L2.upd H' t (.tup [.str "unlike", .int 0])))) H (fun _ H' => Q .non H')
abbrev nm__law_refused : List Str := ["_law_ask", "e"]
theorem sc__law_refused : FnScope nm__law_refused ["_law_ask"] (defScope s__law_refused) := ⟨rfl, rfl, rfl, by decide +kernel, rfl, by decide +kernel, by decide +kernel⟩
structure RefC5 (K : PySem.W.Frag) (mg : Str → Option Value) (CE CU : Addr) : Prop where
  gE : mg "BadFact" = some (.ref CE)
  gU : mg "UnlikeHouses" = some (.ref CU)
  xE : XfC K CE
  nE : PySem.W.findIn K (.ref CE) "index" = some none
  ee : PySem.W.exmOne K (.ref CE) (.ref CE) = some true
  ue : PySem.W.exmOne K (.ref CU) (.ref CE) = some false
  uu : PySem.W.exmOne K (.ref CU) (.ref CU) = some true
theorem refused_gives5 {X : Cx} {g CE CU : Addr} {cdg : Value} {q : Str} (R : RefC5 X.K X.mg CE CU) :
    GivesTo X nm__law_refused "_law_refused" (defScope s__law_refused) g cdg (defBody s__law_refused) "_law_ask" q (TRef5 X.K CE CU) := by
  intro f c' s H Q tl act hc h
  refine ⟨_, pss_cons (ps_try_all (X := (cxOf C8.CX0 X.prog X.w X.K X.mg X.base nm__law_refused "_law_refused" (defScope s__law_refused) g cdg X.A X.stack s H C8.E0).nox)
      (tb := fun W D σ H => ∃ Ech : XK, (∀ cls d σ' H', Ech cls d H' → W cls d σ' H') ∧ σ[0]? = some (some (.ref f)) ∧ H c' = some (CodeO c' q) ∧ tl Ech H (fun _ H' => D.nx σ H'))
      rfl rfl sc__law_refused.nd L2.takes0 (fun W pn xe tk _ => ?_)
      (.as (i := 1) rfl rfl ⟨rfl, by decide, .inl R.gE⟩ (fun a oe cls d pn hz hf => pss_one (ps_ret (pe_tup (pa_cons pe_str (pa_cons (pe_xf R.xE R.nE hz hf (pv 1)) pa_nil)))))
      (.bare ⟨rfl, by decide, .inl R.gU⟩ (fun a oe cls d pn hz hf => pss_one (ps_ret (pe_tup (pa_cons pe_str (pa_cons pe_int pa_nil))))) .nil)))
    (pss_one (ps_ret pe_non)), ?_⟩
  · refine ⟨fun pins s' σ H' D I h' => ?_⟩
    obtain ⟨Ech, hW, h1, h2, h3⟩ := h'
    exact (pss_one (ps_expr (act W pn xe Ech _ _ tk hW))).run pins s' σ H' D I ⟨h1, h2, h3⟩
  · refine ⟨_, fun cls d σ' H' hE => ?_, rfl, hc, h⟩
    have slot : ∀ a : Addr, 1 < σ'.length → (σ'.set 1 (some (.ref a)))[1]? = some (some (.ref a)) := fun a hl => by rw [List.getElem?_set_self hl]
    rcases hE with ⟨dd, v, rfl, rfl, hd, hq⟩ | ⟨rfl, hq⟩
    · exact ⟨true, R.ee, fun _ a na hl => ⟨_, slot a hl, rfl, rfl, dd, _, v, rfl, hd, rfl, Nat.le_of_ble_eq_true rfl, fun t ht => hq t ht⟩, fun z => nomatch z⟩
    · exact ⟨false, R.ue, (fun z => nomatch z), fun _ => ⟨true, R.uu, fun _ a na => ⟨Nat.le_of_ble_eq_true rfl, fun t ht => hq t ht⟩, fun z => nomatch z⟩⟩
theorem pe_ask {X : Cx} {g c Pt CE CU : Addr} {fd : FuncData} {k : Nat} {params : Arguments} {body : Expr} {scope : Scope} {p lpos pos : Pos} {t : XK → TE} (R : RefC5 X.K X.mg CE CU) (Fn : FnP X.K "_law_refused" s__law_refused g fd) (hm : X.mg "_law_refused" = some (.ref g)) (b : Binds X.K fd ["_law_ask"] [])
    {T : List (Addr × Str)} (hmT : (Pt, X.env.qual ++ "<lambda>") ∈ T) (hu : ∀ p ∈ T, p.1 = Pt → p.2 = X.env.qual ++ "<lambda>") (TB : TabB X.base X.mg c Pt) (hcode : X.env.code = .ref c) (hr : Room (k + 2) X.A)
    (hbody : ∀ (A : Around) (outer : List Env) (s : Shared) (H : Hp) (E : XK) (f c' : Addr), Room k (A.deeper (lamEnv X scope s.heap.objs.size f c')) → PE (lamCx X A outer s H E scope f c') body (t E))
    (hg : Gl X "_law_refused" := by rfl) (L : lamSB X.env.scope scope = true := by rfl) (hdef : defaultsOf params X.env = ([], []) := by rfl)
    (hbind : ∀ (q : Str) (cl : List (Str × Addr)) (pm cv ctv : Value), bindArgs (PySem.W.kla_fn "<lambda>" q params body scope cl pm cv ctv) ⟨[], []⟩ = pure [] := by intros; rfl) :
    PE X (.Call (.Name "_law_refused" p) [.Lambda params body scope lpos] [] pos) (tLam T (TRef5 X.K CE CU) t) := by
  obtain ⟨oc, od, dV, kV, doc, pm, an, cdv, ct, osl, rfl, lk, hcd, _, _⟩ := Fn.ex
  exact pe_lamcall hg hm Fn.kp lk hcd b sc__law_refused rfl (.inl rfl) (refused_gives5 R) TB hcode hmT hu hr (lamS_by L) hdef hbind hbody
end My

namespace My
open PySem PySem.Spec PyProof.Rows L2 LamX
theorem sqT_extN {K : PySem.W.Frag} {H H' : Hp} {a : Addr} {xs : List V} (h : SqT K H a xs) (e : ExtN H H') : SqT K H' a xs := by
  rcases h with (h | ⟨o, h⟩) | h
  · exact .inl (.inl (e _ _ h fun _ z => nomatch z))
  · exact .inl (.inr ⟨o, e _ _ h fun _ z => nomatch z⟩)
  · exact .inr h
theorem hou_extN {H H' : Hp} {K : PySem.W.Frag} {C b : Addr} {fo th : List Str} (h : Hou H K C b fo th) (e : ExtN H H') : Hou H' K C b fo th := by
  obtain ⟨⟨dx, fs, f, t, n, h1, h2, h3, h4, h5, h6, h7⟩, ok⟩ := h
  exact ⟨⟨dx, fs, f, t, n, e _ _ h1 (fun _ z => nomatch z), h2, h3, h4, sqT_extN h5 e, sqT_extN h6 e, sqT_extN h7 e⟩, ok⟩
theorem tree_extN {H H' : Hp} {K : PySem.W.Frag} {CT C a q : Addr} {fo th : List Str} {d : Dic} (h : TreeAt H K CT C a q fo th d) (e : ExtN H H') : TreeAt H' K CT C a q fo th d := by
  obtain ⟨dx, fs, ho, h1, h2, h3, h4, h5, h6⟩ := h
  exact ⟨dx, fs, ho, e _ _ h1 (fun _ z => nomatch z), h2, h3, hou_extN h4 e, e _ _ h5 (fun _ z => nomatch z), h6⟩
theorem rows_extN {K : PySem.W.Frag} {H H' : Hp} (e : ExtN H H') : ∀ {xs : List V} {rs : List (List Str)}, Rows K H xs rs → Rows K H' xs rs
  | [], [], _ => True.intro
  | _ :: _, _ :: _, ⟨⟨t, e1, h⟩, hr⟩ => ⟨⟨t, e1, sqT_extN h e⟩, rows_extN e hr⟩
  | [], _ :: _, h => h.elim
  | _ :: _, [], h => h.elim
theorem fac_extN {H H' : Hp} {K : PySem.W.Frag} {CF C a : Addr} {fo th : List Str} {rows : List (List Str)} (h : FacAt H K CF C a fo th rows) (e : ExtN H H') : FacAt H' K CF C a fo th rows := by
  obtain ⟨dx, fs, ho, r, ys, h1, h2, h3, h4, h5, h6, h7, h8⟩ := h
  exact ⟨dx, fs, ho, r, ys, e _ _ h1 (fun _ z => nomatch z), h2, h3, hou_extN h4 e, sqT_extN h5 e, rows_extN e h6, h7, h8⟩
theorem extN_none {H H' : Hp} {p : Addr} (e : ExtN H H') (h : H' p = none) : ∀ u, H p = some u → ∃ ps, u = .tbl ps := fun u hu => by
  cases u with
  | tbl ps => exact ⟨ps, rfl⟩
  | _ =>
    rw [e p _ hu (fun _ z => nomatch z)] at h
    cases h
abbrev zq1 : List Str := ["zq"]
theorem Nok.sub {zs ws : List Str} (h : Nok zs) (p : ws.Sublist zs) : Nok ws := ⟨p.nodup h.1, fun z hz => h.2 z (p.subset hz)⟩
def zF : List Str := ["zq", "zr", "zs"]
def zT : List Str := ["zt", "zu", "zv"]
theorem zNok : Nok (zF ++ zT) := ⟨by decide +kernel, by decide +kernel⟩
theorem nok1 {fo th : List Str} (h : Nms (fo ++ th)) : Nok (fo ++ (th ++ zq1)) := (Nok.zq h).perm (by
  rw [← List.append_assoc]
  exact List.perm_append_singleton _ _)
theorem nok2 (m n : Nat) : Nok (zF.take m ++ zT.take n) := zNok.sub ((List.take_sublist m zF).append (List.take_sublist n zT))
theorem nok3 {fo th : List Str} (h : Nms (fo ++ th)) : Nok (fo.reverse ++ th) := h.ok.perm (List.Perm.append_right th (List.reverse_perm fo))
theorem rev_ne {fo : List Str} (nd : fo.Nodup) (l : 1 < fo.length) : fo.reverse ≠ fo := fun e => by
  have h0 : fo.reverse[0]? = fo[0]? := by rw [e]
  rw [List.getElem?_reverse (by omega)] at h0
  have := (List.getElem?_inj (by omega) nd).mp h0
  omega
theorem cut_m1 (xs : List V) : cutV xs none (some (-1)) = xs.take (xs.length - 1) := by
  unfold cutV
  have e : HT.sIx xs.length xs.length (some (-1)) = xs.length - 1 := by
    show (if (-1 : Int) < 0 then ((-1 : Int) + (xs.length : Int)).toNat else min (-1 : Int).toNat xs.length) = _
    rw [if_pos (by decide)]
    omega
  rw [e, HT.sIx_none, List.drop_zero, Nat.sub_zero]
theorem cut_l1 (xs : List V) : cutV xs (some (-1)) none = xs.drop (xs.length - 1) := by
  unfold cutV
  have e : HT.sIx xs.length 0 (some (-1)) = xs.length - 1 := by
    show (if (-1 : Int) < 0 then ((-1 : Int) + (xs.length : Int)).toNat else min (-1 : Int).toNat xs.length) = _
    rw [if_pos (by decide)]
    omega
  rw [e, HT.sIx_none, List.take_of_length_le (by rw [List.length_drop]; omega)]
abbrev nm__law_others_refused : List Str := ["_law_tree_here", "_law_folders", "_law_things", "_law_others", "_law_other", "_law_facts"]
theorem sc__law_others_refused : FnScope nm__law_others_refused ["_law_tree_here", "_law_folders", "_law_things"] (defScope s__law_others_refused) := ⟨rfl, rfl, rfl, by decide +kernel, rfl, by decide +kernel, by decide +kernel⟩
abbrev qOth : Str := (envOfC "_law_others_refused" (defScope s__law_others_refused) 0 0 .none).qual ++ "<lambda>"
def spOthers (K : PySem.W.Frag) (CT C : Addr) (T : List (Addr × Str)) : Sp := fun vs H Q _ => ∃ t q lf lt fo th d, vs = [.ref t, .ref lf, .ref lt] ∧ TreeAt H K CT C t q fo th d ∧ H lf = some (.lst (fo.map V.str)) ∧ H lt = some (.lst (th.map V.str)) ∧ Nms (fo ++ th) ∧ 1 ≤ fo.length ∧ fo.length ≤ 3 ∧ th.length ≤ 3 ∧ Tabs T H ∧ ∀ H', ExtN H H' → Tabs T H' → Q (.bl true) H'
/-- houses of other names -/
def OthH (K : PySem.W.Frag) (C : Addr) (fo th : List Str) (H : Hp) (xs : List V) : Prop := ∀ x, x ∈ xs → ∃ a fo2 th2, x = .ref a ∧ Hou H K C a fo2 th2 ∧ Nok (fo2 ++ th2) ∧ (fo2 ++ th2).length ≤ 8 ∧ (decide (fo2 = fo) && decide (th2 = th)) = false
theorem OthH.ext {K : PySem.W.Frag} {C : Addr} {fo th : List Str} {H H' : Hp} {xs : List V} (h : OthH K C fo th H xs) (e : Ext H H') : OthH K C fo th H' xs := fun x hx => by
  obtain ⟨a, f2, t2, h1, h2, h3⟩ := h x hx
  exact ⟨a, f2, t2, h1, h2.ext e, h3⟩
theorem OthH.updL {K : PySem.W.Frag} {C : Addr} {fo th : List Str} {H : Hp} {l : Addr} {ys zs xs : List V} (h : OthH K C fo th H xs) (hl : H l = some (.lst ys)) : OthH K C fo th (L2.upd H l (.lst zs)) xs := fun x hx => by
  obtain ⟨a, f2, t2, h1, h2, h3⟩ := h x hx
  exact ⟨a, f2, t2, h1, hou_upd h2 hl, h3⟩
theorem OthH.app {K : PySem.W.Frag} {C : Addr} {fo th : List Str} {H : Hp} {xs ys : List V} (h : OthH K C fo th H xs) (g : OthH K C fo th H ys) : OthH K C fo th H (xs ++ ys) := fun x hx => (List.mem_append.mp hx).elim (h x) (g x)
section
variable {P : Program} {w : World} {K : PySem.W.Frag} {mg : Str → Option Value} {base : Heap} {f C CT CB CF CE CU CFc c Pt fR fK : Addr} {fd fdR fdK : FuncData} {Ts : List (Addr × Str)}
theorem ok_others (Fn : FnP K "_law_others_refused" s__law_others_refused f fd) (hc : fd.code = .ref c) (TB : TabB base mg c Pt) (hmT : (Pt, qOth) ∈ Ts) (hu : ∀ p ∈ Ts, p.1 = Pt → p.2 = qOth) (Z : HouseTxt P w K mg C CB) (F : FacTxt P w K mg CFc C CE) (T : TreC K CT) (R : RefC5 K mg CE CU) (Fr : FnP K "_law_refused" s__law_refused fR fdR) (hmr : mg "_law_refused" = some (.ref fR)) (br : Binds K fdR ["_law_ask"] [])
    (tmK : Meth K CT "keeps" fK) (tK : FnOk P w K mg base (L2.CX P w) 8 fK fdK ["self", "facts"] (spTKeeps K CT C CFc CU)) (tbK : Binds K fdK ["self", "facts"] []) (gB_len : mg "len" = none) : FnOk P w K mg base CX0 12 f fd ["_law_tree_here", "_law_folders", "_law_things"] (spOthers K CT C Ts) := by
  refine Fn.okC sc__law_others_refused (fun vs H Q E h => ?_) (fun cdv A outer s H vs Q E hcd hr h => ⟨_, PSs.nox
    (pss_cons (ps_set (i := 3) sc__law_others_refused.nd rfl (Or.inl rfl) (pe_lst (pa_cons (pe_make Z.M (Z.I _) (hr.mono (by decide)) (by rfl) Z.gH Z.bI .nil passL (pa_cons (pv 1) (pa_cons (pe_op L2.op_cat (pv 2) (pe_lst (pa_cons pe_str pa_nil))) pa_nil))) pa_nil)))
      (pss_cons (ps_expr (pe_bm PySem.F.plainAttrs_list PySem.F.slot_list_append PySem.F.type_list_append mt_append (pv 3) (pa_cons (pe_make Z.M (Z.I _) (hr.mono (by decide)) (by rfl) Z.gH Z.bI .nil passL (pa_cons (pe_slice sl_list (pe_lst (pa_cons pe_str (pa_cons pe_str (pa_cons pe_str pa_nil)))) po_none (po_some (pe_callB call_len (by rfl) gB_len boot_len (pa_cons (pv 1) pa_nil)))) (pa_cons (pe_slice sl_list (pe_lst (pa_cons pe_str (pa_cons pe_str (pa_cons pe_str pa_nil)))) po_none (po_some (pe_callB call_len (by rfl) gB_len boot_len (pa_cons (pv 2) pa_nil)))) pa_nil))) pa_nil)))
      (C8.pss_cut (ps_if (pt_cmpR op_gt (pe_callB call_len (by rfl) gB_len boot_len (pa_cons (pv 1) pa_nil)) pe_int (nomark _)) (pss_one (ps_expr (pe_bm PySem.F.plainAttrs_list PySem.F.slot_list_extend PySem.F.type_list_extend mt_extend (pv 3) (pa_cons (pe_lst (pa_cons (pe_make Z.M (Z.I _) (hr.mono (by decide)) (by rfl) Z.gH Z.bI .nil passL (pa_cons (pe_revL (pv 1)) (pa_cons (pv 2) pa_nil))) (pa_cons (pe_make Z.M (Z.I _) (hr.mono (by decide)) (by rfl) Z.gH Z.bI .nil passL (pa_cons (pe_slice sl_list (pv 1) po_none (po_some (pe_un un_neg pe_int))) (pa_cons (pe_op L2.op_cat (pe_slice sl_list (pv 1) (po_some (pe_un un_neg pe_int)) po_none) (pv 2)) pa_nil))) pa_nil))) pa_nil)))) pss_nil)
      (pss_cons (ps_for PassesOwn.never rfl (pi_list (pv 3)) (pg_name (i := 4) sc__law_others_refused.nd rfl (Or.inl rfl))
      (pss_cons (ps_set (i := 5) sc__law_others_refused.nd rfl (Or.inr rfl) (pe_make F.M (F.I _) (hr.mono (by decide)) (by rfl) F.gF F.bD F.vD passL (pa_cons (pv 4) pa_nil)))
      (pss_one (ps_if (pt_cmpR (op_neSelf hr.units0) (pe_ask R Fr hmr br hmT hu TB (hcd.symm.trans hc) hr  (fun A outer s H E f c' hr => (pe_meth (pv 0) T.cl tmK tK (hr.mono (by decide)) tbK .nil (passes_call (takes_of rfl rfl rfl rfl) (fun _ _ _ _ h => h)) (pa_cons (pv 5) pa_nil)))) (pe_tup (pa_cons pe_str (pa_cons pe_int pa_nil))) (nomark _)) (pss_one (ps_ret pe_bl)) pss_nil))))
      (pss_one (ps_ret pe_bl)))))), ?_⟩)
  · obtain ⟨t, q, lf, lt, fo, th, d, rfl, _⟩ := h
    rfl
  · obtain ⟨t, q, lf, lt, fo, th, d, rfl, tr, hf, ht, nms, f1, f3, t3, tb, qq⟩ := h
    have lm : ∀ zs : List Str, (zs.map V.str).length = zs.length := fun zs => List.length_map _
    have nd := nms.1
    have fne : fo ≠ [] := fun e => by rw [e] at f1; exact absurd f1 (by decide)
    have ndf : fo.Nodup := (List.nodup_append.mp nd).1
    -- the first
    refine ⟨_, rfl, _, rfl, Nat.le_of_ble_eq_true rfl, fun l0 hl0 => ?_⟩
    have z0 := Ext.upd (o := .lst [V.str "zq"]) hl0
    refine ⟨lt, l0, _, _, rfl, rfl, z0 _ _ ht, upd_same, by rw [lm, sizeLine_eq]; show th.length + 1 ≤ _; omega, fun la hla => ?_⟩
    have za := Ext.upd (o := .lst (th.map V.str ++ [V.str "zq"])) hla
    obtain ⟨H1, hH1⟩ : ∃ H1, H1 = L2.upd (L2.upd H l0 (.lst [V.str "zq"])) la (.lst (th.map V.str ++ [V.str "zq"])) := ⟨_, rfl⟩
    rw [← hH1]
    have x1 : Ext H H1 := by rw [hH1]; exact z0.trans za
    have la1 : H1 la = some (.lst ((th ++ zq1).map V.str)) := by rw [hH1, upd_same, List.map_append]; rfl
    intro h dh hh hdh nh
    refine mk_at (a := lf) (b := la) (fo := fo) (th := th ++ zq1) (.inl (SqL.of (x1 _ _ hf))) (.inl (SqL.of la1)) (nok1 nms) fne (by rw [List.length_append, List.length_append, sizeLine_eq]; show fo.length + (th.length + 1) ≤ _; omega) hh hdh nh fun H2 x2 hou2 => ?_
    refine ⟨Nat.le_of_ble_eq_true rfl, fun lo hlo => ?_⟩
    have z3 := Ext.upd (o := .lst [V.ref h]) hlo
    obtain ⟨H3, hH3⟩ : ∃ H3, H3 = L2.upd H2 lo (.lst [V.ref h]) := ⟨_, rfl⟩
    rw [← hH3] at z3 ⊢
    have lo3 : H3 lo = some (.lst [V.ref h]) := by rw [hH3, upd_same]
    have x03 : Ext H H3 := x1.trans (x2.trans z3)
    have o3 : OthH K C fo th H3 [.ref h] := fun x hx => by
      rw [List.mem_singleton.mp hx]
      refine ⟨h, fo, th ++ zq1, rfl, hou2.ext z3, nok1 nms, by rw [List.length_append, List.length_append]; show fo.length + (th.length + 1) ≤ 8; omega, ?_⟩
      have : th ++ zq1 ≠ th := fun e => by
        have := congrArg List.length e
        rw [List.length_append] at this
        have this : th.length + 1 = th.length := this
        omega
      rw [decide_eq_false this, Bool.and_false]
    have lo0 : H lo = none := ext_none (x1.trans x2) hlo
    -- the second
    refine ⟨_, rfl, .inl ⟨rfl, _, .inl (.inl lo3)⟩, ?_⟩
    refine ⟨Nat.le_of_ble_eq_true rfl, fun l4 hl4 => ?_⟩
    have z4 := Ext.upd (o := .lst (zF.map V.str)) hl4
    have f4 := (x03.trans z4) _ _ hf
    refine ⟨_, rfl, _, _, rfl, .inl ⟨_, SqL.of f4, rfl⟩, _, rfl, l4, zF.map V.str, rfl, SqL.of upd_same, fun lb hlb => ?_⟩
    have eb : cutV (zF.map V.str) none (some (((fo.map V.str).length : Nat) : Int)) = (zF.take fo.length).map V.str := by rw [lm, cutV_take (show fo.length ≤ 3 from f3), List.map_take]
    rw [eb]
    obtain ⟨H4, hH4⟩ : ∃ H4, H4 = L2.upd (L2.upd H3 l4 (.lst (zF.map V.str))) lb (.lst ((zF.take fo.length).map V.str)) := ⟨_, rfl⟩
    have x34 : Ext H3 H4 := by rw [hH4]; exact z4.trans (Ext.upd hlb)
    have lb4 : H4 lb = some (.lst ((zF.take fo.length).map V.str)) := by rw [hH4, upd_same]
    have e4 : H4 = L2.upd (L2.upd H3 l4 (.lst [.str "zq", .str "zr", .str "zs"])) lb (.lst ((zF.take fo.length).map V.str)) := hH4
    rw [← e4]
    refine ⟨Nat.le_of_ble_eq_true rfl, fun l5 hl5 => ?_⟩
    have z5 := Ext.upd (o := .lst (zT.map V.str)) hl5
    have t5 := (x03.trans (x34.trans z5)) _ _ ht
    refine ⟨_, rfl, _, _, rfl, .inl ⟨_, SqL.of t5, rfl⟩, _, rfl, l5, zT.map V.str, rfl, SqL.of upd_same, fun lc hlc => ?_⟩
    have ec : cutV (zT.map V.str) none (some (((th.map V.str).length : Nat) : Int)) = (zT.take th.length).map V.str := by rw [lm, cutV_take (show th.length ≤ 3 from t3), List.map_take]
    rw [ec]
    obtain ⟨H5, hH5⟩ : ∃ H5, H5 = L2.upd (L2.upd H4 l5 (.lst (zT.map V.str))) lc (.lst ((zT.take th.length).map V.str)) := ⟨_, rfl⟩
    have x45 : Ext H4 H5 := by rw [hH5]; exact z5.trans (Ext.upd hlc)
    have lc5 : H5 lc = some (.lst ((zT.take th.length).map V.str)) := by rw [hH5, upd_same]
    have e5 : H5 = L2.upd (L2.upd H4 l5 (.lst [.str "zt", .str "zu", .str "zv"])) lc (.lst ((zT.take th.length).map V.str)) := hH5
    rw [← e5]
    have ln2 : (zF.take fo.length ++ zT.take th.length).length ≤ 6 := by
      rw [List.length_append, List.length_take, List.length_take]
      show min fo.length 3 + min th.length 3 ≤ 6
      omega
    intro h2 dh2 hh2 hdh2 nh2
    refine mk_at (a := lb) (b := lc) (fo := zF.take fo.length) (th := zT.take th.length) (.inl (SqL.of (x45 _ _ lb4))) (.inl (SqL.of lc5)) (nok2 _ _) ?_ (by rw [sizeLine_eq]; omega) hh2 hdh2 nh2 fun H6 x6 hou6 => ?_
    · intro e
      have := congrArg List.length e
      rw [List.length_take] at this
      have this : min fo.length 3 = 0 := this
      omega
    have x36 : Ext H3 H6 := x34.trans (x45.trans x6)
    have lo6 := x36 _ _ lo3
    refine ⟨lo, _, _, rfl, rfl, lo6, Nat.le_of_ble_eq_true rfl, ?_⟩
    obtain ⟨H7, hH7⟩ : ∃ H7, H7 = L2.upd H6 lo (.lst ([V.ref h] ++ [V.ref h2])) := ⟨_, rfl⟩
    rw [← hH7]
    have lo7 : H7 lo = some (.lst ([V.ref h] ++ [V.ref h2])) := by rw [hH7, upd_same]
    have x07 : Ext H H7 := by rw [hH7]; exact (x03.trans x36).over lo0
    have o7 : OthH K C fo th H7 ([V.ref h] ++ [V.ref h2]) := by
      rw [hH7]
      refine OthH.app ((o3.ext x36).updL lo6) (OthH.updL (fun x hx => ?_) lo6)
      rw [List.mem_singleton.mp hx]
      refine ⟨h2, _, _, rfl, hou6, nok2 _ _, by omega, ?_⟩
      have : zF.take fo.length ≠ fo := fun e => by
        cases fo with
        | nil => exact fne rfl
        | cons a r =>
          have e : ("zq" : Str) :: [("zr" : Str), "zs"].take r.length = a :: r := e
          injection e with e1 _
          exact (nms.2 a (List.mem_append_left _ List.mem_cons_self)).2.2.1 e1.symm
      rw [decide_eq_false this, Bool.false_and]
    -- two more
    refine ⟨fun σ' H' => σ' = [some (.ref t), some (.ref lf), some (.ref lt), some (.ref lo), none, none] ∧ Ext H H' ∧ ∃ xs, H' lo = some (.lst xs) ∧ OthH K C fo th H' xs, ?_, ?_⟩
    · refine ⟨_, rfl, _, _, rfl, .inl ⟨_, SqL.of (x07 _ _ hf), rfl⟩, _, _, rfl, rfl, _, rfl, ?_⟩
      refine ite2 (fun c => ?_) fun c => ?_
      · have l1 : 1 < fo.length := by
          have := of_decide_eq_true c
          rw [lm] at this
          omega
        refine ⟨_, rfl, .inl ⟨rfl, _, .inl (.inl lo7)⟩, ?_⟩
        refine ⟨_, rfl, lf, _, rfl, SqL.of (x07 _ _ hf), fun lv hlv => ⟨_, rfl, ?_⟩⟩
        have z8 := Ext.upd (o := .lst (fo.map V.str).reverse) hlv
        obtain ⟨H8, hH8⟩ : ∃ H8, H8 = L2.upd H7 lv (.lst (fo.map V.str).reverse) := ⟨_, rfl⟩
        rw [← hH8] at z8 ⊢
        have lv8 : H8 lv = some (.lst (fo.reverse.map V.str)) := by rw [hH8, upd_same, List.map_reverse]
        have x08 := x07.trans z8
        intro h3 dh3 hh3 hdh3 nh3
        refine mk_at (a := lv) (b := lt) (fo := fo.reverse) (th := th) (.inl (SqL.of lv8)) (.inl (SqL.of (x08 _ _ ht))) (nok3 nms) (fun e => fne (by simpa using congrArg List.reverse e)) (by rw [List.length_append, List.length_reverse, sizeLine_eq]; omega) hh3 hdh3 nh3 fun H9 x9 hou9 => ?_
        have x09 := x08.trans x9
        refine ⟨_, rfl, 1, rfl, _, rfl, lf, _, rfl, SqL.of (x09 _ _ hf), fun ld hld => ?_⟩
        have ed : cutV (fo.map V.str) none (some (-1)) = (fo.take (fo.length - 1)).map V.str := by rw [cut_m1, lm, List.map_take]
        rw [ed]
        have za := Ext.upd (o := .lst ((fo.take (fo.length - 1)).map V.str)) hld
        obtain ⟨HA, hHA⟩ : ∃ HA, HA = L2.upd H9 ld (.lst ((fo.take (fo.length - 1)).map V.str)) := ⟨_, rfl⟩
        rw [← hHA] at za ⊢
        have ldA : HA ld = some (.lst ((fo.take (fo.length - 1)).map V.str)) := by rw [hHA, upd_same]
        have x0A := x09.trans za
        refine ⟨_, rfl, 1, rfl, _, rfl, lf, _, rfl, SqL.of (x0A _ _ hf), fun le hle => ?_⟩
        have ee : cutV (fo.map V.str) (some (-1)) none = (fo.drop (fo.length - 1)).map V.str := by rw [cut_l1, lm, List.map_drop]
        rw [ee]
        have zb := Ext.upd (o := .lst ((fo.drop (fo.length - 1)).map V.str)) hle
        refine ⟨_, rfl, le, lt, _, _, rfl, rfl, upd_same, (x0A.trans zb) _ _ ht, by rw [lm, lm, List.length_drop, sizeLine_eq]; omega, fun lg hlg => ?_⟩
        obtain ⟨HC, hHC⟩ : ∃ HC, HC = L2.upd (L2.upd HA le (.lst ((fo.drop (fo.length - 1)).map V.str))) lg (.lst ((fo.drop (fo.length - 1)).map V.str ++ th.map V.str)) := ⟨_, rfl⟩
        have xAC : Ext HA HC := by rw [hHC]; exact zb.trans (Ext.upd hlg)
        have lgC : HC lg = some (.lst ((fo.drop (fo.length - 1) ++ th).map V.str)) := by rw [hHC, upd_same, List.map_append]
        rw [← hHC]
        have same : fo.take (fo.length - 1) ++ (fo.drop (fo.length - 1) ++ th) = fo ++ th := by rw [← List.append_assoc, List.take_append_drop]
        intro h4 dh4 hh4 hdh4 nh4
        refine mk_at (a := ld) (b := lg) (fo := fo.take (fo.length - 1)) (th := fo.drop (fo.length - 1) ++ th) (.inl (SqL.of (xAC _ _ ldA))) (.inl (SqL.of lgC)) (by rw [same]; exact nms.ok) (fun e => ?_) (by rw [same, List.length_append, sizeLine_eq]; omega) hh4 hdh4 nh4 fun HD xD houD => ?_
        · have := congrArg List.length e
          rw [List.length_take, List.length_nil] at this
          omega
        refine ⟨Nat.le_of_ble_eq_true rfl, fun lx hlx => ?_⟩
        have zx := Ext.upd (o := .lst [V.ref h3, V.ref h4]) hlx
        obtain ⟨HE, hHE⟩ : ∃ HE, HE = L2.upd HD lx (.lst [V.ref h3, V.ref h4]) := ⟨_, rfl⟩
        rw [← hHE] at zx ⊢
        have lxE : HE lx = some (.lst [V.ref h3, V.ref h4]) := by rw [hHE, upd_same]
        have x7E : Ext H7 HE := z8.trans (x9.trans (za.trans (xAC.trans (xD.trans zx))))
        have loE := x7E _ _ lo7
        refine ⟨lo, lx, _, _, rfl, rfl, loE, lxE, Nat.le_of_ble_eq_true rfl, ?_⟩
        refine ⟨rfl, (x07.trans x7E).over lo0, _, upd_same, OthH.app ((o7.ext x7E).updL loE) (OthH.updL (fun x hx => ?_) loE)⟩
        have hx : x = .ref h3 ∨ x = .ref h4 := by simpa using hx
        rcases hx with rfl | rfl
        · refine ⟨h3, _, _, rfl, hou9.ext (za.trans (xAC.trans (xD.trans zx))), nok3 nms, by rw [List.length_append, List.length_reverse]; omega, ?_⟩
          rw [decide_eq_false (rev_ne ndf l1), Bool.false_and]
        · refine ⟨h4, _, _, rfl, houD.ext zx, by rw [same]; exact nms.ok, by rw [same, List.length_append]; omega, ?_⟩
          have : fo.take (fo.length - 1) ≠ fo := fun e => by
            have := congrArg List.length e
            rw [List.length_take] at this
            omega
          rw [decide_eq_false this, Bool.false_and]
      · exact ⟨rfl, x07, _, lo7, o7⟩
    · rintro σ' H8 ⟨rfl, x8, xs, lo8, o8⟩
      have tb8 := tb.ext x8
      refine ⟨_, rfl, lo, rfl, ⟨_, SqL.of lo8⟩, for_list (K := K) (a := lo) (xs := xs) (fun i σ H' => (∃ v4 v5, σ = [some (.ref t), some (.ref lf), some (.ref lt), some (.ref lo), v4, v5]) ∧ ExtN H8 H' ∧ Tabs Ts H') ⟨⟨_, _, rfl⟩, ExtN.refl _, tb8⟩ (fun i σ H' _ z => SqL.of (z.2.1 _ _ lo8 (fun _ z => nomatch z))) ?_ ?_⟩
      · rintro i v σ H9 hv ⟨⟨v4, v5, rfl⟩, x9, tb9⟩
        obtain ⟨a, fo2, th2, rfl, hou2, nok2', len2, ne2⟩ := o8 v (List.mem_of_getElem? hv)
        have hou9 := hou_extN hou2 x9
        have tr9 := tree_extN (tr.ext x8) x9
        refine ⟨_, rfl, ?_⟩
        intro x' dx' hx' hdx' nx'
        refine mkF (xs := []) (rs := []) hou9 nok2'.1 (by rw [sizeLine_eq]; omega) (fun z hz => (nok2'.2 z hz).2.1) (.inr (F.tD _)) ⟨rfl, fun i x h => by cases h⟩ (fun r hr => by cases hr) (by decide) hx' hdx' nx' fun HA xA fa => ?_
        have trA := tr9.ext xA
        obtain ⟨dxt, fst, hot, g1, _, _, _, _, _, _, _, _, meth⟩ := id trA
        refine ⟨tb9.ext xA, fun HB eB tB => ?_⟩
        have trB := tree_extN trA eB
        have faB := fac_extN fa eB
        refine ⟨_, rfl, t, dxt, fst, rfl, eB _ _ g1 (fun _ z => nomatch z), meth _ (by decide), _, rfl, t, q, fo, th, d, x', fo2, th2, _, rfl, trB, faB, .inl ⟨ne2, fun HC xC => .inr ⟨rfl, fun r hr => ?_⟩⟩⟩
        have xr := Ext.upd (o := .tup [.str "unlike", .int 0]) hr
        refine ⟨Nat.le_of_ble_eq_true rfl, fun b hb => ?_⟩
        have xb := Ext.upd (o := .tup [.str "unlike", .int 0]) hb
        refine ⟨r, b, [.str "unlike", .int 0], rfl, rfl, SqT.of (xb _ _ upd_same), SqT.of upd_same, rfl, _, rfl, ?_⟩
        refine iteF ?_
        have xx := xC.trans (xr.trans xb)
        exact ⟨⟨_, _, rfl⟩, x9.trans ((ExtN.of xA).trans (eB.trans (ExtN.of xx))), tB.ext xx⟩
      · rintro σ H9 ⟨⟨v4, v5, rfl⟩, x9, tb9⟩
        exact qq H9 ((ExtN.of x8).trans x9) tb9
end
end My

namespace My
open PySem PySem.Spec PyProof.Rows L2
/-- what is needed of the class Tree -/
structure TreeTxt (P : Program) (w : World) (K : PySem.W.Frag) (mg : Str → Option Value) (CT C CN CF CR : Addr) where
  T : TreC K CT
  gT : mg "Tree" = some (.ref CT)
  kTT : PySem.W.kitOne K (.ref CT) (.ref CT) = some true
  ne : PySem.W.findIn K (.ref CT) "__ne__" = some (some (.builtin "object.__ne__"))
  fI : Addr
  fdI : FuncData
  M0 : Mk K CT fI
  I : ∀ base, FnOk P w K mg base (L2.CX P w) 6 fI fdI ["self", "house", "over"] (spTInit K CT C CF CR)
  bI : Binds K fdI ["self", "house", "over"] []
  fV : Addr
  fdV : FuncData
  mV : Meth K CT "over" fV
  V : ∀ base, FnOk P w K mg base (L2.CX P w) 5 fV fdV ["self", "node"] (spTOver K CT C CN)
  bV : Binds K fdV ["self", "node"] []
  fA : Addr
  fdA : FuncData
  mA : Meth K CT "above" fA
  A : ∀ base, FnOk P w K mg base (L2.CX P w) 6 fA fdA ["self", "node"] (spTAbove K CT C CN)
  bA : Binds K fdA ["self", "node"] []
  fW : Addr
  fdW : FuncData
  mW : Meth K CT "below" fW
  W : ∀ base, FnOk P w K mg base (L2.CX P w) 7 fW fdW ["self", "folder"] (spTBelow K CT C CF)
  bW : Binds K fdW ["self", "folder"] []
  fL : Addr
  fdL : FuncData
  mL : Meth K CT "lies" fL
  L : ∀ base, FnOk P w K mg base (L2.CX P w) 7 fL fdL ["self", "node", "folder"] (spTLies K CT C CN CF)
  bL : Binds K fdL ["self", "node", "folder"] []
  fM : Addr
  fdM : FuncData
  mM : Meth K CT "moved" fM
  M : ∀ base, FnOk P w K mg base (L2.CX P w) 8 fM fdM ["self", "node", "folder"] (spTMoved K CT C CN CF CR)
  bM : Binds K fdM ["self", "node", "folder"] []
  fE : Addr
  fdE : FuncData
  mE : OwnM K CT "__eq__" fE
  E : ∀ base, FnOk P w K mg base CX0 2 fE fdE ["self", "other"] (spTEq K CT C)
  bE : Binds K fdE ["self", "other"] []
/-! ### a dict without what is not told -/
def cutN (d : Dic) : Dic := d.filter fun p => !decide (p.2 = .non)
theorem cutN_snoc (d : Dic) (p : Str × V) : cutN (d ++ [p]) = cutN d ++ if (!decide (p.2 = .non)) = true then [p] else [] := by
  unfold cutN
  rw [List.filter_append]
  by_cases c : (!decide (p.2 = .non)) = true
  · rw [List.filter_cons, if_pos c, if_pos c]
    rfl
  · rw [List.filter_cons, if_neg c, if_neg c]
    rfl
theorem cutN_key {d : Dic} {z : Str} (h : z ∈ (cutN d).map (·.1)) : z ∈ d.map (·.1) := by
  obtain ⟨p, hp, rfl⟩ := List.mem_map.mp h
  exact List.mem_map.mpr ⟨p, (List.mem_filter.mp hp).1, rfl⟩
theorem cutN_nd {d : Dic} (nd : (d.map (·.1)).Nodup) : ((cutN d).map (·.1)).Nodup := (List.filter_sublist.map _).nodup nd
theorem getD_cut {w : Str} : ∀ {d : Dic}, (d.map (·.1)).Nodup → (getD (cutN d) w).getD .non = (getD d w).getD .non
  | [], _ => rfl
  | p :: d, nd => by
    rw [List.map_cons] at nd
    obtain ⟨n1, n2⟩ := List.nodup_cons.mp nd
    have e : cutN (p :: d) = (if (!decide (p.2 = .non)) = true then [p] else []) ++ cutN d := by
      unfold cutN
      rw [List.filter_cons]
      split <;> rfl
    rw [e, getD_app, getD_cons]
    by_cases c : p.1 = w
    · rw [if_pos c]
      by_cases c2 : p.2 = .non
      · rw [if_neg (by rw [decide_eq_true c2]; simp), getD_none (d := cutN d) (fun m => n1 (by rw [c]; exact cutN_key m)), c2]
        rfl
      · rw [if_pos (by rw [decide_eq_false c2]; rfl), getD_cons, if_pos c]
        rfl
    · rw [if_neg c]
      have : getD (if (!decide (p.2 = .non)) = true then [p] else []) w = none := by
        split
        · rw [getD_cons, if_neg c]
          rfl
        · rfl
      rw [this]
      exact getD_cut n2
theorem ly_cut {fo th : List Str} {d : Dic} (ly : LyD fo th d) (nd : (fo ++ th).Nodup) : lyD (fo ++ th) (cutN d) = d := by
  have nk : (d.map (·.1)).Nodup := by rw [ly.keys]; exact nd
  refine dic_ext ?_ ?_ fun w hw => ?_
  · rw [ly_keys, ly.keys]
  · rw [ly_keys]
    exact nd
  · rw [ly_keys] at hw
    rw [ly_get hw, getD_cut nk]
    obtain ⟨x, hx⟩ := getD_some (d := d) (z := w) (by rw [ly.keys]; exact hw)
    rw [hx]
    rfl
theorem cut_vals {fo : List Str} {d : Dic} (ok : DicOk fo d) {v : V} (h : v ∈ (cutN d).map (·.2)) : ∃ s, v = .str s ∧ s ∈ fo := by
  obtain ⟨p, hp, rfl⟩ := List.mem_map.mp h
  obtain ⟨h1, h2⟩ := List.mem_filter.mp hp
  rcases ok p h1 with e | ⟨s, hs, e⟩
  · rw [decide_eq_true e] at h2
    cases h2
  · exact ⟨s, e, hs⟩
theorem merge_kd (e : Dic) : ∀ a : Dic, ((a ++ e).map (·.1)).Nodup → mergeK (kd a) (kd e) = kd (a ++ e) := by
  induction e with
  | nil => intro a _; rw [List.append_nil]; rfl
  | cons p e ih =>
    intro a nd
    have na : p.1 ∉ a.map (·.1) := fun m => by
      rw [List.map_append] at nd
      exact (List.nodup_append.mp nd).2.2 p.1 m p.1 (List.mem_map.mpr ⟨p, List.mem_cons_self, rfl⟩) rfl
    show mergeK (putK (kd a) (Sum.inr p.1) p.2) (kd e) = _
    rw [put_kd, set_new na, ih (a ++ [(p.1, p.2)]) (by rw [List.append_assoc]; exact nd), List.append_assoc]
    rfl
end My

namespace My
open PySem PySem.Spec PyProof.Rows L2 LamX
theorem tabs_but {T : List (Addr × Str)} {H H' : Hp} {p : Addr} {xs : List V} (t : Tabs T H) (b : But H H' p) (hp : H p = some (.lst xs)) : Tabs T H' := fun q hq => by
  obtain ⟨ps, h1, h2, h3⟩ := t q hq
  refine ⟨ps, b _ _ (fun e => by rw [e, hp] at h1; cases h1) h1, h2, fun pos cv hc => ?_⟩
  obtain ⟨c, e1, e2⟩ := h3 pos cv hc
  refine ⟨c, e1, b _ _ (fun e => ?_) e2⟩
  rw [e, hp] at e2
  unfold CodeO at e2
  cases e2
theorem sqL_extN {K : PySem.W.Frag} {H H' : Hp} {a : Addr} {xs : List V} (h : SqL K H a xs) (e : ExtN H H') : SqL K H' a xs := by
  rcases h with (h | ⟨o, h⟩) | h
  · exact .inl (.inl (e _ _ h fun _ z => nomatch z))
  · exact .inl (.inr ⟨o, e _ _ h fun _ z => nomatch z⟩)
  · exact .inr h
theorem TreeAt.but {H H' : Hp} {K : PySem.W.Frag} {CT C a q p : Addr} {fo th : List Str} {d : Dic} {ys : List V} (h : TreeAt H K CT C a q fo th d) (hp : H p = some (.lst ys)) (b : But H H' p) : TreeAt H' K CT C a q fo th d := by
  obtain ⟨dx, fs, ho, h1, h2, h3, h4, h5, h6⟩ := h
  exact ⟨dx, fs, ho, b _ _ (ne_of h1 hp (fun z => nomatch z)) h1, h2, h3, hou_butL hp b h4, b _ _ (ne_of h5 hp (fun z => nomatch z)) h5, h6⟩
/-- what stands at a turn -/
structure Sit5 (K : PySem.W.Frag) (CT C : Addr) (H : Hp) (p lf lt h u t q : Addr) (fo th : List Str) (d : Dic) : Prop where
  plS : ∃ ys, H p = some (.lst ys)
  lfS : H lf = some (.lst (fo.map V.str))
  nlfS : lf ≠ p
  ltS : H lt = some (.lst (th.map V.str))
  nltS : lt ≠ p
  houS : Hou H K C h fo th
  uS : H u = some (.dK (kd d))
  trS : TreeAt H K CT C t q fo th d
theorem Sit5.ext {K : PySem.W.Frag} {CT C : Addr} {H H' : Hp} {p lf lt h u t q : Addr} {fo th : List Str} {d : Dic} (s : Sit5 K CT C H p lf lt h u t q fo th d) (e : Ext H H') : Sit5 K CT C H' p lf lt h u t q fo th d :=
  ⟨s.plS.elim fun y h => ⟨y, e _ _ h⟩, e _ _ s.lfS, s.nlfS, e _ _ s.ltS, s.nltS, s.houS.ext e, e _ _ s.uS, s.trS.ext e⟩
theorem Sit5.but {K : PySem.W.Frag} {CT C : Addr} {H H' : Hp} {p lf lt h u t q : Addr} {fo th : List Str} {d : Dic} {n : Int} (s : Sit5 K CT C H p lf lt h u t q fo th d) (b : But H H' p) (g : Pool H' p n) : Sit5 K CT C H' p lf lt h u t q fo th d := by
  obtain ⟨y, hy⟩ := s.plS
  exact ⟨g.lst, b _ _ s.nlfS s.lfS, s.nlfS, b _ _ s.nltS s.ltS, s.nltS, hou_butL hy b s.houS, b _ _ (ne_of s.uS hy (fun z => nomatch z)) s.uS, s.trS.but hy b⟩
theorem kd_at {d : Dic} {i : Nat} {k : Key} {v : V} (e : (kd d)[i]? = some (k, v)) : ∃ z, d[i]? = some (z, v) ∧ k = Sum.inr z := by
  unfold kd at e
  rw [List.getElem?_map] at e
  cases c : d[i]? with
  | none => rw [c] at e; cases e
  | some y =>
    rw [c] at e
    cases e
    exact ⟨_, rfl, rfl⟩
theorem liesA_T : (liesA : Dic → Str → Str → Bool) = liesT := rfl
theorem TyX.extN {K : PySem.W.Frag} {H H' : Hp} {x : V} {t : Value} (h : TyX K H x t) (e : ExtN H H') : TyX K H' x t := by
  cases h with
  | base h =>
    refine .base ?_
    cases h with
    | non => exact .non
    | bl x => exact .bl x
    | int i => exact .int i
    | str x => exact .str x
    | flt x => exact .flt x
    | lst z => exact .lst (e _ _ z (fun _ y => nomatch y))
    | frz z => exact .frz (e _ _ z (fun _ y => nomatch y))
    | tup z => exact .tup (e _ _ z (fun _ y => nomatch y))
    | dK z => exact .dK (e _ _ z (fun _ y => nomatch y))
    | dT z => exact .dT (e _ _ z (fun _ y => nomatch y))
    | ins z a b c d f => exact .ins (e _ _ z (fun _ y => nomatch y)) a b c d f
  | byt b => exact .byt b
  | set z => exact .set (e _ _ z (fun _ y => nomatch y))
  | kList z c => exact .kList z c
  | kTuple z c => exact .kTuple z c
  | kDict z c => exact .kDict z c
  | fTuple z => exact .fTuple (e _ _ z (fun _ y => nomatch y))
  | fDict z => exact .fDict (e _ _ z (fun _ y => nomatch y))
theorem seq2_extN {K : PySem.W.Frag} {H H' : Hp} {a : Addr} {xs : List V} (h : SeqAt2 K H a xs) (e : ExtN H H') : SeqAt2 K H' a xs := h.elim (fun z => .inl (sqL_extN z e)) fun z => .inr (sqT_extN z e)
theorem NoText.extN {K : PySem.W.Frag} {H H' : Hp} {x : V} (h : NoText K H x) (e : ExtN H H') : NoText K H' x := by
  rcases h with ⟨a, xs, rfl, h⟩ | ⟨a, kvs, rfl, h⟩
  · exact .inl ⟨a, xs, rfl, seq2_extN h e⟩
  · exact .inr ⟨a, kvs, rfl, e _ _ h (fun _ y => nomatch y)⟩
theorem Itm.extN {K : PySem.W.Frag} {H H' : Hp} {x : V} (h : Itm K H x) (e : ExtN H H') : Itm K H' x := h.elim .inl fun z => .inr (NoText.extN z e)
theorem FactOf.extN {K : PySem.W.Frag} {H H' : Hp} {fo th : List Str} {x : V} {b : Bool} (h : FactOf K H fo th x b) (e : ExtN H H') : FactOf K H' fo th x b := by
  rcases h with ⟨h0, t, h1, h2⟩ | ⟨h0, a, xs, h1, h2, h3⟩ | ⟨a, w, o, p, h1, h2, h3, h4, h5, h6⟩
  · exact .inl ⟨h0, t, TyX.extN h1 e, h2⟩
  · exact .inr (.inl ⟨h0, a, xs, h1, seq2_extN h2 e, h3⟩)
  · exact .inr (.inr ⟨a, w, o, p, h1, seq2_extN h2 e, h3.extN e, h4.extN e, h5.extN e, h6⟩)
/-- answers of refused things -/
def AnsL (K : PySem.W.Frag) (H : Hp) (xs : List V) : Prop := ∀ x, x ∈ xs → ∃ r, x = .ref r ∧ SqT K H r [.str "fact", .int 0]
theorem AnsL.extN {K : PySem.W.Frag} {H H' : Hp} {xs : List V} (h : AnsL K H xs) (e : ExtN H H') : AnsL K H' xs := fun x hx => by
  obtain ⟨r, h1, h2⟩ := h x hx
  exact ⟨r, h1, sqT_extN h2 e⟩
def ansD : PyData := .tuple [.str "fact", .int 0]
theorem AnsL.dp {K : PySem.W.Frag} {H : Hp} : ∀ {xs : List V}, AnsL K H xs → DpAll K H xs (List.replicate xs.length ansD)
  | [], _ => .nil
  | x :: xs, h => by
    obtain ⟨r, rfl, hr⟩ := h x List.mem_cons_self
    exact .cons (.tup hr (.cons (.str _) (.cons (.int _) .nil))) (AnsL.dp fun y hy => h y (List.mem_cons_of_mem _ hy))
theorem ans_shaped (n : Nat) : SeqAt.shaped (.list (List.replicate n ansD)) = true := shaped_dn (m := 2) (by decide) _ fun d hd => by
  rw [(List.mem_replicate.mp hd).2]
  exact ⟨by decide +kernel, by decide +kernel⟩
theorem ans_eqv : ∀ n : Nat, PyData.eqv (.list (List.replicate n ansD)) (.list (List.replicate n ansD)) = true
  | 0 => rfl
  | n + 1 => by
    show (PyData.eqv ansD ansD && PyData.eqvAll (List.replicate n ansD) (List.replicate n ansD)) = true
    have h : PyData.eqvAll (List.replicate n ansD) (List.replicate n ansD) = true := ans_eqv n
    rw [h]
    rfl
theorem flat_rep5 {x : V} : ∀ n : Nat, (List.replicate n [x]).flatten = List.replicate n x
  | 0 => rfl
  | n + 1 => by
    rw [List.replicate_succ, List.flatten_cons, flat_rep5 n]
    rfl
def OddL (K : PySem.W.Frag) (fo th : List Str) (H : Hp) (xs : List V) : Prop := ∀ x, x ∈ xs → FactOf K H fo th x false
theorem OddL.ext {K : PySem.W.Frag} {fo th : List Str} {H H' : Hp} {xs : List V} (h : OddL K fo th H xs) (e : Ext H H') : OddL K fo th H' xs := fun x hx => (h x hx).ext e
theorem OddL.app {K : PySem.W.Frag} {fo th : List Str} {H : Hp} {xs ys : List V} (h : OddL K fo th H xs) (g : OddL K fo th H ys) : OddL K fo th H (xs ++ ys) := fun x hx => (List.mem_append.mp hx).elim (h x) (g x)
theorem test_tf {σ : L2.St} {H : Hp} {Q : Bool → Hp → Prop} {c : TT} {B : Bool} (h10 : σ[10]? = some (some (.bl B))) (h : c σ H Q) :
    tOr (tAnd (tTest (tOp rNotB (tVar 10) (tC (.bl true)))) (tTest (tOp rNotB (tVar 10) (tC (.bl false))))) c σ H Q := by
  cases B with
  | true =>
    refine ⟨_, h10, true, true, rfl, rfl, _, rfl, ?_⟩
    refine iteF ?_
    exact h
  | false =>
    refine ⟨_, h10, false, true, rfl, rfl, _, rfl, ?_⟩
    refine iteT ?_
    refine ⟨_, h10, false, false, rfl, rfl, _, rfl, ?_⟩
    refine iteF ?_
    exact h
/-- within a comprehension -/
theorem pe_askB {X : Cx} {g c Pt CE CU : Addr} {fd : FuncData} {k : Nat} {params : Arguments} {body : Expr} {scope : Scope} {p lpos pos : Pos} {t : XK → TE} {Ts : List (Addr × Str)} {s0 : Shared} {H0 : Hp} {bsc : Scope} {cl : List (Str × Addr)} {C0 : Addr} {fp : List Addr}
    (R : RefC5 X.K X.mg CE CU) (Fn : FnP X.K "_law_refused" s__law_refused g fd) (hm : X.mg "_law_refused" = some (.ref g)) (b : Binds X.K fd ["_law_ask"] []) (hmT : (Pt, X.env.qual ++ "<lambda>") ∈ Ts) (hu : ∀ p ∈ Ts, p.1 = Pt → p.2 = X.env.qual ++ "<lambda>") (TB : TabB X.base X.mg c Pt) (hcode : X.env.code = .ref c) (hr : Room (k + 2) X.A)
    (L : lamSB (relabel bsc X.env) scope = true)
    (hbody : ∀ (A : Around) (outer : List Env) (s : Shared) (H : Hp) (E : XK) (f c' : Addr), Room k (A.deeper (lamEnv (X.blk s0 H0 bsc (compEnvC bsc cl C0 X.env) fp) scope s.heap.objs.size f c')) → PE (lamCx (X.blk s0 H0 bsc (compEnvC bsc cl C0 X.env) fp) A outer s H E scope f c') body (t E))
    (hg : Gl (X.blk s0 H0 bsc (compEnvC bsc cl C0 X.env) fp) "_law_refused") (hdef : defaultsOf params (compEnvC bsc cl C0 X.env) = ([], []) := by rfl)
    (hbind : ∀ (q : Str) (cl : List (Str × Addr)) (pm cv ctv : Value), bindArgs (PySem.W.kla_fn "<lambda>" q params body scope cl pm cv ctv) ⟨[], []⟩ = pure [] := by intros; rfl) :
    PE (X.blk s0 H0 bsc (compEnvC bsc cl C0 X.env) fp) (.Call (.Name "_law_refused" p) [.Lambda params body scope lpos] [] pos) (tLam Ts (TRef5 X.K CE CU) t) :=
  pe_ask (X := X.blk s0 H0 bsc (compEnvC bsc cl C0 X.env) fp) R Fn hm b hmT hu TB hcode hr hbody hg L hdef hbind
abbrev nm_law : List Str := ["_law_script", "_law_turn", "_law_pool_here", "_law_folders", "_law_things", "_law_house_here", "_law_ups", "_law_tree_here", "_law_fact_here", "_law_handed", "_law_told_here", "_law_k", "_law_rows", "_law_one", "_law_two", "_law_odd", "_law_node", "_law_thing"]
theorem sc_law : FnScope nm_law ["_law_script"] (defScope s_law) := ⟨rfl, rfl, rfl, by decide +kernel, rfl, by decide +kernel, by decide +kernel⟩
abbrev qLam : Str := (envOfC "law" (defScope s_law) 0 0 .none).qual ++ "<lambda>"
def spLaw (K : PySem.W.Frag) (Ts : List (Addr × Str)) : Sp := fun vs H Q _ => ∃ (a : Addr) (ns : List Int), vs = [.ref a] ∧ SqL K H a (ns.map V.int) ∧ Tabs Ts H ∧ ∀ H', Q (.bl true) H'
section
variable {P : Program} {w : World} {K : PySem.W.Frag} {mg : Str → Option Value} {base : Heap} {f C CT CB CE CU CF CR CFc CN c Pt fR fK fH fI : Addr} {fd fdR fdK fdH fdI : FuncData} {Ts : List (Addr × Str)}
theorem ok_law (Fn : FnP K "law" s_law f fd) (hc : fd.code = .ref c) (TB : TabB base mg c Pt) (hmT : (Pt, qLam) ∈ Ts) (hu : ∀ p ∈ Ts, p.1 = Pt → p.2 = qLam) (Z : HouseTxt P w K mg C CB) (F : FacTxt P w K mg CFc C CE) (T : TreC K CT) (R : RefC5 K mg CE CU) (Fr : FnP K "_law_refused" s__law_refused fR fdR) (hmr : mg "_law_refused" = some (.ref fR)) (br : Binds K fdR ["_law_ask"] [])
    (tmK : Meth K CT "keeps" fK) (tK : FnOk P w K mg base (L2.CX P w) 8 fK fdK ["self", "facts"] (spTKeeps K CT C CFc CU)) (tbK : Binds K fdK ["self", "facts"] []) (tmH : Meth K CT "holds" fH) (tH : FnOk P w K mg base (L2.CX P w) 7 fH fdH ["self", "fact"] (spTHolds K CT C CE)) (tbH : Binds K fdH ["self", "fact"] [])
    (tMk : Mk K CT fI) (tI : FnOk P w K mg base (L2.CX P w) 6 fI fdI ["self", "house", "over"] (spTInit K CT C CF CR)) (tbI : Binds K fdI ["self", "house", "over"] []) (tG : mg "Tree" = some (.ref CT))
    (h_law_cell : Has P w K mg base 1 "_law_cell" ["_law_script", "_law_k"] (spCell1 K)) (h_law_pool : Has P w K mg base 1 "_law_pool" ["_law_grain"] spPool) (h_law_take : Has P w K mg base 1 "_law_take" ["_law_pool_here", "_law_many"] spTake)
    (h_law_house : Has P w K mg base 3 "_law_house" ["_law_pool_here", "_law_most", "_law_more"] spHouse) (h_law_tree : Has P w K mg base 2 "_law_tree" ["_law_pool_here", "_law_folders", "_law_things"] (spTreeD K)) (h_law_every : Has P w K mg base 1 "_law_every" ["_law_folders", "_law_things"] (spEvery5 K))
    (h_law_holds : Has P w K mg base 2 "_law_holds" ["_law_ups", "_law_fact_here"] (spHolds K)) (h_law_keep : Has P w K mg base 3 "_law_keep" ["_law_ups", "_law_rows"] (spKeep K)) (h_law_told : Has P w K mg base 4 "_law_told" ["_law_pool_here", "_law_folders", "_law_things", "_law_many", "_law_bent"] (spLTold K)) (h_law_others_refused : Has P w K mg base 12 "_law_others_refused" ["_law_tree_here", "_law_folders", "_law_things"] (spOthers K CT C Ts))
    (gB_range : mg "range" = none) (gB_len : mg "len" = none) (gB_dict : mg "dict" = none) (gB_list : mg "list" = none) : FnOk P w K mg base CX0 14 f fd ["_law_script"] (spLaw K Ts) := by
  refine Fn.okC sc_law (fun vs H Q E h => ?_) (fun cdv A outer s H vs Q E hcd hr h => ⟨_, PSs.nox
    (pss_cons (ps_for PassesOwn.never rfl (pi_range1 (by rfl) gB_range (pa_cons pe_int pa_nil)) (pg_name (i := 1) sc_law.nd rfl (Or.inl rfl))
      (pss_cons (ps_set (i := 2) sc_law.nd rfl (Or.inl rfl) (pe_has h_law_pool (hr.mono (by decide)) (pa_cons (pe_op op_add (pe_has h_law_cell (hr.mono (by decide)) (pa_cons (pv 0) (pa_cons (pv 1) pa_nil))) (pv 1)) pa_nil)))
      (pss_cons (ps_asg (pe_has h_law_house (hr.mono (by decide)) (pa_cons (pv 2) (pa_cons pe_int (pa_cons pe_int pa_nil)))) (pg_tup rfl (pgs_cons (pg_name (i := 3) sc_law.nd rfl (Or.inl rfl)) (pgs_cons (pg_name (i := 4) sc_law.nd rfl (Or.inl rfl)) pgs_nil))))
      (pss_cons (ps_asg (pe_tup (pa_cons (pe_make Z.M (Z.I _) (hr.mono (by decide)) (by rfl) Z.gH Z.bI .nil passL (pa_cons (pv 3) (pa_cons (pv 4) pa_nil))) (pa_cons (pe_has h_law_tree (hr.mono (by decide)) (pa_cons (pv 2) (pa_cons (pv 3) (pa_cons (pv 4) pa_nil)))) pa_nil))) (pg_tup rfl (pgs_cons (pg_name (i := 5) sc_law.nd rfl (Or.inl rfl)) (pgs_cons (pg_name (i := 6) sc_law.nd rfl (Or.inr rfl)) pgs_nil))))
      (pss_cons (ps_set (i := 7) sc_law.nd rfl (Or.inr rfl) (pe_make tMk tI (hr.mono (by decide)) (by rfl) tG tbI .nil passL (pa_cons (pv 5) (pa_cons (pe_callTy (call_dictP rfl) (by rfl) gB_dict (by decide +kernel) (pa_cons (pe_lock (pe_lc (own := [("_law_node", 16)]) (g := (gName 16)) rfl sc_law.nd (pi_keys (pv 6)) (blkOk_by (N := nm_law) (sc := defScope s_law) (by decide +kernel)) (fun _ _ _ _ _ => (pg_name (i := 16) sc_law.nd rfl (Or.inl rfl))) (fun _ _ _ _ _ => pts_one (pt_cmpR op_notN (pe_dget (hu_of hr) (pv 6) (pv 16) (fun _ _ => rfl)) pe_non (nomark _))) (fun _ _ _ _ _ => (pe_tup (pa_cons (pv 16) (pa_cons (pe_dget (hu_of hr) (pv 6) (pv 16) (fun _ _ => rfl)) pa_nil)))))) pa_nil)) pa_nil))))
      (pss_cons (ps_for PassesOwn.never rfl (pi_list (pe_has h_law_every (hr.mono (by decide)) (pa_cons (pv 3) (pa_cons (pv 4) pa_nil)))) (pg_name (i := 8) sc_law.nd rfl (Or.inl rfl))
      (pss_one (ps_for PassesOwn.never rfl (pi_tup (pe_tup (pa_cons (pv 8) (pa_cons (pe_callTy call_lstS (by rfl) gB_list (by decide +kernel) (pa_cons (pv 8) pa_nil)) pa_nil)))) (pg_name (i := 9) sc_law.nd rfl (Or.inl rfl))
      (pss_cons (ps_set (i := 10) sc_law.nd rfl (Or.inl rfl) (pe_meth (pv 7) T.cl tmH tH (hr.mono (by decide)) tbH .nil passL (pa_cons (pv 9) pa_nil)))
      (pss_one (ps_if (PW.pt (pw_or (PW.pt (pw_and (pt_cmpR op_notBl (pv 10) pe_bl (nomark _)) (pw_and1 (pt_cmpR op_notBl (pv 10) pe_bl (nomark _))))) (pw_or1 (pt_cmpR op_ne (pv 10) (pe_has h_law_holds (hr.mono (by decide)) (pa_cons (pv 6) (pa_cons (pv 8) pa_nil))) (nomark _))))) (pss_one (ps_ret pe_bl)) pss_nil))))))
      (pss_cons (ps_for PassesOwn.never rfl (pi_range1 (by rfl) gB_range (pa_cons pe_int pa_nil)) (pg_name (i := 11) sc_law.nd rfl (Or.inl rfl))
      (pss_cons (ps_set (i := 12) sc_law.nd rfl (Or.inl rfl) (pe_has h_law_told (hr.mono (by decide)) (pa_cons (pv 2) (pa_cons (pv 3) (pa_cons (pv 4) (pa_cons (pe_has h_law_take (hr.mono (by decide)) (pa_cons (pv 2) (pa_cons pe_int pa_nil))) (pa_cons (pe_has h_law_take (hr.mono (by decide)) (pa_cons (pv 2) (pa_cons pe_int pa_nil))) pa_nil)))))))
      (pss_cons (ps_set (i := 10) sc_law.nd rfl (Or.inl rfl) (pe_meth (pv 7) T.cl tmK tK (hr.mono (by decide)) tbK .nil passL (pa_cons (pe_make F.M (F.I _) (hr.mono (by decide)) (by rfl) F.gF F.bI .nil passL (pa_cons (pe_ix ix_list (pe_lst (pa_cons (pv 5) (pa_cons (pe_make Z.M (Z.I _) (hr.mono (by decide)) (by rfl) Z.gH Z.bI .nil passL (pa_cons (pv 3) (pa_cons (pv 4) pa_nil))) pa_nil))) (pe_op op_mod (pv 11) pe_int) (fun _ _ => rfl)) (pa_cons (pv 12) pa_nil))) pa_nil)))
      (pss_one (ps_if (PW.pt (pw_or (PW.pt (pw_and (pt_cmpR op_notBl (pv 10) pe_bl (nomark _)) (pw_and1 (pt_cmpR op_notBl (pv 10) pe_bl (nomark _))))) (pw_or1 (pt_cmpR op_ne (pv 10) (pe_has h_law_keep (hr.mono (by decide)) (pa_cons (pv 6) (pa_cons (pv 12) pa_nil))) (nomark _))))) (pss_one (ps_ret pe_bl)) pss_nil)))))
      (pss_cons (ps_par (i := 13) (j := 14) rfl sc_law.nd rfl rfl (by decide) rfl rfl (pa_cons (pe_ix ix_list (pv 3) pe_int (fun _ _ => rfl)) (pa_cons (pe_ix ix_list (pe_op L2.op_cat (pv 3) (pv 4)) pe_int (fun _ _ => rfl)) pa_nil)) (by rfl))
      (pss_cons (ps_set (i := 15) sc_law.nd rfl (Or.inl rfl) (pe_lst (pa_cons pe_non (pa_cons pe_int (pa_cons pe_str (pa_cons (pe_tup pa_nil) (pa_cons (pe_tup (pa_cons pe_str pa_nil)) (pa_cons (pe_tup (pa_cons pe_str (pa_cons (pv 13) (pa_cons (pv 13) pa_nil)))) (pa_cons (pe_tup (pa_cons pe_str (pa_cons (pv 14) (pa_cons (pv 13) pa_nil)))) (pa_cons (pe_tup (pa_cons pe_str (pa_cons (pv 13) (pa_cons (pv 13) pa_nil)))) pa_nil))))))))))
      (pss_cons (ps_set (i := 15) sc_law.nd rfl (Or.inl rfl) (pe_op L2.op_cat (pv 15) (pe_lst (pa_cons (pe_tup (pa_cons pe_str (pa_cons pe_str (pa_cons (pv 13) pa_nil)))) (pa_cons (pe_tup (pa_cons pe_str (pa_cons (pv 13) (pa_cons pe_str pa_nil)))) (pa_cons (pe_tup (pa_cons pe_str (pa_cons (pv 13) (pa_cons pe_str pa_nil)))) (pa_cons pe_dnewK (pa_cons pe_bl (pa_cons (pe_tup (pa_cons pe_str (pa_cons (pv 13) (pa_cons pe_non pa_nil)))) pa_nil)))))))))
      (pss_cons (ps_set (i := 15) sc_law.nd rfl (Or.inl rfl) (pe_op L2.op_cat (pv 15) (pe_lst (pa_cons (pe_tup (pa_cons pe_str (pa_cons (pv 13) (pa_cons (pe_lst (pa_cons pe_str pa_nil)) pa_nil)))) (pa_cons (pe_tup (pa_cons (pe_lst (pa_cons pe_str pa_nil)) (pa_cons (pv 14) (pa_cons (pv 13) pa_nil)))) (pa_cons (pe_tup (pa_cons pe_str (pa_cons (pv 14) (pa_cons (pv 13) (pa_cons (pv 13) pa_nil))))) (pa_cons (pe_tup (pa_cons pe_str (pa_cons (pv 14) (pa_cons (pv 13) pa_nil)))) pa_nil)))))))
      (C8.pss_cut (ps_if (pt_cmpR (op_neD hr.units) (pv 4) (pe_lst pa_nil) (nomark _)) (pss_one (ps_set (i := 15) sc_law.nd rfl (Or.inl rfl) (pe_op L2.op_cat (pv 15) (pe_lst (pa_cons (pe_tup (pa_cons pe_str (pa_cons (pv 13) (pa_cons (pe_ix ix_list (pv 4) pe_int (fun _ _ => rfl)) pa_nil)))) (pa_cons (pe_tup (pa_cons pe_str (pa_cons (pv 13) (pa_cons (pe_ix ix_list (pv 4) pe_int (fun _ _ => rfl)) pa_nil)))) pa_nil)))))) pss_nil)
      (pss_cons (ps_if (pt_cmpR (op_neD hr.units) (pe_lc (own := [("_law_thing", 17)]) (g := (gName 17)) (tt := tYes) rfl sc_law.nd (pi_list (pv 15)) (blkOk_by (N := nm_law) (sc := defScope s_law) (by decide +kernel)) (fun _ _ _ _ _ => (pg_name (i := 17) sc_law.nd rfl (Or.inr rfl))) (fun _ _ _ _ _ => pts_nil) (fun _ _ _ _ _ => (pe_askB (X := (cxOf CX0 P w K mg base nm_law "law" (defScope s_law) f cdv A outer s H E).nox) R Fr hmr br hmT hu TB (hcd.symm.trans hc) hr (by rfl)  (fun A outer s H E f c' hr => (pe_meth (pv 7) T.cl tmH tH (hr.mono (by decide)) tbH .nil (passes_call (takes_of rfl rfl rfl rfl) (fun _ _ _ _ h => h)) (pa_cons (pv 17) pa_nil))) (by rfl)))) (pe_op op_rep (pe_lst (pa_cons (pe_tup (pa_cons pe_str (pa_cons pe_int pa_nil))) pa_nil)) (pe_callB call_len (by rfl) gB_len boot_len (pa_cons (pv 15) pa_nil))) (nomark _)) (pss_one (ps_ret pe_bl)) pss_nil)
      (pss_one (ps_if (PW.pt (pw_or (pt_not (pt_val (pe_has h_law_others_refused (hr.mono (by decide)) (pa_cons (pv 7) (pa_cons (pv 3) (pa_cons (pv 4) pa_nil)))))) (pw_or1 (pt_not (pt_val (pe_meth (pv 7) T.cl tmK tK (hr.mono (by decide)) tbK .nil passL (pa_cons (pe_make F.M (F.I _) (hr.mono (by decide)) (by rfl) F.gF F.bD F.vD passL (pa_cons (pv 5) pa_nil)) pa_nil))))))) (pss_one (ps_ret pe_bl)) pss_nil)))))))))))))))
      (pss_one (ps_ret pe_bl))), ?_⟩)
  · obtain ⟨a, ns, rfl, _⟩ := h
    rfl
  · obtain ⟨as, ns, rfl, hsc, tb, q⟩ := h
    refine ⟨3, rfl, by decide, by decide, for_range (lo := 0) (n := 3) (fun _ σ H' => ∃ v1 v2 v3 v4 v5 v6 v7 v8 v9 v10 v11 v12 v13 v14 v15 v16 v17 : Option V, σ = [some (.ref as), v1, v2, v3, v4, v5, v6, v7, v8, v9, v10, v11, v12, v13, v14, v15, v16, v17] ∧ ExtN H H' ∧ Tabs Ts H') ⟨none, none, none, none, none, none, none, none, none, none, none, none, none, none, none, none, none, rfl, ExtN.refl H, tb⟩ ?_ (fun σ H' _ => q H')⟩
    rintro k σ H0 hk ⟨v1, v2, v3, v4, v5, v6, v7, v8, v9, v10, v11, v12, v13, v14, v15, v16, v17, rfl, x0, tb0⟩
    refine ⟨_, rfl, _, rfl, as, ns, k, by rw [Int.zero_add]; rfl, sqL_extN hsc x0, fun i0 => ⟨_, rfl, _, _, rfl, rfl, _, rfl, fun p H1 hp hH1 => ?_⟩⟩
    obtain ⟨pa, pb, pa0, pb0, pb1, rfl⟩ := hH1
    obtain ⟨H1, hH1⟩ : ∃ H1, H1 = L2.upd H0 p (.lst [.int pa, .int pb, .int 0]) := ⟨_, rfl⟩
    rw [← hH1]
    have pool1 : Pool H1 p 0 := ⟨pa, pb, 0, by rw [hH1, upd_same], pa0, pb0, pb1, Int.le_refl _, Int.le_refl _⟩
    have x1 : Ext H0 H1 := by
      rw [hH1]
      exact Ext.upd hp
    have tb1 := tb0.ext x1
    obtain ⟨y1, hy1⟩ := pool1.lst
    -- the end of a turn
    have fin : ∀ H' H'' : Hp, But H1 H' p → ExtN H' H'' → ExtN H H'' := fun H' H'' b e c u hc ht => by
      have h0 := x0 c u hc ht
      exact e c u (b c u (ne_of_none h0 hp) (x1 _ _ h0)) ht
    refine ⟨_, rfl, p, 0, 3, 3, rfl, by decide, by decide, by decide, by decide, pool1, by decide, fun t l1 l2 fo th H2 b2 p2 ht2 hf ht n12 nl1 nl2 f1 f3 t3 tot nms => ⟨t, _, rfl, SqT.of ht2, rfl, _, _, rfl, _, _, rfl, rfl, ?_⟩⟩
    have n1p : l1 ≠ p := fun e => by rw [e, hy1] at nl1; cases nl1
    have n2p : l2 ≠ p := fun e => by rw [e, hy1] at nl2; cases nl2
    have nok := nms.ok
    have nd := nms.1
    have n7 : (fo ++ th).length ≤ 7 := by
      rw [List.length_append]
      omega
    have n2 : 2 ≤ (fo ++ th).length := by
      rw [List.length_append]
      omega
    have fne : fo ≠ [] := fun e => by
      subst e
      exact absurd f1 (by decide)
    have lm : ∀ zs : List Str, (zs.map V.str).length = zs.length := fun zs => List.length_map _
    have zsz : (fo ++ th).length < sizeLine := by rw [sizeLine_eq]; omega
    have okS : OkS (fo ++ th) := fun z hz => (nok.2 z hz).2.1
    refine ⟨_, rfl, _, rfl, ?_⟩
    intro h dx hh hdx nx
    refine mk_at (a := l1) (b := l2) (fo := fo) (th := th) (.inl (SqL.of hf)) (.inl (SqL.of ht)) nok fne (by omega) hh hdx nx fun H3 x3 hou3 => ?_
    have hf3 := x3 _ _ hf
    have ht3 := x3 _ _ ht
    have p3 := pool_ext p2 x3
    refine ⟨_, rfl, _, rfl, _, rfl, p, l1, l2, fo, th, _, rfl, p3, by omega, hf3, ht3, n1p, n2p, nd, n7, fun u d H4 b4 p4 hu3 u4 ly acy => ?_⟩
    obtain ⟨y3, hy3⟩ := p3.lst
    refine ⟨Nat.le_of_ble_eq_true rfl, fun tt htt => ⟨tt, _, rfl, SqT.of upd_same, rfl, _, _, rfl, _, _, rfl, rfl, ?_⟩⟩
    have xt := Ext.upd (o := .tup [.ref h, .ref u]) htt
    obtain ⟨HZ, hHZ⟩ : ∃ HZ, HZ = L2.upd H4 tt (.tup [.ref h, .ref u]) := ⟨_, rfl⟩
    rw [← hHZ] at xt ⊢
    have houZ := (hou_butL hy3 b4 hou3).ext xt
    have uZ := xt _ _ u4
    have pZ := pool_ext p4 xt
    have bZ : But H1 HZ p := ((b2.ext x3).trans b4).ext xt
    have hfZ := xt _ _ (b4 _ _ n1p hf3)
    have htZ := xt _ _ (b4 _ _ n2p ht3)
    have len : (fo ++ th).length ≤ 1000 := by omega
    refine ⟨_, rfl, u, .dK (kd d), uZ, True.intro, fun od => ?_⟩
    obtain ⟨HL, hHL⟩ : ∃ HL, HL = L2.upd HZ u (.frz od (.dK (kd d))) := ⟨_, rfl⟩
    rw [← hHL]
    have pL : HL u = some (.frz od (.dK (kd d))) := by rw [hHL, upd_same]
    refine ⟨_, rfl, u, od, rfl, .inl ⟨kd d, pL, fun D hD => ?_⟩⟩
    have nk : (d.map (·.1)).Nodup := by rw [ly.keys]; exact nd
    have dl : d.length ≤ 1000 := by
      rw [← List.length_map (f := (·.1)), ly.keys]
      exact len
    have lk : d.length < sizeLine := by rw [sizeLine_eq]; omega
    refine lc_it (walk_keys (kvs := kd d)) (fun i H' => Ext HL H' ∧ ∃ ps : List Addr, H' D = some (.lst (ps.map V.ref)) ∧ Paired (fun u kv => SqT K H' u [kV kv.1, kv.2]) ps (kd (cutN (d.take i)))) ⟨Ext.upd hD, [], upd_same, .nil⟩ (fun i H' _ w => w.1 _ _ pL) ?_ ?_
    · rintro i x H4 H5 hi ⟨x4, ps, d4, pr⟩ ⟨rfl, k, v, e, rfl⟩
      rw [kd_len] at hi
      obtain ⟨z, hz, rfl⟩ : ∃ z, d[i]? = some (z, v) ∧ k = Sum.inr z := by
        unfold kd at e
        rw [List.getElem?_map] at e
        cases c : d[i]? with
        | none => rw [c] at e; cases e
        | some y =>
          rw [c] at e
          cases e
          exact ⟨_, rfl, rfl⟩
      have dg : ∀ {H' : Hp}, Ext HL H' → DGet H' u (.str z) (some v) := fun x => .inl ⟨kd d, Sum.inr z, .inr ⟨od, x _ _ pL⟩, rfl, by rw [val_kd]; exact (getD_at nk (List.mem_of_getElem? hz)).symm⟩
      have tk : d.take (i + 1) = d.take i ++ [(z, v)] := by
        rw [List.take_add_one, hz]
        rfl
      rw [tk, cutN_snoc]
      refine ⟨rfl, _, rfl, _, rfl, u, v, rfl, dg x4, rfl, _, rfl, ?_⟩
      refine ite2 (fun c => ?_) fun c => ?_
      · rw [if_pos c]
        refine ⟨_, rfl, _, rfl, _, rfl, u, v, rfl, dg x4, Nat.le_of_ble_eq_true rfl, fun T hT => ?_⟩
        have x5 := Ext.upd (o := .tup [.str z, v]) hT
        have d5 := x5 _ _ d4
        have pl : ps.length ≤ 1000 := by
          rw [Paired.length pr, kd_len]
          unfold cutN
          refine Nat.le_trans (List.length_filter_le _ _) ?_
          rw [List.length_take]
          omega
        refine ⟨_, d5, by rw [List.length_map, sizeLine_eq]; omega, (x4.trans x5).over hD, ps ++ [T], by rw [upd_same, List.map_append]; rfl, ?_⟩
        unfold kd
        rw [List.map_append]
        refine Paired.snoc (Paired.mapP pr fun a b h => sqT_upd (h.ext x5) d5) ?_
        exact sqT_upd (SqT.of upd_same) d5
      · rw [if_neg c, List.append_nil]
        exact ⟨x4, ps, d4, pr⟩
    rintro H5 ⟨x5, ps, d5, pr⟩
    rw [kd_len, List.take_length] at pr
    refine ⟨x5 _ _ pL, ?_⟩
    obtain ⟨H6, hH6⟩ : ∃ H6, H6 = L2.upd H5 u (.dK (kd d)) := ⟨_, rfl⟩
    rw [← hH6]
    have x6 : Ext HZ H6 := by
      rw [hH6]
      exact ext_unlock uZ (by rw [← hHL]; exact x5)
    have pD : D ≠ u := fun e => by
      rw [e, pL] at hD
      cases hD
    have d6 : H6 D = some (.lst (ps.map V.ref)) := by
      rw [hH6, upd_ne pD]
      exact d5
    have pr6 : Paired (fun u kv => SqT K H6 u [kV kv.1, kv.2]) ps (kd (cutN d)) := Paired.mapP pr fun a b h => by
      rw [hH6]
      rcases h with (h | ⟨o, h⟩) | h
      · exact .inl (.inl (by rw [upd_ne (ne_of h (x5 _ _ pL) (fun z => nomatch z))]; exact h))
      · exact .inl (.inr ⟨o, by rw [upd_ne (fun e => by rw [e, x5 _ _ pL] at h; cases h)]; exact h⟩)
      · exact .inr h
    refine ⟨D, ps, kd (cutN d), rfl, SqL.of d6, pr6, fun m hm => ?_⟩
    have em : mergeK [] (kd (cutN d)) = kd (cutN d) := merge_kd (cutN d) [] (cutN_nd nk)
    rw [em]
    intro t dt ht hdt ne
    obtain ⟨HX, hHX⟩ : ∃ HX, HX = L2.upd (L2.upd (L2.upd H6 m (.dK (kd (cutN d)))) dt (.own t)) t (.ins CT dt []) := ⟨_, rfl⟩
    rw [← hHX]
    have xm : Ext H6 (L2.upd H6 m (.dK (kd (cutN d)))) := Ext.upd hm
    have xX : Ext (L2.upd H6 m (.dK (kd (cutN d)))) HX := fun c u k => by
      rw [hHX, upd_ne (ne_of_none k ht), upd_ne (ne_of_none k hdt)]
      exact k
    have tX : HX t = some (.ins CT dt []) := by rw [hHX, upd_same]
    have mX : HX m = some (.dK (kd (cutN d))) := xX _ _ upd_same
    have xm0 : Ext HZ HX := x6.trans (xm.trans xX)
    have ht0 : HZ t = none := ext_none (x6.trans xm) ht
    have nht : h ≠ t := by
      obtain ⟨_, _, hi⟩ := houZ.ins
      exact ne_of_none hi ht0
    refine ⟨t, dt, h, m, fo, th, cutN d, rfl, tX, nht, houZ.ext xm0, len, nd, mX, fun z hz => by rw [← ly.keys]; exact cutN_key hz, .inr ⟨fun v hv => cut_vals ly.ok hv, ?_, ?_⟩⟩
    rotate_left
    · rw [ly_cut ly nd]
      intro d' t' way H' e h1 st h2 ring
      obtain ⟨c, cy⟩ := ring.cyc
      exact absurd cy (acy_nocyc acy c)
    rw [ly_cut ly nd]
    refine fun nc q HT b hq trT => ⟨rfl, ?_⟩
    have xZT : Ext HZ HT := fun c w k => b c w (ne_of_none k ht0) (xm0 c w k)
    have sT : Sit5 K CT C HT p l1 l2 h u t q fo th d := ⟨(pool_ext pZ xZT).lst, xZT _ _ hfZ, n1p, xZT _ _ htZ, n2p, houZ.ext xZT, xZT _ _ uZ, trT⟩
    have pT := pool_ext pZ xZT
    have bT : But H1 HT p := bZ.ext xZT
    clear trT xZT
    have ups := ups_of ly
    -- facts held
    refine ⟨_, rfl, _, rfl, l1, l2, fo, th, rfl, sT.lfS, sT.ltS, n7, fun l xs rows H6 x6 hl l6 r6 fr xl => ?_⟩
    have s6 := sT.ext x6
    refine ⟨l, rfl, ⟨_, SqL.of l6⟩, for_list (K := K) (a := l) (xs := xs) (fun i σ H' => (∃ v8 v9 v10 v11 v12 v13 v14 v15 v16 v17, σ = [some (.ref as), some (.int (0 + (k : Int))), some (.ref p), some (.ref l1), some (.ref l2), some (.ref h), some (.ref u), some (.ref t), v8, v9, v10, v11, v12, v13, v14, v15, v16, v17]) ∧ Ext H6 H') ⟨⟨_, _, _, _, _, _, _, _, _, _, rfl⟩, Ext.rfl'⟩ (fun i σ H' _ z => SqL.of (z.2 _ _ l6)) ?_ ?_⟩
    · rintro i v σ H7 hv ⟨⟨v8, v9, v10, v11, v12, v13, v14, v15, v16, v17, rfl⟩, x7⟩
      obtain ⟨tf, r', rfl, sq, hr'⟩ := (r6.ext x7).at_ hv
      obtain ⟨wd, a, b, rfl, isf⟩ := fr r' (List.mem_of_getElem? hr')
      refine ⟨_, rfl, _, rfl, tf, _, rfl, .inr sq, fun lh hlh => ?_⟩
      have xh := Ext.upd (o := .lst (([wd, a, b] : List Str).map V.str)) hlh
      refine ⟨Nat.le_of_ble_eq_true rfl, fun tp htp => ?_⟩
      have xp := Ext.upd (o := .tup [.ref tf, .ref lh]) htp
      obtain ⟨H8, hH8⟩ : ∃ H8, H8 = L2.upd (L2.upd H7 lh (.lst (([wd, a, b] : List Str).map V.str))) tp (.tup [.ref tf, .ref lh]) := ⟨_, rfl⟩
      rw [← hH8]
      have x78 : Ext H7 H8 := by rw [hH8]; exact xh.trans xp
      have tp8 : H8 tp = some (.tup [.ref tf, .ref lh]) := by rw [hH8, upd_same]
      have lh8 : H8 lh = some (.lst (([wd, a, b] : List Str).map V.str)) := by rw [hH8]; exact xp _ _ upd_same
      have s8 := s6.ext (x7.trans x78)
      refine ⟨tp, rfl, ⟨_, SqT.of tp8⟩, for_tup (K := K) (a := tp) (xs := [.ref tf, .ref lh]) (fun j σ H' => (∃ v9 v10 v11 v12 v13 v14 v15 v16 v17, σ = [some (.ref as), some (.int (0 + (k : Int))), some (.ref p), some (.ref l1), some (.ref l2), some (.ref h), some (.ref u), some (.ref t), some (.ref tf), v9, v10, v11, v12, v13, v14, v15, v16, v17]) ∧ Ext H8 H') ⟨⟨_, _, _, _, _, _, _, _, _, rfl⟩, Ext.rfl'⟩ (fun j σ H' _ z => SqT.of (z.2 _ _ tp8)) ?_ ?_⟩
      · rintro j x σ H9 hx ⟨⟨v9, v10, v11, v12, v13, v14, v15, v16, v17, rfl⟩, x9⟩
        obtain ⟨r, rfl, sqr⟩ : ∃ r, x = .ref r ∧ SeqAt2 K H9 r [.str wd, .str a, .str b] := by
          have hx : x = .ref tf ∨ x = .ref lh := by simpa using List.mem_of_getElem? hx
          rcases hx with rfl | rfl
          · exact ⟨tf, rfl, .inr (sq.ext (x78.trans x9))⟩
          · exact ⟨lh, rfl, .inl (SqL.of (x9 _ _ lh8))⟩
        have s9 := s8.ext x9
        obtain ⟨dxt, fst, hot, g1, _, _, _, _, _, _, _, _, meth⟩ := id s9.trS
        refine ⟨_, rfl, t, dxt, fst, rfl, g1, meth _ (by decide), _, rfl, t, q, fo, th, d, .ref r, rfl, s9.trS, .inr ⟨r, wd, a, b, rfl, sqr, isf, fun HA xA => ?_⟩⟩
        dsimp only [tIfS]
        refine test_tf (B := holdsG (liesT d) wd a b) rfl ?_
        refine ⟨_, rfl, _, rfl, _, rfl, u, tf, d, fo, fo ++ th, wd, a, b, rfl, xA _ _ s9.uS, ups, by omega, isf.1, isf.2.1, isf.2.2.1, sq.ext (x78.trans (x9.trans xA)), fun HB xB => ?_⟩
        refine ⟨rfl, _, rfl, ?_⟩
        refine iteF' (by show (!decide (V.bl (holdsG (liesT d) wd a b) = V.bl (holdsG (liesT d) wd a b))) = false; rw [decide_eq_true rfl]; rfl) ?_
        exact ⟨⟨_, _, _, _, _, _, _, _, _, rfl⟩, x9.trans (xA.trans xB)⟩
      · rintro σ H9 ⟨⟨v9, v10, v11, v12, v13, v14, v15, v16, v17, rfl⟩, x9⟩
        exact ⟨⟨_, _, _, _, _, _, _, _, _, _, rfl⟩, x7.trans (x78.trans x9)⟩
    rintro σ H7 ⟨⟨v8, v9, v10, v11, v12, v13, v14, v15, v16, v17, rfl⟩, x7⟩
    have s7 := s6.ext x7
    have p7 := pool_ext pT (x6.trans x7)
    have b7 := bT.ext (x6.trans x7)
    clear s6 sT pT bT x7 l6 r6 fr hl x6 H6
    -- lists of facts kept
    refine ⟨6, rfl, by decide, by decide, for_range (lo := 0) (n := 6) (fun i σ H' => (∃ v8 v9 v10 v11 v12 v13 v14 v15 v16 v17, σ = [some (.ref as), some (.int (0 + (k : Int))), some (.ref p), some (.ref l1), some (.ref l2), some (.ref h), some (.ref u), some (.ref t), v8, v9, v10, v11, v12, v13, v14, v15, v16, v17]) ∧ Sit5 K CT C H' p l1 l2 h u t q fo th d ∧ Pool H' p (100 + 60 * i) ∧ But H1 H' p) ⟨⟨_, _, _, _, _, _, _, _, _, _, rfl⟩, s7, (by simpa using pool_mono p7 (by omega)), b7⟩ ?_ ?_⟩
    · clear s7 p7 b7
      rintro i σ HA hi ⟨⟨v8, v9, v10, v11, v12, v13, v14, v15, v16, v17, rfl⟩, sA, pA, bA⟩
      refine ⟨_, rfl, _, rfl, _, rfl, _, rfl, p, 6, _, rfl, by decide, by decide, pA, by omega, fun r1 o1 r10 r11 gp1 => ?_⟩
      obtain ⟨m1, rfl⟩ := Int.eq_ofNat_of_zero_le r10
      obtain ⟨HB, hHB⟩ : ∃ HB, HB = L2.upd HA p o1 := ⟨_, rfl⟩
      rw [← hHB] at gp1 ⊢
      have bB : But HA HB p := by
        rw [hHB]
        exact But.upd (ext_but Ext.rfl')
      refine ⟨_, rfl, p, 4, _, rfl, by decide, by decide, gp1, by omega, fun r2 o2 r20 r21 gp2 => ?_⟩
      obtain ⟨m2, rfl⟩ := Int.eq_ofNat_of_zero_le r20
      obtain ⟨HC, hHC⟩ : ∃ HC, HC = L2.upd HB p o2 := ⟨_, rfl⟩
      rw [← hHC] at gp2 ⊢
      have bC : But HB HC p := by
        rw [hHC]
        exact But.upd (ext_but Ext.rfl')
      have sC := (sA.but bB gp1).but bC gp2
      refine ⟨p, l1, l2, fo, th, m1, m2, _, rfl, gp2, by omega, sC.lfS, sC.ltS, n1p, n2p, nd, okS, f1, n2, n7, by omega, by omega, fun lr xs rows HD bD pD lr0 lrD rr trr ndr lenr => ?_⟩
      have sD := sC.but bD pD
      have bAD := ((bA.trans bB).trans bC).trans bD
      obtain ⟨dxt, fst, hot, g1, _, _, _, _, _, _, _, _, meth⟩ := id sD.trS
      have pD2 : Pool HD p (100 + 60 * ((i + 1 : Nat) : Int)) := pool_mono pD (by omega)
      refine ⟨_, rfl, t, dxt, fst, rfl, g1, meth _ (by decide), ?_⟩
      refine ⟨_, rfl, _, rfl, _, rfl, ?_⟩
      intro h2 dh2 hh2 hdh2 nh2
      refine mk_at (a := l1) (b := l2) (fo := fo) (th := th) (.inl (SqL.of sD.lfS)) (.inl (SqL.of sD.ltS)) nok fne (by omega) hh2 hdh2 nh2 fun HE xE houE => ?_
      refine ⟨Nat.le_of_ble_eq_true rfl, fun lh hlh => ?_⟩
      have zh := Ext.upd (o := .lst [V.ref h, V.ref h2]) hlh
      obtain ⟨HF, hHF⟩ : ∃ HF, HF = L2.upd HE lh (.lst [V.ref h, V.ref h2]) := ⟨_, rfl⟩
      rw [← hHF] at zh ⊢
      have lhF : HF lh = some (.lst [V.ref h, V.ref h2]) := by rw [hHF, upd_same]
      have xDF := xE.trans zh
      obtain ⟨hx, ehx, houx⟩ : ∃ hx, atI [V.ref h, V.ref h2] ((0 + (i : Int)) % 2) = some (.ref hx) ∧ Hou HF K C hx fo th := by
        have : (0 + (i : Int)) % 2 = 0 ∨ (0 + (i : Int)) % 2 = 1 := by omega
        rcases this with e | e
        · exact ⟨h, by rw [e]; rfl, sD.houS.ext xDF⟩
        · exact ⟨h2, by rw [e]; rfl, houE.ext zh⟩
      refine ⟨_, rfl, _, 2, rfl, rfl, (show (0 : Int) < 2 by decide), ?_⟩
      refine ⟨lh, _, _, .ref hx, rfl, rfl, SqL.of lhF, ehx, _, rfl, ?_⟩
      have rrF := rr.ext xDF
      have lrF := xDF _ _ lrD
      intro x' dx' hx' hdx' nx'
      refine mkF (xs := xs) (rs := rows) houx nd zsz okS (.inl (SqL.of lrF)) rrF.raws trr.fact (by omega) hx' hdx' nx' fun HG xG fa => ?_
      rw [trr.told, once_nd ndr] at fa
      have sG := sD.ext (xDF.trans xG)
      refine ⟨t, q, fo, th, d, x', fo, th, rows, rfl, sG.trS, fa, .inr ⟨rfl, rfl, trr, by omega, fun HI xI => ?_⟩⟩
      dsimp only [tIfS]
      refine test_tf (B := rows.all (holdsGR (liesT d))) rfl ?_
      have xDI := (xDF.trans xG).trans xI
      have sI := sD.ext xDI
      refine ⟨_, rfl, _, rfl, _, rfl, u, lr, d, fo, fo ++ th, rows, rfl, sI.uS, ups, by omega, ⟨xs, xDI _ _ lrD, rr.ext xDI⟩, fun r hr => ?_, by omega, fun HJ xJ => ?_⟩
      · obtain ⟨w, a, b, e, ist⟩ := trr r hr
        exact ⟨w, a, b, e, ist.1.1, ist.1.2.1, ist.1.2.2.1⟩
      refine ⟨rfl, _, rfl, ?_⟩
      refine iteF' (by show (!decide (V.bl (rows.all (holdsGR (liesT d))) = V.bl (rows.all (holdsGR (liesT d))))) = false; rw [decide_eq_true rfl]; rfl) ?_
      have xDJ := xDI.trans xJ
      exact ⟨⟨_, _, _, _, _, _, _, _, _, _, rfl⟩, sD.ext xDJ, pool_ext pD2 xDJ, bAD.ext xDJ⟩
    rintro σ HA ⟨⟨v8, v9, v10, v11, v12, v13, v14, v15, v16, v17, rfl⟩, sA, pA, bA⟩
    clear s7 p7 b7
    obtain ⟨f0, rf, hf0⟩ : ∃ f0 rf, fo = f0 :: rf := by
      cases fo with
      | nil => exact absurd rfl fne
      | cons a b => exact ⟨a, b, rfl⟩
    obtain ⟨n1, hn1⟩ : ∃ n1, (fo ++ th)[1]? = some n1 := ⟨_, List.getElem?_eq_getElem (by omega)⟩
    have m0 : f0 ∈ fo := by rw [hf0]; exact List.mem_cons_self
    refine ⟨_, rfl, l1, _, ((0 : Nat) : Int), .str f0, rfl, rfl, SqL.of sA.lfS, atI_nat (by rw [List.getElem?_map, hf0]; rfl), ?_⟩
    refine ⟨_, rfl, _, rfl, l1, l2, _, _, rfl, rfl, sA.lfS, sA.ltS, by rw [lm, lm, sizeLine_eq, ← List.length_append]; omega, fun ln hln => ?_⟩
    have zn := Ext.upd (o := .lst (fo.map V.str ++ th.map V.str)) hln
    refine ⟨ln, _, ((1 : Nat) : Int), .str n1, rfl, rfl, SqL.of upd_same, atI_nat (by rw [← List.map_append, List.getElem?_map, hn1]; rfl), ?_⟩
    obtain ⟨H1a, hH1a⟩ : ∃ HH, HH = L2.upd HA ln (.lst (fo.map V.str ++ th.map V.str)) := ⟨_, rfl⟩
    rw [← hH1a] at zn ⊢
    refine ⟨_, _, rfl, ?_⟩
    refine ⟨Nat.zero_le _, fun a1 ha1 => ?_⟩
    have za1 := Ext.upd (o := .tup []) ha1
    refine ⟨Nat.le_of_ble_eq_true rfl, fun a2 ha2 => ?_⟩
    have za2 := Ext.upd (o := .tup [.str "below"]) ha2
    refine ⟨_, rfl, _, rfl, Nat.le_of_ble_eq_true rfl, fun a3 ha3 => ?_⟩
    have za3 := Ext.upd (o := .tup [.str "below", .str f0, .str f0]) ha3
    refine ⟨_, rfl, _, rfl, Nat.le_of_ble_eq_true rfl, fun a4 ha4 => ?_⟩
    have za4 := Ext.upd (o := .tup [.str "Below", .str n1, .str f0]) ha4
    refine ⟨_, rfl, _, rfl, Nat.le_of_ble_eq_true rfl, fun a5 ha5 => ?_⟩
    have za5 := Ext.upd (o := .tup [.str "line", .str f0, .str f0]) ha5
    refine ⟨Nat.le_of_ble_eq_true rfl, fun la hla => ?_⟩
    have zla := Ext.upd (o := .lst [V.non, .int 5, .str "below", .ref a1, .ref a2, .ref a3, .ref a4, .ref a5]) hla
    obtain ⟨H2a, hH2a⟩ : ∃ HH, HH = L2.upd (L2.upd (L2.upd (L2.upd (L2.upd (L2.upd H1a a1 (.tup [])) a2 (.tup [.str "below"])) a3 (.tup [.str "below", .str f0, .str f0])) a4 (.tup [.str "Below", .str n1, .str f0])) a5 (.tup [.str "line", .str f0, .str f0])) la (.lst [V.non, .int 5, .str "below", .ref a1, .ref a2, .ref a3, .ref a4, .ref a5]) := ⟨_, rfl⟩
    have xH2a : Ext H1a H2a := by rw [hH2a]; exact za1.trans (za2.trans (za3.trans (za4.trans (za5.trans zla))))
    have oa1 : H2a a1 = some (.tup []) := by rw [hH2a]; exact (za2.trans (za3.trans (za4.trans (za5.trans zla)))) _ _ upd_same
    have oa2 : H2a a2 = some (.tup [.str "below"]) := by rw [hH2a]; exact (za3.trans (za4.trans (za5.trans zla))) _ _ upd_same
    have oa3 : H2a a3 = some (.tup [.str "below", .str f0, .str f0]) := by rw [hH2a]; exact (za4.trans (za5.trans zla)) _ _ upd_same
    have oa4 : H2a a4 = some (.tup [.str "Below", .str n1, .str f0]) := by rw [hH2a]; exact (za5.trans zla) _ _ upd_same
    have oa5 : H2a a5 = some (.tup [.str "line", .str f0, .str f0]) := by rw [hH2a]; exact (zla) _ _ upd_same
    have ola : H2a la = some (.lst [V.non, .int 5, .str "below", .ref a1, .ref a2, .ref a3, .ref a4, .ref a5]) := by rw [hH2a, upd_same]
    rw [← hH2a]
    refine ⟨_, rfl, ?_⟩
    refine ⟨_, rfl, Nat.le_of_ble_eq_true rfl, fun b1 hb1 => ?_⟩
    have zb1 := Ext.upd (o := .tup [.str "not", .str "zz", .str f0]) hb1
    refine ⟨_, rfl, Nat.le_of_ble_eq_true rfl, fun b2 hb2 => ?_⟩
    have zb2 := Ext.upd (o := .tup [.str "not", .str f0, .str "zz"]) hb2
    refine ⟨_, rfl, Nat.le_of_ble_eq_true rfl, fun b3 hb3 => ?_⟩
    have zb3 := Ext.upd (o := .tup [.str "line", .str f0, .str "zz"]) hb3
    refine fun b4 hb4 => ?_
    have zb4 := Ext.upd (o := .dK []) hb4
    refine ⟨_, rfl, Nat.le_of_ble_eq_true rfl, fun b5 hb5 => ?_⟩
    have zb5 := Ext.upd (o := .tup [.str "below", .str f0, .non]) hb5
    refine ⟨Nat.le_of_ble_eq_true rfl, fun lb hlb => ?_⟩
    have zlb := Ext.upd (o := .lst [V.ref b1, .ref b2, .ref b3, .ref b4, .bl true, .ref b5]) hlb
    obtain ⟨H3a, hH3a⟩ : ∃ HH, HH = L2.upd (L2.upd (L2.upd (L2.upd (L2.upd (L2.upd H2a b1 (.tup [.str "not", .str "zz", .str f0])) b2 (.tup [.str "not", .str f0, .str "zz"])) b3 (.tup [.str "line", .str f0, .str "zz"])) b4 (.dK [])) b5 (.tup [.str "below", .str f0, .non])) lb (.lst [V.ref b1, .ref b2, .ref b3, .ref b4, .bl true, .ref b5]) := ⟨_, rfl⟩
    have xH3a : Ext H2a H3a := by rw [hH3a]; exact zb1.trans (zb2.trans (zb3.trans (zb4.trans (zb5.trans zlb))))
    have ob1 : H3a b1 = some (.tup [.str "not", .str "zz", .str f0]) := by rw [hH3a]; exact (zb2.trans (zb3.trans (zb4.trans (zb5.trans zlb)))) _ _ upd_same
    have ob2 : H3a b2 = some (.tup [.str "not", .str f0, .str "zz"]) := by rw [hH3a]; exact (zb3.trans (zb4.trans (zb5.trans zlb))) _ _ upd_same
    have ob3 : H3a b3 = some (.tup [.str "line", .str f0, .str "zz"]) := by rw [hH3a]; exact (zb4.trans (zb5.trans zlb)) _ _ upd_same
    have ob4 : H3a b4 = some (.dK []) := by rw [hH3a]; exact (zb5.trans zlb) _ _ upd_same
    have ob5 : H3a b5 = some (.tup [.str "below", .str f0, .non]) := by rw [hH3a]; exact (zlb) _ _ upd_same
    have olb : H3a lb = some (.lst [V.ref b1, .ref b2, .ref b3, .ref b4, .bl true, .ref b5]) := by rw [hH3a, upd_same]
    rw [← hH3a]
    refine ⟨la, lb, _, _, rfl, rfl, xH3a _ _ ola, olb, Nat.le_of_ble_eq_true rfl, fun lc hlc => ?_⟩
    obtain ⟨H4a, hH4a⟩ : ∃ HH, HH = L2.upd H3a lc (.lst ([V.non, .int 5, .str "below", .ref a1, .ref a2, .ref a3, .ref a4, .ref a5] ++ [V.ref b1, .ref b2, .ref b3, .ref b4, .bl true, .ref b5])) := ⟨_, rfl⟩
    rw [← hH4a]
    have xH4a : Ext H3a H4a := by rw [hH4a]; exact Ext.upd hlc
    have olc : H4a lc = some (.lst ([V.non, .int 5, .str "below", .ref a1, .ref a2, .ref a3, .ref a4, .ref a5] ++ [V.ref b1, .ref b2, .ref b3, .ref b4, .bl true, .ref b5])) := by rw [hH4a, upd_same]
    refine ⟨_, rfl, ?_⟩
    refine ⟨_, rfl, Nat.le_of_ble_eq_true rfl, fun c0 hc0 => ?_⟩
    have zc0 := Ext.upd (o := .lst [.str "a"]) hc0
    refine ⟨Nat.le_of_ble_eq_true rfl, fun c1 hc1 => ?_⟩
    have zc1 := Ext.upd (o := .tup [.str "below", .str f0, .ref c0]) hc1
    refine ⟨Nat.le_of_ble_eq_true rfl, fun c2 hc2 => ?_⟩
    have zc2 := Ext.upd (o := .lst [.str "line"]) hc2
    refine ⟨_, rfl, _, rfl, Nat.le_of_ble_eq_true rfl, fun c3 hc3 => ?_⟩
    have zc3 := Ext.upd (o := .tup [.ref c2, .str n1, .str f0]) hc3
    refine ⟨_, rfl, _, rfl, _, rfl, Nat.le_of_ble_eq_true rfl, fun c4 hc4 => ?_⟩
    have zc4 := Ext.upd (o := .tup [.str "line", .str n1, .str f0, .str f0]) hc4
    refine ⟨_, rfl, _, rfl, Nat.le_of_ble_eq_true rfl, fun c5 hc5 => ?_⟩
    have zc5 := Ext.upd (o := .tup [.str "off", .str n1, .str f0]) hc5
    refine ⟨Nat.le_of_ble_eq_true rfl, fun ld hld => ?_⟩
    have zld := Ext.upd (o := .lst [V.ref c1, .ref c3, .ref c4, .ref c5]) hld
    obtain ⟨H5a, hH5a⟩ : ∃ HH, HH = L2.upd (L2.upd (L2.upd (L2.upd (L2.upd (L2.upd (L2.upd H4a c0 (.lst [.str "a"])) c1 (.tup [.str "below", .str f0, .ref c0])) c2 (.lst [.str "line"])) c3 (.tup [.ref c2, .str n1, .str f0])) c4 (.tup [.str "line", .str n1, .str f0, .str f0])) c5 (.tup [.str "off", .str n1, .str f0])) ld (.lst [V.ref c1, .ref c3, .ref c4, .ref c5]) := ⟨_, rfl⟩
    have xH5a : Ext H4a H5a := by rw [hH5a]; exact zc0.trans (zc1.trans (zc2.trans (zc3.trans (zc4.trans (zc5.trans zld)))))
    have oc0 : H5a c0 = some (.lst [.str "a"]) := by rw [hH5a]; exact (zc1.trans (zc2.trans (zc3.trans (zc4.trans (zc5.trans zld))))) _ _ upd_same
    have oc1 : H5a c1 = some (.tup [.str "below", .str f0, .ref c0]) := by rw [hH5a]; exact (zc2.trans (zc3.trans (zc4.trans (zc5.trans zld)))) _ _ upd_same
    have oc2 : H5a c2 = some (.lst [.str "line"]) := by rw [hH5a]; exact (zc3.trans (zc4.trans (zc5.trans zld))) _ _ upd_same
    have oc3 : H5a c3 = some (.tup [.ref c2, .str n1, .str f0]) := by rw [hH5a]; exact (zc4.trans (zc5.trans zld)) _ _ upd_same
    have oc4 : H5a c4 = some (.tup [.str "line", .str n1, .str f0, .str f0]) := by rw [hH5a]; exact (zc5.trans zld) _ _ upd_same
    have oc5 : H5a c5 = some (.tup [.str "off", .str n1, .str f0]) := by rw [hH5a]; exact (zld) _ _ upd_same
    have old : H5a ld = some (.lst [V.ref c1, .ref c3, .ref c4, .ref c5]) := by rw [hH5a, upd_same]
    rw [← hH5a]
    refine ⟨lc, ld, _, _, rfl, rfl, xH5a _ _ olc, old, Nat.le_of_ble_eq_true rfl, fun le hle => ?_⟩
    obtain ⟨H6a, hH6a⟩ : ∃ HH, HH = L2.upd H5a le (.lst (([V.non, .int 5, .str "below", .ref a1, .ref a2, .ref a3, .ref a4, .ref a5] ++ [V.ref b1, .ref b2, .ref b3, .ref b4, .bl true, .ref b5]) ++ [V.ref c1, .ref c3, .ref c4, .ref c5])) := ⟨_, rfl⟩
    rw [← hH6a]
    have xH6a : Ext H5a H6a := by rw [hH6a]; exact Ext.upd hle
    have ole : H6a le = some (.lst (([V.non, .int 5, .str "below", .ref a1, .ref a2, .ref a3, .ref a4, .ref a5] ++ [V.ref b1, .ref b2, .ref b3, .ref b4, .bl true, .ref b5]) ++ [V.ref c1, .ref c3, .ref c4, .ref c5])) := by rw [hH6a, upd_same]
    have xA6 : Ext HA H6a := zn.trans (xH2a.trans (xH3a.trans (xH4a.trans (xH5a.trans xH6a))))
    have nozz : ("zz" : Str) ∉ fo ++ th := fun m => (nms.2 _ m).2.2.2.2.2 "zz" (by decide +kernel) rfl
    obtain ⟨odl, hodl⟩ : ∃ odl : List V, odl = [V.non, .int 5, .str "below", .ref a1, .ref a2, .ref a3, .ref a4, .ref a5] ++ [V.ref b1, .ref b2, .ref b3, .ref b4, .bl true, .ref b5] ++ [V.ref c1, .ref c3, .ref c4, .ref c5] := ⟨_, rfl⟩
    have oddl : OddL K fo th H6a odl := fun x hx => by
      have t2 : ∀ {q : Addr} {ys : List V}, H2a q = some (.tup ys) → SqT K H6a q ys := fun {q ys} h => SqT.of ((xH3a.trans (xH4a.trans (xH5a.trans xH6a))) _ _ h)
      have t3 : ∀ {q : Addr} {ys : List V}, H3a q = some (.tup ys) → SqT K H6a q ys := fun {q ys} h => SqT.of ((xH4a.trans (xH5a.trans xH6a)) _ _ h)
      have t5 : ∀ {q : Addr} {ys : List V}, H5a q = some (.tup ys) → SqT K H6a q ys := fun {q ys} h => SqT.of (xH6a _ _ h)
      have l5 : ∀ {q : Addr} {ys : List V}, H5a q = some (.lst ys) → SqL K H6a q ys := fun {q ys} h => SqL.of (xH6a _ _ h)
      rw [hodl] at hx
      simp only [List.cons_append, List.nil_append, List.mem_cons, List.not_mem_nil, or_false] at hx
      rcases hx with rfl | rfl | rfl | rfl | rfl | rfl | rfl | rfl | rfl | rfl | rfl | rfl | rfl | rfl | rfl | rfl | rfl | rfl
      · exact no_kit (.base .non) (by decide +kernel) (by decide +kernel)
      · exact no_kit (.base (.int 5)) (by decide +kernel) (by decide +kernel)
      · exact no_kit (.base (.str _)) (by decide +kernel) (by decide +kernel)
      · exact no_len (.inr (t2 oa1)) (by decide)
      · exact no_len (.inr (t2 oa2)) (by decide)
      · exact no_fact (.inr (t2 oa3)) (.inl rfl) (.inl rfl) (.inl rfl) fb_eq
      · exact no_fact (.inr (t2 oa4)) (.inl rfl) (.inl rfl) (.inl rfl) (fb_w (inV_not (by decide)))
      · exact no_fact (.inr (t2 oa5)) (.inl rfl) (.inl rfl) (.inl rfl) fb_eq
      · exact no_fact (.inr (t3 ob1)) (.inl rfl) (.inl rfl) (.inl rfl) (fb_o (inV_not nozz))
      · exact no_fact (.inr (t3 ob2)) (.inl rfl) (.inl rfl) (.inl rfl) (fb_p (inV_not nozz))
      · exact no_fact (.inr (t3 ob3)) (.inl rfl) (.inl rfl) (.inl rfl) (fb_p (inV_not nozz))
      · exact no_kit (.base (.dK ((xH4a.trans (xH5a.trans xH6a)) _ _ ob4))) (by decide +kernel) (by decide +kernel)
      · exact no_kit (.base (.bl true)) (by decide +kernel) (by decide +kernel)
      · exact no_fact (.inr (t3 ob5)) (.inl rfl) (.inl rfl) (.inl rfl) (fb_p (inV_non _))
      · exact no_fact (.inr (t5 oc1)) (.inl rfl) (.inl rfl) (.inr (.inl ⟨c0, _, rfl, .inl (l5 oc0)⟩)) (fb_p (inV_no (fun _ => rfl) _))
      · exact no_fact (.inr (t5 oc3)) (.inr (.inl ⟨c2, _, rfl, .inl (l5 oc2)⟩)) (.inl rfl) (.inl rfl) (fb_w (inV_no (fun _ => rfl) _))
      · exact no_len (.inr (t5 oc4)) (by show ¬ (4 = 3); decide)
      · exact no_fact (.inr (t5 oc5)) (.inl rfl) (.inl rfl) (.inl rfl) (fb_w (inV_not (by decide)))
    rw [← hodl] at ole
    have lodl : odl.length = 18 := by rw [hodl]; rfl
    have s6 := sA.ext xA6
    have p6 := pool_ext pA xA6
    have b6 := bA.ext xA6
    clear hH6a hH5a hH4a hH3a hH2a hH1a
    refine ⟨fun σ' H' => (∃ w1 w2 w3 w4 w5 w6 w7 lz, σ' = [some (.ref as), some (.int (0 + (k : Int))), some (.ref p), some (.ref l1), some (.ref l2), some (.ref h), some (.ref u), some (.ref t), w1, w2, w3, w4, w5, some (.str f0), some (.str n1), some (.ref lz), w6, w7] ∧ ∃ zs, H' lz = some (.lst zs) ∧ OddL K fo th H' zs ∧ zs.length ≤ 20) ∧ Ext H6a H', ?_, ?_⟩
    · refine ⟨_, rfl, Nat.zero_le _, fun e he => ?_⟩
      have ze := Ext.upd (o := .lst []) he
      have okt : OkS th := fun z hz => okS z (List.mem_append_right _ hz)
      refine ⟨.list (th.map PyData.str), .list [], .lst (SqL.of (ze _ _ s6.ltS)) (dpAll_str th), .lst (SqL.of upd_same) .nil, shaped_strL th okt, rfl, _, rfl, ?_⟩
      have ev : PyData.eqv (.list (th.map PyData.str)) (.list []) = decide (th = []) := eqvAll_str th []
      rw [ev]
      refine ite2 (fun c => ?_) fun c => ?_
      · obtain ⟨t0, rt, ht0⟩ : ∃ t0 rt, th = t0 :: rt := by
          cases th with
          | nil => exact absurd c (by decide)
          | cons a b => exact ⟨a, b, rfl⟩
        have lt6 := ze _ _ s6.ltS
        refine ⟨_, rfl, _, rfl, _, rfl, l2, _, ((0 : Nat) : Int), .str t0, rfl, rfl, SqL.of lt6, atI_nat (by rw [List.getElem?_map, ht0]; rfl), Nat.le_of_ble_eq_true rfl, fun d1 hd1 => ?_⟩
        have q1 := Ext.upd (o := .tup [.str "below", .str f0, .str t0]) hd1
        refine ⟨_, rfl, _, rfl, l2, _, ((0 : Nat) : Int), .str t0, rfl, rfl, SqL.of (q1 _ _ lt6), atI_nat (by rw [List.getElem?_map, ht0]; rfl), Nat.le_of_ble_eq_true rfl, fun d2 hd2 => ⟨Nat.le_of_ble_eq_true rfl, fun d3 hd3 => ?_⟩⟩
        have q2 := Ext.upd (o := .tup [.str "not", .str f0, .str t0]) hd2
        have q3 := Ext.upd (o := .lst [V.ref d1, V.ref d2]) hd3
        have q13 := q1.trans (q2.trans q3)
        refine ⟨le, d3, _, _, rfl, rfl, q13 _ _ (ze _ _ ole), upd_same, by rw [lodl, sizeLine_eq]; show 18 + 2 ≤ _; omega, fun lg hlg => ?_⟩
        have q4 := Ext.upd (o := .lst (odl ++ [V.ref d1, V.ref d2])) hlg
        have q14 := q13.trans q4
        have nt0 : inV (.str t0) (fo.map V.str) = false := inV_not fun m => (List.nodup_append.mp nd).2.2 t0 m t0 (by rw [ht0]; exact List.mem_cons_self) rfl
        refine ⟨⟨_, _, _, _, _, _, _, lg, rfl, _, upd_same, OddL.app ((oddl.ext ze).ext q14) (fun x hx => ?_), by rw [List.length_append, lodl]; exact Nat.le_refl _⟩, ze.trans q14⟩
        have hx : x = .ref d1 ∨ x = .ref d2 := by simpa using hx
        rcases hx with rfl | rfl
        · exact no_fact (.inr (SqT.of ((q2.trans (q3.trans q4)) _ _ upd_same))) (.inl rfl) (.inl rfl) (.inl rfl) (fb_fo (fun e => nomatch e) nt0)
        · exact no_fact (.inr (SqT.of ((q3.trans q4) _ _ upd_same))) (.inl rfl) (.inl rfl) (.inl rfl) (fb_fo (fun e => nomatch e) nt0)
      · exact ⟨⟨_, _, _, _, _, _, _, le, rfl, odl, ze _ _ ole, oddl.ext ze, by omega⟩, ze⟩
    · rintro σ' H7 ⟨⟨w1, w2, w3, w4, w5, w6, w7, lz, rfl, zs, oz, odz, lnz⟩, x7⟩
      have s7 := s6.ext x7
      have tb7 : Tabs Ts H7 := (tabs_but tb1 b6 hy1).ext x7
      have b7 := b6.ext x7
      refine ⟨_, rfl, lz, rfl, ⟨_, SqL.of oz⟩, fun D hD => ?_⟩
      refine lc_list (K := K) (a := lz) (xs := zs) (fun i H' => ExtN H7 H' ∧ Tabs Ts H' ∧ ∃ acc, H' D = some (.lst acc) ∧ acc.length = i ∧ AnsL K H' acc) ⟨ExtN.of (Ext.upd hD), tb7.ext (Ext.upd hD), [], upd_same, rfl, fun x hx => by cases hx⟩ (fun i H' _ z => SqL.of (z.1 _ _ oz (fun _ y => nomatch y))) ?_ ?_
      · rintro i v H8 hv ⟨e8, tb8, acc, d8, al, aa⟩
        have il := (List.getElem?_eq_some_iff.mp hv).1
        refine ⟨rfl, ?_⟩
        refine lcYes ?_
        refine ⟨tb8, fun H9 e9 tb9 => ?_⟩
        have tr9 := tree_extN (tree_extN s7.trS e8) e9
        obtain ⟨dxt, fst, hot, g1, _, _, _, _, _, _, _, _, meth⟩ := id tr9
        refine ⟨_, rfl, t, dxt, fst, rfl, g1, meth _ (by decide), _, rfl, t, q, fo, th, d, v, rfl, tr9, .inl ⟨((odz v (List.mem_of_getElem? hv)).extN e8).extN e9, fun d' HA xA _ hd' => .inl ⟨d', .int 0, rfl, rfl, hd', fun r hr => ?_⟩⟩⟩
        have xr := Ext.upd (o := .tup [.str "fact", .int 0]) hr
        have dA := xA _ _ (e9 _ _ d8 (fun _ y => nomatch y))
        have dR := xr _ _ dA
        have nrD : r ≠ D := fun e => by rw [e, dA] at hr; cases hr
        refine ⟨acc, dR, by rw [sizeLine_eq]; omega, ?_⟩
        refine ⟨fun c w hc ht => ?_, tabs_but (((tb9.ext xA)).ext xr) (But.upd (ext_but Ext.rfl')) dR, acc ++ [.ref r], upd_same, by rw [List.length_append, al]; rfl, fun x hx => ?_⟩
        · rw [upd_ne (ne_of_none hc hD)]
          exact xr _ _ (xA _ _ (e9 _ _ (e8 _ _ hc ht) ht))
        · rcases List.mem_append.mp hx with hx | hx
          · obtain ⟨r', h1, h2⟩ := (aa.extN e9) x hx
            exact ⟨r', h1, sqT_upd ((h2.ext xA).ext xr) dR⟩
          · exact ⟨r, List.mem_singleton.mp hx, sqT_upd (SqT.of upd_same) dR⟩
      · rintro H8 ⟨e8, tb8, acc, d8, al, aa⟩
        refine ⟨Nat.le_of_ble_eq_true rfl, fun a1 ha1 => ⟨Nat.le_of_ble_eq_true rfl, fun a2 ha2 => ?_⟩⟩
        have q1 := Ext.upd (o := .tup [.str "fact", .int 0]) ha1
        have q2 := Ext.upd (o := .lst [V.ref a1]) ha2
        obtain ⟨H9, hH9⟩ : ∃ HH, HH = L2.upd (L2.upd H8 a1 (.tup [.str "fact", .int 0])) a2 (.lst [V.ref a1]) := ⟨_, rfl⟩
        have x9 : Ext H8 H9 := by rw [hH9]; exact q1.trans q2
        have a19 : H9 a1 = some (.tup [.str "fact", .int 0]) := by rw [hH9]; exact q2 _ _ upd_same
        have a29 : H9 a2 = some (.lst [V.ref a1]) := by rw [hH9, upd_same]
        rw [← hH9]
        have oz9 := x9 _ _ (e8 _ _ oz (fun _ y => nomatch y))
        refine ⟨_, rfl, _, _, rfl, .inl ⟨_, SqL.of oz9, rfl⟩, a2, _, _, rfl, rfl, a29, by omega, by omega, by rw [sizeLine_eq]; show 1 * _ ≤ _; omega, fun a3 ha3 => ?_⟩
        have en : (((zs.length : Nat) : Int)).toNat = zs.length := by omega
        rw [en, flat_rep5]
        have x3 := Ext.upd (o := .lst (List.replicate zs.length (V.ref a1))) ha3
        obtain ⟨HA, hHA⟩ : ∃ HH, HH = L2.upd H9 a3 (.lst (List.replicate zs.length (V.ref a1))) := ⟨_, rfl⟩
        rw [← hHA] at x3 ⊢
        have a3A : HA a3 = some (.lst (List.replicate zs.length (V.ref a1))) := by rw [hHA, upd_same]
        have x8A := x9.trans x3
        have ansR : AnsL K HA (List.replicate zs.length (V.ref a1)) := fun x hx => ⟨a1, (List.mem_replicate.mp hx).2, SqT.of (x3 _ _ a19)⟩
        have dR := ansR.dp
        rw [List.length_replicate] at dR
        have dL := (aa.extN (ExtN.of x8A)).dp
        rw [al] at dL
        refine ⟨_, _, .lst (SqL.of (x8A _ _ d8)) dL, .lst (SqL.of a3A) dR, ans_shaped _, ans_shaped _, _, rfl, ?_⟩
        rw [ans_eqv]
        refine iteF' rfl ?_
        -- other houses, and none
        have e7A : ExtN H7 HA := e8.trans (ExtN.of x8A)
        have trA := tree_extN s7.trS e7A
        have houA := hou_extN s7.houS e7A
        refine ⟨_, rfl, _, rfl, _, rfl, t, q, l1, l2, fo, th, d, rfl, trA, e7A _ _ s7.lfS (fun _ y => nomatch y), e7A _ _ s7.ltS (fun _ y => nomatch y), nms, f1, by omega, by omega, tb8.ext x8A, fun HB eB tbB => ?_⟩
        refine ⟨_, rfl, ?_⟩
        refine iteF ?_
        have trB := tree_extN trA eB
        have houB := hou_extN houA eB
        obtain ⟨dxt, fst, hot, g1, _, _, _, _, _, _, _, _, meth⟩ := id trB
        refine ⟨_, rfl, t, dxt, fst, rfl, g1, meth _ (by decide), ?_⟩
        refine ⟨_, rfl, ?_⟩
        intro x' dx' hx' hdx' nx'
        refine mkF (xs := []) (rs := []) houB nd zsz okS (.inr (F.tD _)) ⟨rfl, fun i x h => by cases h⟩ (fun r hr => by cases hr) (by decide) hx' hdx' nx' fun HC xC fa => ?_
        refine ⟨t, q, fo, th, d, x', fo, th, _, rfl, trB.ext xC, fa, .inr ⟨rfl, rfl, (show TR fo th [] from fun r hr => by cases hr), (show (0 : Nat) < 1000 by decide), fun HD xD => ?_⟩⟩
        refine ⟨_, rfl, ?_⟩
        refine iteF ?_
        exact ⟨_, _, _, _, _, _, _, _, _, _, _, _, _, _, _, _, _, rfl, fin H7 HD b7 (e7A.trans (eB.trans (ExtN.of (xC.trans xD)))), (tbB.ext xC).ext xD⟩
end
end My

namespace My
open PySem PySem.Spec PyProof.Rows L2 He
/-! ### what is looked up in the written part, as truths -/
def oexB (K : PySem.W.Frag) (C : Addr) : Bool := (match K.lookup C with
    | some ⟨.type t, _, .cls cd, sl⟩ => decide (t = "type") && (match cd.mro, sl.toList with
      | .ref C' :: bm, [_, _, _, _, some (.builtin n), _] => decide (C' = C) && (decide (n = "ValueError.__new__") && (!cd.hasDel && (cd.hasDict && PySem.HandSPX.refsVE bm)))
      | _, _ => false)
    | _ => false) && (decide (PySem.W.findIn K (.ref C) "__setattr__" = some (some (.builtin "object.__setattr__"))) && (decide (PySem.W.subIn K (.ref C) (.type "BaseException") = some true) &&
    (decide (PySem.W.typeIn K (.ref C) = some (.type "type")) && PySem.W.keepIn K (.ref C))))
theorem oexB_ok {K : PySem.W.Frag} {C : Addr} (h : oexB K C = true) : OexC K C := by
  obtain ⟨h1, h⟩ := ba h
  obtain ⟨h2, h⟩ := ba h
  obtain ⟨h3, h⟩ := ba h
  obtain ⟨h4, h5⟩ := ba h
  refine ⟨?_, of_decide_eq_true h2, of_decide_eq_true h3, of_decide_eq_true h4, h5⟩
  split at h1
  · rename_i t dd cd sl ho
    obtain ⟨k1, k2⟩ := ba h1
    obtain rfl := of_decide_eq_true k1
    split at k2
    · rename_i C' bm k0 k1 k2' k3 n k5 hm hs
      obtain ⟨e1, k2⟩ := ba k2
      obtain ⟨e2, k2⟩ := ba k2
      obtain ⟨e3, k2⟩ := ba k2
      obtain ⟨e4, e5⟩ := ba k2
      obtain rfl := of_decide_eq_true e1
      obtain rfl := of_decide_eq_true e2
      obtain ⟨nm, bs, mro, ns, qn, hd, sn, sub, ab, col, del⟩ := cd
      dsimp only at hm e3 e4
      subst hm
      obtain rfl : hd = true := e4
      obtain rfl : del = false := by
        cases del
        · rfl
        · cases e3
      have hsl : sl = #[k0, k1, k2', k3, some (.builtin "ValueError.__new__"), k5] := by
        obtain ⟨l⟩ := sl
        simp only at hs
        rw [hs]
      subst hsl
      exact ⟨nm, qn, ns, bs, bm, sn, sub, ab, col, dd, k0, k1, k2', k3, k5, ho, e5⟩
    · cases k2
  · cases h1
def kitCB (K : PySem.W.Frag) (C : Addr) : Bool := (PySem.W.clsIn K C).isSome && (decide (PySem.W.findIn K (.ref C) "__class__" = some (some (.builtin "object.__class__"))) &&
  (decide (PySem.W.specialIn K (.builtin "object.__class__") "__get__" = some (some (.builtin "getset_descriptor.__get__"))) && (decide (PySem.W.takesIn K (.builtin "object.__class__") = some true) && decide (PySem.W.mroIn K C (.type "object") = some true))))
theorem kitCB_ok {K : PySem.W.Frag} {C : Addr} (h : kitCB K C = true) : KitC K C := by
  obtain ⟨h1, h⟩ := ba h
  obtain ⟨h2, h⟩ := ba h
  obtain ⟨h3, h⟩ := ba h
  obtain ⟨h4, h5⟩ := ba h
  exact ⟨h1, of_decide_eq_true h2, of_decide_eq_true h3, of_decide_eq_true h4, of_decide_eq_true h5⟩
/-- a class with one field -/
def errB (K : PySem.W.Frag) (x f : Str) : Bool := oexB K (ga K x) && (xfB K (ga K x) && (kitCB K (ga K x) && (decide (PySem.W.findIn K (.ref (ga K x)) "__init__" = some (some (.ref (ma K (ga K x) "__init__")))) &&
  (decide (PySem.W.typeIn K (.ref (ma K (ga K x) "__init__")) = some (.type "function")) && decide (PySem.W.findIn K (.ref (ga K x)) f = some none)))))
theorem errB_ok {K : PySem.W.Frag} {mg : Str → Option Value} {x f : Str} (g : mg x = some (.ref (ga K x))) (h : errB K x f = true) : ErrC K mg x f (ga K x) (ma K (ga K x) "__init__") := by
  obtain ⟨h1, h⟩ := ba h
  obtain ⟨h2, h⟩ := ba h
  obtain ⟨h3, h⟩ := ba h
  obtain ⟨h4, h⟩ := ba h
  obtain ⟨h5, h6⟩ := ba h
  exact ⟨g, oexB_ok h1, xfB_ok h2, kitCB_ok h3, of_decide_eq_true h4, of_decide_eq_true h5, of_decide_eq_true h6⟩
/-! ### the look at the head: facts, defs, and one more truth -/
abbrev AlM : Type := AlD × Bool
def seenM (fa : List Fa) (fn : List DefD) (ex : PySem.W.Frag → Bool) (K : PySem.W.Frag) : AlM := (obsD fa fn K, ex K)
def seenMG (n : Nat) (fa : List Fa) (fn : List DefD) (ex : PySem.W.Frag → Bool) (g : Addr → Option Obj) : AlM := seenM fa fn ex (frG g (asD g n))
def hookM (n : Nat) (fa : List Fa) (fn : List DefD) (ex : PySem.W.Frag → Bool) : PySem.W.Hook where
  α := AlM
  obs := fun s => seenMG n fa fn ex s.heap.get?
  val := fun _ => (valD fn, true)
  says := fun _ h => ∃ K : PySem.W.Frag, K.In h ∧ (SaysD fa fn K ∧ ex K = true)
  of := fun _ _ e => ⟨_, frG_in, congrArg (fun z : AlM => z.1) e, congrArg (fun z : AlM => z.2) e⟩
  keeps := fun _ _ _ ⟨K, hK, c⟩ k => ⟨K, PySem.W.Frag.In.keeps hK k, c⟩
theorem seenMG_eq {n : Nat} {fa : List Fa} {fn : List DefD} {ex : PySem.W.Frag → Bool} {g : Addr → Option Obj} {s : Shared} (h : ∀ a, g a = s.heap.get? a) : seenMG n fa fn ex g = (hookM n fa fn ex).obs s := by
  have e : g = s.heap.get? := funext h
  rw [e] <;> rfl


def aDef (K : PySem.W.Frag) : Addr := dflAt ("House", some "__init__") 0 K
def aDefF (K : PySem.W.Frag) : Addr := dflAt ("Facts", some "__init__") 0 K
def d_BadHouse_init : DefD := ⟨("BadHouse", some "__init__"), "__init__", "BadHouse.__init__", defArgs (inCls (top 3) 0), defBody (inCls (top 3) 0), defScope (inCls (top 3) 0), [], []⟩
def d_NoNode_init : DefD := ⟨("NoNode", some "__init__"), "__init__", "NoNode.__init__", defArgs (inCls (top 4) 0), defBody (inCls (top 4) 0), defScope (inCls (top 4) 0), [], []⟩
def d_NoFolder_init : DefD := ⟨("NoFolder", some "__init__"), "__init__", "NoFolder.__init__", defArgs (inCls (top 5) 0), defBody (inCls (top 5) 0), defScope (inCls (top 5) 0), [], []⟩
def d_Ringed_init : DefD := ⟨("Ringed", some "__init__"), "__init__", "Ringed.__init__", defArgs (inCls (top 6) 0), defBody (inCls (top 6) 0), defScope (inCls (top 6) 0), [], []⟩
def d_BadFact_init : DefD := ⟨("BadFact", some "__init__"), "__init__", "BadFact.__init__", defArgs (inCls (top 7) 0), defBody (inCls (top 7) 0), defScope (inCls (top 7) 0), [], []⟩
def d_is_list : DefD := ⟨("is_list", none), "is_list", "is_list", defArgs (top 12), defBody (top 12), defScope (top 12), [], []⟩
def d_is_name : DefD := ⟨("is_name", none), "is_name", "is_name", defArgs (top 13), defBody (top 13), defScope (top 13), [], []⟩
def d_is_fact : DefD := ⟨("is_fact", none), "is_fact", "is_fact", defArgs (top 16), defBody (top 16), defScope (top 16), [], []⟩
def d_wrong_fact : DefD := ⟨("wrong_fact", none), "wrong_fact", "wrong_fact", defArgs (top 17), defBody (top 17), defScope (top 17), [], []⟩
def d_as_told : DefD := ⟨("as_told", none), "as_told", "as_told", defArgs (top 18), defBody (top 18), defScope (top 18), [], []⟩
def d_each_once : DefD := ⟨("each_once", none), "each_once", "each_once", defArgs (top 19), defBody (top 19), defScope (top 19), [], []⟩
def d_Facts_init : DefD := ⟨("Facts", some "__init__"), "__init__", "Facts.__init__", defArgs (inCls (top 20) 0), defBody (inCls (top 20) 0), defScope (inCls (top 20) 0), [.adr aDefF], []⟩
def d_Facts_told : DefD := ⟨("Facts", some "told"), "told", "Facts.told", defArgs (inCls (top 20) 1), defBody (inCls (top 20) 1), defScope (inCls (top 20) 1), [], []⟩
def d_Facts_len : DefD := ⟨("Facts", some "__len__"), "__len__", "Facts.__len__", defArgs (inCls (top 20) 4), defBody (inCls (top 20) 4), defScope (inCls (top 20) 4), [], []⟩
def d_Facts_contains : DefD := ⟨("Facts", some "__contains__"), "__contains__", "Facts.__contains__", defArgs (inCls (top 20) 5), defBody (inCls (top 20) 5), defScope (inCls (top 20) 5), [], []⟩
def d_Facts_iter : DefD := ⟨("Facts", some "__iter__"), "__iter__", "Facts.__iter__", defArgs (inCls (top 20) 6), defBody (inCls (top 20) 6), defScope (inCls (top 20) 6), [], []⟩
def d_Facts_eq : DefD := ⟨("Facts", some "__eq__"), "__eq__", "Facts.__eq__", defArgs (inCls (top 20) 7), defBody (inCls (top 20) 7), defScope (inCls (top 20) 7), [], []⟩
def d_wrong_name : DefD := ⟨("wrong_name", none), "wrong_name", "wrong_name", defArgs (top 22), defBody (top 22), defScope (top 22), [], []⟩
def d_wrong_part : DefD := ⟨("wrong_part", none), "wrong_part", "wrong_part", defArgs (top 23), defBody (top 23), defScope (top 23), [], []⟩
def d_House_init : DefD := ⟨("House", some "__init__"), "__init__", "House.__init__", defArgs (inCls (top 24) 0), defBody (inCls (top 24) 0), defScope (inCls (top 24) 0), [.adr aDef], []⟩
def d_House_len : DefD := ⟨("House", some "__len__"), "__len__", "House.__len__", defArgs (inCls (top 24) 1), defBody (inCls (top 24) 1), defScope (inCls (top 24) 1), [], []⟩
def d_House_contains : DefD := ⟨("House", some "__contains__"), "__contains__", "House.__contains__", defArgs (inCls (top 24) 2), defBody (inCls (top 24) 2), defScope (inCls (top 24) 2), [], []⟩
def d_House_iter : DefD := ⟨("House", some "__iter__"), "__iter__", "House.__iter__", defArgs (inCls (top 24) 3), defBody (inCls (top 24) 3), defScope (inCls (top 24) 3), [], []⟩
def d_House_eq : DefD := ⟨("House", some "__eq__"), "__eq__", "House.__eq__", defArgs (inCls (top 24) 4), defBody (inCls (top 24) 4), defScope (inCls (top 24) 4), [], []⟩
def d_must_be_node : DefD := ⟨("must_be_node", none), "must_be_node", "must_be_node", defArgs (top 25), defBody (top 25), defScope (top 25), [], []⟩
def d_must_be_folder : DefD := ⟨("must_be_folder", none), "must_be_folder", "must_be_folder", defArgs (top 26), defBody (top 26), defScope (top 26), [], []⟩
def d_ring : DefD := ⟨("ring", none), "ring", "ring", defArgs (top 28), defBody (top 28), defScope (top 28), [], []⟩
def d_Tree_init : DefD := ⟨("Tree", some "__init__"), "__init__", "Tree.__init__", defArgs (inCls (top 29) 0), defBody (inCls (top 29) 0), defScope (inCls (top 29) 0), [], []⟩
def d_Tree_over : DefD := ⟨("Tree", some "over"), "over", "Tree.over", defArgs (inCls (top 29) 1), defBody (inCls (top 29) 1), defScope (inCls (top 29) 1), [], []⟩
def d_Tree_above : DefD := ⟨("Tree", some "above"), "above", "Tree.above", defArgs (inCls (top 29) 2), defBody (inCls (top 29) 2), defScope (inCls (top 29) 2), [], []⟩
def d_Tree_below : DefD := ⟨("Tree", some "below"), "below", "Tree.below", defArgs (inCls (top 29) 3), defBody (inCls (top 29) 3), defScope (inCls (top 29) 3), [], []⟩
def d_Tree_lies : DefD := ⟨("Tree", some "lies"), "lies", "Tree.lies", defArgs (inCls (top 29) 4), defBody (inCls (top 29) 4), defScope (inCls (top 29) 4), [], []⟩
def d_Tree_holds : DefD := ⟨("Tree", some "holds"), "holds", "Tree.holds", defArgs (inCls (top 29) 6), defBody (inCls (top 29) 6), defScope (inCls (top 29) 6), [], []⟩
def d_Tree_keeps : DefD := ⟨("Tree", some "keeps"), "keeps", "Tree.keeps", defArgs (inCls (top 29) 7), defBody (inCls (top 29) 7), defScope (inCls (top 29) 7), [], []⟩
def d_Tree_eq : DefD := ⟨("Tree", some "__eq__"), "__eq__", "Tree.__eq__", defArgs (inCls (top 29) 8), defBody (inCls (top 29) 8), defScope (inCls (top 29) 8), [], []⟩
def d__law_cell : DefD := ⟨("_law_cell", none), "_law_cell", "_law_cell", defArgs (top 31), defBody (top 31), defScope (top 31), [], []⟩
def d__law_pool : DefD := ⟨("_law_pool", none), "_law_pool", "_law_pool", defArgs (top 32), defBody (top 32), defScope (top 32), [], []⟩
def d__law_take : DefD := ⟨("_law_take", none), "_law_take", "_law_take", defArgs (top 33), defBody (top 33), defScope (top 33), [], []⟩
def d__law_names : DefD := ⟨("_law_names", none), "_law_names", "_law_names", defArgs (top 34), defBody (top 34), defScope (top 34), [], []⟩
def d__law_house : DefD := ⟨("_law_house", none), "_law_house", "_law_house", defArgs (top 35), defBody (top 35), defScope (top 35), [], []⟩
def d__law_goes_round : DefD := ⟨("_law_goes_round", none), "_law_goes_round", "_law_goes_round", defArgs (top 36), defBody (top 36), defScope (top 36), [], []⟩
def d__law_tree : DefD := ⟨("_law_tree", none), "_law_tree", "_law_tree", defArgs (top 37), defBody (top 37), defScope (top 37), [], []⟩
def d__law_above : DefD := ⟨("_law_above", none), "_law_above", "_law_above", defArgs (top 38), defBody (top 38), defScope (top 38), [], []⟩
def d__law_holds : DefD := ⟨("_law_holds", none), "_law_holds", "_law_holds", defArgs (top 39), defBody (top 39), defScope (top 39), [], []⟩
def d__law_fact : DefD := ⟨("_law_fact", none), "_law_fact", "_law_fact", defArgs (top 40), defBody (top 40), defScope (top 40), [], []⟩
def d__law_true : DefD := ⟨("_law_true", none), "_law_true", "_law_true", defArgs (top 41), defBody (top 41), defScope (top 41), [], []⟩
def d__law_told : DefD := ⟨("_law_told", none), "_law_told", "_law_told", defArgs (top 42), defBody (top 42), defScope (top 42), [], []⟩
def d__law_keep : DefD := ⟨("_law_keep", none), "_law_keep", "_law_keep", defArgs (top 43), defBody (top 43), defScope (top 43), [], []⟩
def d__law_every : DefD := ⟨("_law_every", none), "_law_every", "_law_every", defArgs (top 44), defBody (top 44), defScope (top 44), [], []⟩
def d__law_refused : DefD := ⟨("_law_refused", none), "_law_refused", "_law_refused", defArgs (top 45), defBody (top 45), defScope (top 45), [], []⟩
def d__law_others_refused : DefD := ⟨("_law_others_refused", none), "_law_others_refused", "_law_others_refused", defArgs (top 46), defBody (top 46), defScope (top 46), [], []⟩
def d_law : DefD := ⟨("law", none), "law", "law", defArgs (top 47), defBody (top 47), defScope (top 47), [], []⟩
def fn : List DefD := ([d_BadHouse_init, d_NoNode_init, d_NoFolder_init, d_Ringed_init, d_BadFact_init, d_is_list, d_is_name, d_is_fact, d_wrong_fact, d_as_told, d_each_once, d_Facts_init, d_Facts_told, d_Facts_len] : List DefD) ++ ([d_Facts_contains, d_Facts_iter, d_Facts_eq, d_wrong_name, d_wrong_part, d_House_init, d_House_len, d_House_contains, d_House_iter, d_House_eq, d_must_be_node, d_must_be_folder, d_ring, d_Tree_init] : List DefD) ++ ([d_Tree_over, d_Tree_above, d_Tree_below, d_Tree_lies, d_Tree_holds, d_Tree_keeps, d_Tree_eq, d__law_cell, d__law_pool, d__law_take, d__law_names, d__law_house, d__law_goes_round, d__law_tree] : List DefD) ++ ([d__law_above, d__law_holds, d__law_fact, d__law_true, d__law_told, d__law_keep, d__law_every, d__law_refused, d__law_others_refused, d_law] : List DefD)
def fa : List Fa := ([.glo "BadHouse", .glo "NoNode", .glo "NoFolder", .glo "Ringed", .glo "BadFact", .glo "UnlikeHouses", .glo "is_list", .glo "is_name", .glo "is_fact", .glo "wrong_fact", .glo "as_told", .glo "each_once", .glo "Facts", .glo "wrong_name"] : List Fa) ++ ([.glo "wrong_part", .glo "House", .glo "must_be_node", .glo "must_be_folder", .glo "ring", .glo "Tree", .glo "_law_cell", .glo "_law_pool", .glo "_law_take", .glo "_law_names", .glo "_law_house", .glo "_law_goes_round", .glo "_law_tree", .glo "_law_above"] : List Fa) ++ ([.glo "_law_holds", .glo "_law_fact", .glo "_law_true", .glo "_law_told", .glo "_law_keep", .glo "_law_every", .glo "_law_refused", .glo "_law_others_refused", .glo "law", .glo "WORDS", .free "int", .free "len", .free "isinstance", .free "range"] : List Fa) ++ ([.free "all", .free "list", .free "tuple", .free "str", .free "enumerate", .free "iter", .free "max", .free "bool", .free "dict", .free "any", .int "LONGEST" 8, .str "LETTERS" letters, .cls "House", .noat "House" "folders"] : List Fa) ++ ([.noat "House" "things", .noat "House" "nodes", .meth "House" "__len__", .meth "House" "__contains__", .meth "House" "__iter__", .meth "House" "__eq__", .mkr "House", .cls "Facts", .noat "Facts" "house", .noat "Facts" "rows", .meth "Facts" "told", .meth "Facts" "__len__", .meth "Facts" "__contains__", .meth "Facts" "__iter__"] : List Fa) ++ ([.meth "Facts" "__eq__", .mkr "Facts", .cls "Tree", .noat "Tree" "house", .noat "Tree" "lying", .meth "Tree" "over", .meth "Tree" "above", .meth "Tree" "below", .meth "Tree" "lies", .meth "Tree" "holds", .meth "Tree" "keeps", .meth "Tree" "__eq__", .mkr "Tree", .exm "BadFact" "BadFact" true] : List Fa) ++ ([.exm "UnlikeHouses" "BadFact" false, .exm "UnlikeHouses" "UnlikeHouses" true] : List Fa)
def tyL : List String := ["NoneType", "list", "tuple", "int", "str"]
def dflB (K : PySem.W.Frag) : Bool := match K.lookup (aDef K) with
  | some ⟨.type t, _, .seq its _, _⟩ => decide (t = "tuple") && decide (its.toList = [])
  | _ => false
def strsB : List PySem.Value → List PySem.Str → Bool
  | [], [] => true
  | .str a _ :: us, z :: zs => decide (a = z) && strsB us zs
  | _, _ => false
theorem strsB_ok : ∀ {us : List PySem.Value} {zs : List PySem.Str}, strsB us zs = true → Vals (zs.map V.str) us
  | [], [], _ => .nil
  | .str a t :: us, z :: zs, h => by
    obtain ⟨h1, h2⟩ := ba h
    obtain rfl := of_decide_eq_true h1
    exact .cons ⟨t, rfl⟩ (strsB_ok h2)
def worB (K : PySem.W.Frag) : Bool := match K.lookup (ga K "WORDS") with
  | some ⟨.type t, _, .seq its _, _⟩ => decide (t = "tuple") && strsB its.toList wordsS
  | _ => false
def dflBF (K : PySem.W.Frag) : Bool := match K.lookup (aDefF K) with
  | some ⟨.type t, _, .seq its _, _⟩ => decide (t = "tuple") && decide (its.toList = [])
  | _ => false
theorem dflBF_ok {K : PySem.W.Frag} (h : dflBF K = true) : ∀ H, SqT K H (aDefF K) [] := fun H => by
  unfold dflBF at h
  split at h
  · rename_i t dd its n sl ho
    obtain ⟨h1, h2⟩ := ba h
    obtain rfl := of_decide_eq_true h1
    have h3 : its.toList = [] := of_decide_eq_true h2
    refine .inr ⟨_, its, n, ho, rfl, rfl, ?_, by rw [h3]; exact .nil⟩
    rw [← Array.length_toList, h3]
    exact Nat.zero_le _
  · cases h
def facB (K : PySem.W.Frag) : Bool := kitCB K (ga K "Facts") && (decide (PySem.W.kitOne K (.ref (ga K "Facts")) (.ref (ga K "Facts")) = some true) && (decide (PySem.W.findIn K (.ref (ga K "Facts")) "__ne__" = some (some (.builtin "object.__ne__"))) &&
  ((tyL.all fun T => PySem.W.notFirst K (ga K "Facts") (.type T) && decide (PySem.W.kitOne K (.type T) (.ref (ga K "Facts")) = some false)) && (decide (PySem.W.kitAny K (.ref (ga K "Facts")) [.type "list", .type "tuple"] = some false) && dflBF K))))
def treB (K : PySem.W.Frag) : Bool := kitCB K (ga K "Tree")
def bmV : List PySem.Value := [.type "ValueError", .type "Exception", .type "BaseException", .type "object"]
def uncB (K : PySem.W.Frag) : Bool := PySem.W.excIn K (ga K "UnlikeHouses") bmV "ValueError.__new__" && (PySem.W.keepIn K (.ref (ga K "UnlikeHouses")) && (decide (PySem.W.subIn K (.ref (ga K "UnlikeHouses")) (.type "BaseException") = some true) && decide (PySem.W.typeIn K (.ref (ga K "UnlikeHouses")) = some (.type "type"))))
def twoB (K : PySem.W.Frag) : Bool := !decide ((cT K ("law", none)).2 = (cT K ("_law_others_refused", none)).2)
def houB (K : PySem.W.Frag) : Bool := errB K "BadHouse" "index" && (kitCB K (ga K "House") && (decide (PySem.W.kitOne K (.ref (ga K "House")) (.ref (ga K "House")) = some true) && (decide (PySem.W.findIn K (.ref (ga K "House")) "__ne__" = some (some (.builtin "object.__ne__"))) &&
  (decide (PySem.W.subIn K (.ref (ga K "House")) (.type "str") = some false) && ((tyL.all fun T => PySem.W.notFirst K (ga K "House") (.type T) && decide (PySem.W.kitOne K (.type T) (.ref (ga K "House")) = some false)) && (dflB K && (errB K "BadFact" "index" && (worB K && (errB K "NoNode" "node" && (errB K "NoFolder" "folder" && (errB K "Ringed" "folders" && (treB K && (uncB K && (twoB K && facB K))))))))))))))
theorem dflB_ok {K : PySem.W.Frag} (h : dflB K = true) : ∀ H, SqT K H (aDef K) [] := fun H => by
  unfold dflB at h
  split at h
  · rename_i t dd its n sl ho
    obtain ⟨h1, h2⟩ := ba h
    obtain rfl := of_decide_eq_true h1
    have h3 : its.toList = [] := of_decide_eq_true h2
    refine .inr ⟨_, its, n, ho, rfl, rfl, ?_, by rw [h3]; exact .nil⟩
    rw [← Array.length_toList, h3]
    exact Nat.zero_le _
  · cases h
theorem worB_ok {K : PySem.W.Frag} (h : worB K = true) : ∀ H, SqT K H (ga K "WORDS") (wordsS.map V.str) := fun H => by
  unfold worB at h
  split at h
  · rename_i t dd its n sl ho
    obtain ⟨h1, h2⟩ := ba h
    obtain rfl := of_decide_eq_true h1
    have h3 := strsB_ok h2
    refine .inr ⟨_, its, n, ho, rfl, rfl, ?_, h3⟩
    rw [← Array.length_toList, ← h3.length]
    exact Nat.le_of_ble_eq_true rfl
  · cases h

def loose : List PySem.Str := (["_wall", "HouseError", "BadHouse", "NoNode", "NoFolder", "Ringed", "BadFact", "UnlikeHouses", "is_list", "is_name", "is_fact", "wrong_fact", "as_told", "each_once"] : List PySem.Str) ++ (["Facts", "wrong_name", "wrong_part", "House", "must_be_node", "must_be_folder", "ring", "Tree", "_law_cell", "_law_pool", "_law_take", "_law_names", "_law_house", "_law_goes_round"] : List PySem.Str) ++ (["_law_tree", "_law_above", "_law_holds", "_law_fact", "_law_true", "_law_told", "_law_keep", "_law_every", "_law_refused", "_law_others_refused", "law", "WORDS", "LETTERS", "LONGEST"] : List PySem.Str) ++ (["int", "len", "isinstance", "range", "all", "list", "tuple", "str", "enumerate", "iter", "max", "bool", "dict", "any"] : List PySem.Str)
abbrev Rw : PySem.W.OpenRow := PySem.W.OpenLaw.row PySem.Challenge.rw_whatopened_k05_facts_held
abbrev hk : PySem.W.Hook := hookX 5 fa fn [] [("law", none), ("_law_others_refused", none)] houB
def ob (s : PySem.W.SharedT) : AlX := obsX 5 fa fn [] [("law", none), ("_law_others_refused", none)] houB (HandSHeadRun.getT s)
theorem ob_eq (s : PySem.W.SharedT) : ob s = hk.obs s.abs := obsX_eq (HandSHeadRun.getT_eq s)
end My

namespace My
open PySem PySem.Spec PyProof.Rows L2 He
section
variable {P : Program} {w : World} {K : PySem.W.Frag} {h : Heap} {mg : Str → Option Value} {base : Heap}
theorem facts {f : Addr} (X : K.In h) (G : h.Ns mainGlobals mg) (hfa : mg ("law" : Str) = some (.ref f)) (c : SaysD fa fn K) (e : houB K = true) :
    ∃ fd : FuncData, (∀ (s : Shared) (v : Value), BindsTo s fd ⟨[v], []⟩ [("_law_script", v)]) ∧ ∀ base : Heap, K.In base → base.Ns mainGlobals mg → LamX.TabB base mg (cT K ("law", none)).1 (cT K ("law", none)).2 → LamX.TabB base mg (cT K ("_law_others_refused", none)).1 (cT K ("_law_others_refused", none)).2 → FnOk P w K mg base CX0 14 f fd ["_law_script"] (spLaw K [((cT K ("law", none)).2, qLam), ((cT K ("_law_others_refused", none)).2, qOth)]) := by
  obtain ⟨fd_BadHouse_init, F_BadHouse_init⟩ := c.def_ 0 (d := d_BadHouse_init) rfl
  obtain ⟨fd_NoNode_init, F_NoNode_init⟩ := c.def_ 1 (d := d_NoNode_init) rfl
  obtain ⟨fd_NoFolder_init, F_NoFolder_init⟩ := c.def_ 2 (d := d_NoFolder_init) rfl
  obtain ⟨fd_Ringed_init, F_Ringed_init⟩ := c.def_ 3 (d := d_Ringed_init) rfl
  obtain ⟨fd_BadFact_init, F_BadFact_init⟩ := c.def_ 4 (d := d_BadFact_init) rfl
  obtain ⟨fd_is_list, F_is_list⟩ := c.def_ 5 (d := d_is_list) rfl
  obtain ⟨fd_is_name, F_is_name⟩ := c.def_ 6 (d := d_is_name) rfl
  obtain ⟨fd_is_fact, F_is_fact⟩ := c.def_ 7 (d := d_is_fact) rfl
  obtain ⟨fd_wrong_fact, F_wrong_fact⟩ := c.def_ 8 (d := d_wrong_fact) rfl
  obtain ⟨fd_as_told, F_as_told⟩ := c.def_ 9 (d := d_as_told) rfl
  obtain ⟨fd_each_once, F_each_once⟩ := c.def_ 10 (d := d_each_once) rfl
  obtain ⟨fd_Facts_init, F_Facts_init⟩ := c.def_ 11 (d := d_Facts_init) rfl
  obtain ⟨fd_Facts_told, F_Facts_told⟩ := c.def_ 12 (d := d_Facts_told) rfl
  obtain ⟨fd_Facts_len, F_Facts_len⟩ := c.def_ 13 (d := d_Facts_len) rfl
  obtain ⟨fd_Facts_contains, F_Facts_contains⟩ := c.def_ 14 (d := d_Facts_contains) rfl
  obtain ⟨fd_Facts_iter, F_Facts_iter⟩ := c.def_ 15 (d := d_Facts_iter) rfl
  obtain ⟨fd_Facts_eq, F_Facts_eq⟩ := c.def_ 16 (d := d_Facts_eq) rfl
  obtain ⟨fd_wrong_name, F_wrong_name⟩ := c.def_ 17 (d := d_wrong_name) rfl
  obtain ⟨fd_wrong_part, F_wrong_part⟩ := c.def_ 18 (d := d_wrong_part) rfl
  obtain ⟨fd_House_init, F_House_init⟩ := c.def_ 19 (d := d_House_init) rfl
  obtain ⟨fd_House_len, F_House_len⟩ := c.def_ 20 (d := d_House_len) rfl
  obtain ⟨fd_House_contains, F_House_contains⟩ := c.def_ 21 (d := d_House_contains) rfl
  obtain ⟨fd_House_iter, F_House_iter⟩ := c.def_ 22 (d := d_House_iter) rfl
  obtain ⟨fd_House_eq, F_House_eq⟩ := c.def_ 23 (d := d_House_eq) rfl
  obtain ⟨fd_must_be_node, F_must_be_node⟩ := c.def_ 24 (d := d_must_be_node) rfl
  obtain ⟨fd_must_be_folder, F_must_be_folder⟩ := c.def_ 25 (d := d_must_be_folder) rfl
  obtain ⟨fd_ring, F_ring⟩ := c.def_ 26 (d := d_ring) rfl
  obtain ⟨fd_Tree_init, F_Tree_init⟩ := c.def_ 27 (d := d_Tree_init) rfl
  obtain ⟨fd_Tree_over, F_Tree_over⟩ := c.def_ 28 (d := d_Tree_over) rfl
  obtain ⟨fd_Tree_above, F_Tree_above⟩ := c.def_ 29 (d := d_Tree_above) rfl
  obtain ⟨fd_Tree_below, F_Tree_below⟩ := c.def_ 30 (d := d_Tree_below) rfl
  obtain ⟨fd_Tree_lies, F_Tree_lies⟩ := c.def_ 31 (d := d_Tree_lies) rfl
  obtain ⟨fd_Tree_holds, F_Tree_holds⟩ := c.def_ 32 (d := d_Tree_holds) rfl
  obtain ⟨fd_Tree_keeps, F_Tree_keeps⟩ := c.def_ 33 (d := d_Tree_keeps) rfl
  obtain ⟨fd_Tree_eq, F_Tree_eq⟩ := c.def_ 34 (d := d_Tree_eq) rfl
  obtain ⟨fd__law_cell, F__law_cell⟩ := c.def_ 35 (d := d__law_cell) rfl
  obtain ⟨fd__law_pool, F__law_pool⟩ := c.def_ 36 (d := d__law_pool) rfl
  obtain ⟨fd__law_take, F__law_take⟩ := c.def_ 37 (d := d__law_take) rfl
  obtain ⟨fd__law_names, F__law_names⟩ := c.def_ 38 (d := d__law_names) rfl
  obtain ⟨fd__law_house, F__law_house⟩ := c.def_ 39 (d := d__law_house) rfl
  obtain ⟨fd__law_goes_round, F__law_goes_round⟩ := c.def_ 40 (d := d__law_goes_round) rfl
  obtain ⟨fd__law_tree, F__law_tree⟩ := c.def_ 41 (d := d__law_tree) rfl
  obtain ⟨fd__law_above, F__law_above⟩ := c.def_ 42 (d := d__law_above) rfl
  obtain ⟨fd__law_holds, F__law_holds⟩ := c.def_ 43 (d := d__law_holds) rfl
  obtain ⟨fd__law_fact, F__law_fact⟩ := c.def_ 44 (d := d__law_fact) rfl
  obtain ⟨fd__law_true, F__law_true⟩ := c.def_ 45 (d := d__law_true) rfl
  obtain ⟨fd__law_told, F__law_told⟩ := c.def_ 46 (d := d__law_told) rfl
  obtain ⟨fd__law_keep, F__law_keep⟩ := c.def_ 47 (d := d__law_keep) rfl
  obtain ⟨fd__law_every, F__law_every⟩ := c.def_ 48 (d := d__law_every) rfl
  obtain ⟨fd__law_refused, F__law_refused⟩ := c.def_ 49 (d := d__law_refused) rfl
  obtain ⟨fd__law_others_refused, F__law_others_refused⟩ := c.def_ 50 (d := d__law_others_refused) rfl
  obtain ⟨fd_law, F_law⟩ := c.def_ 51 (d := d_law) rfl
  have b_is_list : Binds K fd_is_list ["thing"] [] := FunD.bindsN F_is_list fun _ _ _ _ _ _ us hl => match us, hl with | [_], _ => rfl
  have b_is_name : Binds K fd_is_name ["thing"] [] := FunD.bindsN F_is_name fun _ _ _ _ _ _ us hl => match us, hl with | [_], _ => rfl
  have b_is_fact : Binds K fd_is_fact ["house", "thing"] [] := FunD.bindsN F_is_fact fun _ _ _ _ _ _ us hl => match us, hl with | [_, _], _ => rfl
  have b_wrong_fact : Binds K fd_wrong_fact ["house", "facts"] [] := FunD.bindsN F_wrong_fact fun _ _ _ _ _ _ us hl => match us, hl with | [_, _], _ => rfl
  have b_as_told : Binds K fd_as_told ["house", "fact"] [] := FunD.bindsN F_as_told fun _ _ _ _ _ _ us hl => match us, hl with | [_, _], _ => rfl
  have b_each_once : Binds K fd_each_once ["house", "facts"] [] := FunD.bindsN F_each_once fun _ _ _ _ _ _ us hl => match us, hl with | [_, _], _ => rfl
  have b_Facts_told : Binds K fd_Facts_told ["self"] [] := FunD.bindsN F_Facts_told fun _ _ _ _ _ _ us hl => match us, hl with | [_], _ => rfl
  have b_Facts_len : Binds K fd_Facts_len ["self"] [] := FunD.bindsN F_Facts_len fun _ _ _ _ _ _ us hl => match us, hl with | [_], _ => rfl
  have b_Facts_contains : Binds K fd_Facts_contains ["self", "x"] [] := FunD.bindsN F_Facts_contains fun _ _ _ _ _ _ us hl => match us, hl with | [_, _], _ => rfl
  have b_Facts_iter : Binds K fd_Facts_iter ["self"] [] := FunD.bindsN F_Facts_iter fun _ _ _ _ _ _ us hl => match us, hl with | [_], _ => rfl
  have b_Facts_eq : Binds K fd_Facts_eq ["self", "other"] [] := FunD.bindsN F_Facts_eq fun _ _ _ _ _ _ us hl => match us, hl with | [_, _], _ => rfl
  have b_wrong_name : Binds K fd_wrong_name ["things"] [] := FunD.bindsN F_wrong_name fun _ _ _ _ _ _ us hl => match us, hl with | [_], _ => rfl
  have b_wrong_part : Binds K fd_wrong_part ["folders", "things"] [] := FunD.bindsN F_wrong_part fun _ _ _ _ _ _ us hl => match us, hl with | [_, _], _ => rfl
  have b_House_len : Binds K fd_House_len ["self"] [] := FunD.bindsN F_House_len fun _ _ _ _ _ _ us hl => match us, hl with | [_], _ => rfl
  have b_House_contains : Binds K fd_House_contains ["self", "x"] [] := FunD.bindsN F_House_contains fun _ _ _ _ _ _ us hl => match us, hl with | [_, _], _ => rfl
  have b_House_iter : Binds K fd_House_iter ["self"] [] := FunD.bindsN F_House_iter fun _ _ _ _ _ _ us hl => match us, hl with | [_], _ => rfl
  have b_House_eq : Binds K fd_House_eq ["self", "other"] [] := FunD.bindsN F_House_eq fun _ _ _ _ _ _ us hl => match us, hl with | [_, _], _ => rfl
  have b_must_be_node : Binds K fd_must_be_node ["house", "thing"] [] := FunD.bindsN F_must_be_node fun _ _ _ _ _ _ us hl => match us, hl with | [_, _], _ => rfl
  have b_must_be_folder : Binds K fd_must_be_folder ["house", "thing"] [] := FunD.bindsN F_must_be_folder fun _ _ _ _ _ _ us hl => match us, hl with | [_, _], _ => rfl
  have b_ring : Binds K fd_ring ["house", "lying"] [] := FunD.bindsN F_ring fun _ _ _ _ _ _ us hl => match us, hl with | [_, _], _ => rfl
  have b_Tree_init : Binds K fd_Tree_init ["self", "house", "over"] [] := FunD.bindsN F_Tree_init fun _ _ _ _ _ _ us hl => match us, hl with | [_, _, _], _ => rfl
  have b_Tree_over : Binds K fd_Tree_over ["self", "node"] [] := FunD.bindsN F_Tree_over fun _ _ _ _ _ _ us hl => match us, hl with | [_, _], _ => rfl
  have b_Tree_above : Binds K fd_Tree_above ["self", "node"] [] := FunD.bindsN F_Tree_above fun _ _ _ _ _ _ us hl => match us, hl with | [_, _], _ => rfl
  have b_Tree_below : Binds K fd_Tree_below ["self", "folder"] [] := FunD.bindsN F_Tree_below fun _ _ _ _ _ _ us hl => match us, hl with | [_, _], _ => rfl
  have b_Tree_lies : Binds K fd_Tree_lies ["self", "node", "folder"] [] := FunD.bindsN F_Tree_lies fun _ _ _ _ _ _ us hl => match us, hl with | [_, _, _], _ => rfl
  have b_Tree_holds : Binds K fd_Tree_holds ["self", "fact"] [] := FunD.bindsN F_Tree_holds fun _ _ _ _ _ _ us hl => match us, hl with | [_, _], _ => rfl
  have b_Tree_keeps : Binds K fd_Tree_keeps ["self", "facts"] [] := FunD.bindsN F_Tree_keeps fun _ _ _ _ _ _ us hl => match us, hl with | [_, _], _ => rfl
  have b_Tree_eq : Binds K fd_Tree_eq ["self", "other"] [] := FunD.bindsN F_Tree_eq fun _ _ _ _ _ _ us hl => match us, hl with | [_, _], _ => rfl
  have b__law_cell : Binds K fd__law_cell ["_law_script", "_law_k"] [] := FunD.bindsN F__law_cell fun _ _ _ _ _ _ us hl => match us, hl with | [_, _], _ => rfl
  have b__law_pool : Binds K fd__law_pool ["_law_grain"] [] := FunD.bindsN F__law_pool fun _ _ _ _ _ _ us hl => match us, hl with | [_], _ => rfl
  have b__law_take : Binds K fd__law_take ["_law_pool_here", "_law_many"] [] := FunD.bindsN F__law_take fun _ _ _ _ _ _ us hl => match us, hl with | [_, _], _ => rfl
  have b__law_names : Binds K fd__law_names ["_law_pool_here", "_law_many"] [] := FunD.bindsN F__law_names fun _ _ _ _ _ _ us hl => match us, hl with | [_, _], _ => rfl
  have b__law_house : Binds K fd__law_house ["_law_pool_here", "_law_most", "_law_more"] [] := FunD.bindsN F__law_house fun _ _ _ _ _ _ us hl => match us, hl with | [_, _, _], _ => rfl
  have b__law_goes_round : Binds K fd__law_goes_round ["_law_ups", "_law_node", "_law_folder"] [] := FunD.bindsN F__law_goes_round fun _ _ _ _ _ _ us hl => match us, hl with | [_, _, _], _ => rfl
  have b__law_tree : Binds K fd__law_tree ["_law_pool_here", "_law_folders", "_law_things"] [] := FunD.bindsN F__law_tree fun _ _ _ _ _ _ us hl => match us, hl with | [_, _, _], _ => rfl
  have b__law_above : Binds K fd__law_above ["_law_ups", "_law_node"] [] := FunD.bindsN F__law_above fun _ _ _ _ _ _ us hl => match us, hl with | [_, _], _ => rfl
  have b__law_holds : Binds K fd__law_holds ["_law_ups", "_law_fact_here"] [] := FunD.bindsN F__law_holds fun _ _ _ _ _ _ us hl => match us, hl with | [_, _], _ => rfl
  have b__law_fact : Binds K fd__law_fact ["_law_pool_here", "_law_folders", "_law_things"] [] := FunD.bindsN F__law_fact fun _ _ _ _ _ _ us hl => match us, hl with | [_, _, _], _ => rfl
  have b__law_true : Binds K fd__law_true ["_law_pool_here", "_law_folders", "_law_things", "_law_ups"] [] := FunD.bindsN F__law_true fun _ _ _ _ _ _ us hl => match us, hl with | [_, _, _, _], _ => rfl
  have b__law_told : Binds K fd__law_told ["_law_pool_here", "_law_folders", "_law_things", "_law_many", "_law_bent"] [] := FunD.bindsN F__law_told fun _ _ _ _ _ _ us hl => match us, hl with | [_, _, _, _, _], _ => rfl
  have b__law_keep : Binds K fd__law_keep ["_law_ups", "_law_rows"] [] := FunD.bindsN F__law_keep fun _ _ _ _ _ _ us hl => match us, hl with | [_, _], _ => rfl
  have b__law_every : Binds K fd__law_every ["_law_folders", "_law_things"] [] := FunD.bindsN F__law_every fun _ _ _ _ _ _ us hl => match us, hl with | [_, _], _ => rfl
  have b__law_refused : Binds K fd__law_refused ["_law_ask"] [] := FunD.bindsN F__law_refused fun _ _ _ _ _ _ us hl => match us, hl with | [_], _ => rfl
  have b__law_others_refused : Binds K fd__law_others_refused ["_law_tree_here", "_law_folders", "_law_things"] [] := FunD.bindsN F__law_others_refused fun _ _ _ _ _ _ us hl => match us, hl with | [_, _, _], _ => rfl
  have q := hfa.symm.trans (glo_ok X G (c.fact 36 (f := .glo "law") rfl))
  cases q
  have b := FunD.bindsA (ps := ["_law_script"]) F_law fun _ _ _ _ _ _ us hl => match us, hl with | [_], _ => rfl
  have hco : fd_law.code = .ref (cT K ("law", none)).1 := by
    obtain ⟨oc, od, dV, kV, doc, pm, an, cdv, ct, osl, e, lk, hcd, _, _⟩ := F_law.ex
    obtain ⟨c0, rfl⟩ := codeIn_ref hcd
    have e2 : fd_law.code = .ref c0 := by rw [e]
    rw [e2]
    exact congrArg Value.ref (codeOf_eq (p := ("law", none)) lk e2).symm
  have hcoO : fd__law_others_refused.code = .ref (cT K ("_law_others_refused", none)).1 := by
    obtain ⟨oc, od, dV, kV, doc, pm, an, cdv, ct, osl, e, lk, hcd, _, _⟩ := F__law_others_refused.ex
    obtain ⟨c0, rfl⟩ := codeIn_ref hcd
    have e2 : fd__law_others_refused.code = .ref c0 := by rw [e]
    rw [e2]
    exact congrArg Value.ref (codeOf_eq (p := ("_law_others_refused", none)) lk e2).symm
  refine ⟨fd_law, fun s v => b s [v] rfl, fun base XB GB TB TBo => ?_⟩
  obtain ⟨eB, e1⟩ := ba e
  obtain ⟨eK, e2⟩ := ba e1
  obtain ⟨eC, e3⟩ := ba e2
  obtain ⟨eN, e4⟩ := ba e3
  obtain ⟨eS, e5⟩ := ba e4
  obtain ⟨eT, e6⟩ := ba e5
  obtain ⟨eD, e7⟩ := ba e6
  obtain ⟨eF, e8⟩ := ba e7
  obtain ⟨eW, e9⟩ := ba e8
  obtain ⟨eN1, d1⟩ := ba e9
  obtain ⟨eN2, d2⟩ := ba d1
  obtain ⟨eN3, d3'⟩ := ba d2
  obtain ⟨tK, d4⟩ := ba d3'
  obtain ⟨uU, d5⟩ := ba d4
  obtain ⟨tw, d6⟩ := ba d5
  obtain ⟨fK, f1⟩ := ba d6
  obtain ⟨fC, f2⟩ := ba f1
  obtain ⟨fN, f3⟩ := ba f2
  obtain ⟨fT, f4⟩ := ba f3
  obtain ⟨fS, fD⟩ := ba f4
  have KC := kitCB_ok eK
  have KF := kitCB_ok fK
  have KT := kitCB_ok tK
  have nbF : ∀ T, T ∈ ["NoneType", "list", "tuple", "int", "str"] → PySem.W.notFirst K (ga K "Facts") (.type T) = true ∧ PySem.W.kitOne K (.type T) (.ref (ga K "Facts")) = some false := fun T hT => by
    obtain ⟨k1, k2⟩ := ba (List.all_eq_true.mp fT T hT)
    exact ⟨k1, of_decide_eq_true k2⟩
  have nb : ∀ T, T ∈ ["NoneType", "list", "tuple", "int", "str"] → PySem.W.notFirst K (ga K "House") (.type T) = true ∧ PySem.W.kitOne K (.type T) (.ref (ga K "House")) = some false := fun T hT => by
    obtain ⟨k1, k2⟩ := ba (List.all_eq_true.mp eT T hT)
    exact ⟨k1, of_decide_eq_true k2⟩
  have EB : ∀ base, Er P w K mg base "BadHouse" "index" (ga K "BadHouse") := fun base => by
    have T := errB_ok (glo_ok X G (c.fact 0 (f := .glo "BadHouse") rfl)) eB
    have S : FnScope ["self", "index"] ["self", "index"] (defScope s_BadHouse_init) := ⟨rfl, rfl, rfl, by decide +kernel, rfl, by decide +kernel, by decide +kernel⟩
    refine ⟨_, fd_BadHouse_init, T, ok_init (st := s_BadHouse_init) (qual := "BadHouse.__init__") T F_BadHouse_init S ⟨_, _, _, _, rfl⟩ (by decide) (by decide), FunD.bindsN F_BadHouse_init fun _ _ _ _ _ _ us hl => match us, hl with | [_, _], _ => rfl, fun s u v _ => ?_⟩
    obtain ⟨oc, od, dV, kV, doc, pm, an, cdv, ct, osl, rfl, lk, hcd, hD, hK⟩ := F_BadHouse_init.ex
    rcases hD with ⟨_, rfl⟩ | ⟨z, _⟩
    · exact .of_eq rfl
    · exact absurd rfl z
  have EF : ∀ base, Er P w K mg base "BadFact" "index" (ga K "BadFact") := fun base => by
    have T := errB_ok (glo_ok X G (c.fact 4 (f := .glo "BadFact") rfl)) eF
    have S : FnScope ["self", "index"] ["self", "index"] (defScope s_BadFact_init) := ⟨rfl, rfl, rfl, by decide +kernel, rfl, by decide +kernel, by decide +kernel⟩
    refine ⟨_, fd_BadFact_init, T, ok_init (st := s_BadFact_init) (qual := "BadFact.__init__") T F_BadFact_init S ⟨_, _, _, _, rfl⟩ (by decide) (by decide), FunD.bindsN F_BadFact_init fun _ _ _ _ _ _ us hl => match us, hl with | [_, _], _ => rfl, fun s u v _ => ?_⟩
    obtain ⟨oc, od, dV, kV, doc, pm, an, cdv, ct, osl, rfl, lk, hcd, hD, hK⟩ := F_BadFact_init.ex
    rcases hD with ⟨_, rfl⟩ | ⟨z, _⟩
    · exact .of_eq rfl
    · exact absurd rfl z
  have EN : ∀ base, Er P w K mg base "NoNode" "node" (ga K "NoNode") := fun base => by
    have T := errB_ok (glo_ok X G (c.fact 1 (f := .glo "NoNode") rfl)) eN1
    have S : FnScope ["self", "node"] ["self", "node"] (defScope s_NoNode_init) := ⟨rfl, rfl, rfl, by decide +kernel, rfl, by decide +kernel, by decide +kernel⟩
    refine ⟨_, fd_NoNode_init, T, ok_init (st := s_NoNode_init) (qual := "NoNode.__init__") T F_NoNode_init S ⟨_, _, _, _, rfl⟩ (by decide) (by decide), FunD.bindsN F_NoNode_init fun _ _ _ _ _ _ us hl => match us, hl with | [_, _], _ => rfl, fun s u v _ => ?_⟩
    obtain ⟨oc, od, dV, kV, doc, pm, an, cdv, ct, osl, rfl, lk, hcd, hD, hK⟩ := F_NoNode_init.ex
    rcases hD with ⟨_, rfl⟩ | ⟨z, _⟩
    · exact .of_eq rfl
    · exact absurd rfl z
  have EFo : ∀ base, Er P w K mg base "NoFolder" "folder" (ga K "NoFolder") := fun base => by
    have T := errB_ok (glo_ok X G (c.fact 2 (f := .glo "NoFolder") rfl)) eN2
    have S : FnScope ["self", "folder"] ["self", "folder"] (defScope s_NoFolder_init) := ⟨rfl, rfl, rfl, by decide +kernel, rfl, by decide +kernel, by decide +kernel⟩
    refine ⟨_, fd_NoFolder_init, T, ok_init (st := s_NoFolder_init) (qual := "NoFolder.__init__") T F_NoFolder_init S ⟨_, _, _, _, rfl⟩ (by decide) (by decide), FunD.bindsN F_NoFolder_init fun _ _ _ _ _ _ us hl => match us, hl with | [_, _], _ => rfl, fun s u v _ => ?_⟩
    obtain ⟨oc, od, dV, kV, doc, pm, an, cdv, ct, osl, rfl, lk, hcd, hD, hK⟩ := F_NoFolder_init.ex
    rcases hD with ⟨_, rfl⟩ | ⟨z, _⟩
    · exact .of_eq rfl
    · exact absurd rfl z
  have ER : ∀ base, Er P w K mg base "Ringed" "folders" (ga K "Ringed") := fun base => by
    have T := errB_ok (glo_ok X G (c.fact 3 (f := .glo "Ringed") rfl)) eN3
    have S : FnScope ["self", "folders"] ["self", "folders"] (defScope s_Ringed_init) := ⟨rfl, rfl, rfl, by decide +kernel, rfl, by decide +kernel, by decide +kernel⟩
    refine ⟨_, fd_Ringed_init, T, ok_init (st := s_Ringed_init) (qual := "Ringed.__init__") T F_Ringed_init S ⟨_, _, _, _, rfl⟩ (by decide) (by decide), FunD.bindsN F_Ringed_init fun _ _ _ _ _ _ us hl => match us, hl with | [_, _], _ => rfl, fun s u v _ => ?_⟩
    obtain ⟨oc, od, dV, kV, doc, pm, an, cdv, ct, osl, rfl, lk, hcd, hD, hK⟩ := F_Ringed_init.ex
    rcases hD with ⟨_, rfl⟩ | ⟨z, _⟩
    · exact .of_eq rfl
    · exact absurd rfl z
  have T : HouC K (ga K "House") := ⟨cls_ok (c.fact 54 (f := .cls "House") rfl), noat_ok (c.fact 55 (f := .noat "House" "folders") rfl), noat_ok (c.fact 56 (f := .noat "House" "things") rfl), noat_ok (c.fact 57 (f := .noat "House" "nodes") rfl), KC.at_, KC.sp, KC.tk, KC.ob⟩
  have mt : ∀ m, Meth K (ga K "House") m (ma K (ga K "House") m) → OwnM K (ga K "House") m (ma K (ga K "House") m) := fun m z => ⟨z.at_, z.fn⟩
  obtain ⟨tL, gLL⟩ := str_ok X G (c.fact 53 (f := .str "LETTERS" letters) rfl)
  obtain ⟨t8, g88⟩ := int_ok X G (c.fact 52 (f := .int "LONGEST" 8) rfl)
  have IL : ∀ base, FnOk P w K mg base CX0 1 _ fd_is_list ["thing"] (spIsList K) := fun base => ok_isList F_is_list (free_ok X G (c.fact 40 (f := .free "isinstance") rfl)) (free_ok X G (c.fact 43 (f := .free "list") rfl)) (free_ok X G (c.fact 44 (f := .free "tuple") rfl))
  have WN : ∀ base, FnOk P w K mg base CX0 2 _ fd_wrong_name ["things"] (spWrongName K) := fun base => ok_wrongName F_wrong_name (ok_isName F_is_name (free_ok X G (c.fact 40 (f := .free "isinstance") rfl)) (free_ok X G (c.fact 45 (f := .free "str") rfl)) (free_ok X G (c.fact 39 (f := .free "len") rfl)) (free_ok X G (c.fact 42 (f := .free "all") rfl)) g88 gLL) (glo_ok X G (c.fact 7 (f := .glo "is_name") rfl)) F_is_name.kp b_is_name (free_ok X G (c.fact 46 (f := .free "enumerate") rfl))
  have WP : ∀ base, FnOk P w K mg base CX0 3 _ fd_wrong_part ["folders", "things"] (spWrongPart K) := fun base => ok_wrongPart F_wrong_part (IL base) (glo_ok X G (c.fact 6 (f := .glo "is_list") rfl)) F_is_list.kp b_is_list ((WN base).imp wn_imp) (glo_ok X G (c.fact 13 (f := .glo "wrong_name") rfl)) F_wrong_name.kp b_wrong_name (free_ok X G (c.fact 39 (f := .free "len") rfl))
  have HI : ∀ base, FnOk P w K mg base (L2.CX P w) 4 _ fd_House_init ["self", "folders", "things"] (spHInit K (ga K "House") (ga K "BadHouse")) := fun base => ok_hInit F_House_init T (WP base) (glo_ok X G (c.fact 14 (f := .glo "wrong_part") rfl)) F_wrong_part.kp b_wrong_part (EB base) (free_ok X G (c.fact 44 (f := .free "tuple") rfl))
  obtain ⟨d3, vd3, bI⟩ := FunD.binds1 (ps := ["self", "folders", "things"]) F_House_init 3 1 (by simp [DefD.dvs, d_House_init]) rfl fun T kV doc pm an cdv ct us its hu hi => by
    match us, hu, its, hi with
    | [_, _, _], _, [_], _ => exact ⟨_, rfl, rfl⟩
  obtain ⟨d2, vd2, bD⟩ := FunD.binds1 (ps := ["self", "folders", "things"]) F_House_init 2 0 (by simp [DefD.dvs, d_House_init]) rfl fun T kV doc pm an cdv ct us its hu hi => by
    match us, hu, its, hi with
    | [_, _], _, [_], _ => exact ⟨_, rfl, rfl⟩
  have nD : ∀ H, SqT K H (aDef K) [] := dflB_ok eD
  have e3' : d3 = [] := by
    cases vd3
    rfl
  subst e3'
  obtain ⟨u2, e2', ru2⟩ := vd2.one
  subst e2'
  have eu : u2 = .ref (aDef K) := ru2
  have HE : ∀ base, FnOk P w K mg base CX0 1 _ fd_House_eq ["self", "other"] (spHEq K (ga K "House")) := fun base => ok_hEq F_House_eq T (free_ok X G (c.fact 40 (f := .free "isinstance") rfl)) (glo_ok X G (c.fact 15 (f := .glo "House") rfl)) (of_decide_eq_true eC)
  let Z : HouseTxt P w K mg (ga K "House") (ga K "BadHouse") := {
    T := T, gH := (glo_ok X G (c.fact 15 (f := .glo "House") rfl)), kCC := of_decide_eq_true eC, ne := of_decide_eq_true eN, noStr := of_decide_eq_true eS, nb := nb,
    fI := _, fdI := fd_House_init, M := mkr_ok (c.fact 62 (f := .mkr "House") rfl), I := HI, bI := bI, uD := u2, bD := bD, aD := aDef K, eD := eu, tD := nD,
    fL := _, fdL := fd_House_len, mL := (mt _ (meth_ok (c.fact 58 (f := .meth "House" "__len__") rfl))), L := fun base => ok_hLen F_House_len T (free_ok X G (c.fact 39 (f := .free "len") rfl)), bL := b_House_len,
    fS := _, fdS := fd_House_contains, mS := (mt _ (meth_ok (c.fact 59 (f := .meth "House" "__contains__") rfl))), S := fun base => ok_hHas F_House_contains T (of_decide_eq_true eS) (mt _ (meth_ok (c.fact 61 (f := .meth "House" "__eq__") rfl))) (HE base) b_House_eq (nb "str" (by decide)).2, bS := b_House_contains,
    fW := _, fdW := fd_House_iter, mW := (mt _ (meth_ok (c.fact 60 (f := .meth "House" "__iter__") rfl))), W := fun base => ok_hIter F_House_iter T (free_ok X G (c.fact 47 (f := .free "iter") rfl)), bW := b_House_iter,
    fE := _, fdE := fd_House_eq, mE := (mt _ (meth_ok (c.fact 61 (f := .meth "House" "__eq__") rfl))), E := HE, bE := b_House_eq }
  have HL : ∀ base, Has P w K mg base 1 "is_list" ["thing"] (spIsList K) := fun base => ⟨_, fd_is_list, IL base, (glo_ok X G (c.fact 6 (f := .glo "is_list") rfl)), F_is_list.kp, b_is_list⟩
  have HF : ∀ base, Has P w K mg base 5 "is_fact" ["house", "thing"] (spIsFact K (ga K "House")) := fun base => ⟨_, fd_is_fact, ok_isFact F_is_fact Z (HL base) (free_ok X G (c.fact 39 (f := .free "len") rfl)) (glo_ok X G (c.fact 37 (f := .glo "WORDS") rfl)) (worB_ok eW), (glo_ok X G (c.fact 8 (f := .glo "is_fact") rfl)), F_is_fact.kp, b_is_fact⟩
  have HT : ∀ base, Has P w K mg base 1 "as_told" ["house", "fact"] (spAsTold K (ga K "House")) := fun base => ⟨_, fd_as_told, ok_asTold F_as_told Z, (glo_ok X G (c.fact 10 (f := .glo "as_told") rfl)), F_as_told.kp, b_as_told⟩
  have HWF : ∀ base, Has P w K mg base 6 "wrong_fact" ["house", "facts"] (spWrongFact K (ga K "House")) := fun base => ⟨_, fd_wrong_fact, ok_wrongFact F_wrong_fact (HL base) (HF base) (free_ok X G (c.fact 46 (f := .free "enumerate") rfl)), (glo_ok X G (c.fact 9 (f := .glo "wrong_fact") rfl)), F_wrong_fact.kp, b_wrong_fact⟩
  have HEO : ∀ base, Has P w K mg base 2 "each_once" ["house", "facts"] (spEachOnce K (ga K "House")) := fun base => ⟨_, fd_each_once, ok_eachOnce F_each_once (HT base) (free_ok X G (c.fact 44 (f := .free "tuple") rfl)), (glo_ok X G (c.fact 11 (f := .glo "each_once") rfl)), F_each_once.kp, b_each_once⟩
  have TF : FacC K (ga K "Facts") := ⟨cls_ok (c.fact 63 (f := .cls "Facts") rfl), noat_ok (c.fact 64 (f := .noat "Facts" "house") rfl), noat_ok (c.fact 65 (f := .noat "Facts" "rows") rfl), KF.at_, KF.sp, KF.tk, KF.ob⟩
  have mtF : ∀ m, Meth K (ga K "Facts") m (ma K (ga K "Facts") m) → OwnM K (ga K "Facts") m (ma K (ga K "Facts") m) := fun m z => ⟨z.at_, z.fn⟩
  have FI : ∀ base, FnOk P w K mg base (L2.CX P w) 7 _ fd_Facts_init ["self", "house", "facts"] (spFInit K (ga K "Facts") (ga K "House") (ga K "BadFact")) := fun base => ok_fInit F_Facts_init TF (HWF base) (HEO base) (EF base)
  obtain ⟨d3f, vd3f, bIf⟩ := FunD.binds1 (ps := ["self", "house", "facts"]) F_Facts_init 3 1 (by simp [DefD.dvs, d_Facts_init]) rfl fun T kV doc pm an cdv ct us its hu hi => by
    match us, hu, its, hi with
    | [_, _, _], _, [_], _ => exact ⟨_, rfl, rfl⟩
  obtain ⟨d2f, vd2f, bDf⟩ := FunD.binds1 (ps := ["self", "house", "facts"]) F_Facts_init 2 0 (by simp [DefD.dvs, d_Facts_init]) rfl fun T kV doc pm an cdv ct us its hu hi => by
    match us, hu, its, hi with
    | [_, _], _, [_], _ => exact ⟨_, rfl, rfl⟩
  have nDF : ∀ H, SqT K H (aDefF K) [] := dflBF_ok fD
  have e3f' : d3f = [] := by
    cases vd3f
    rfl
  subst e3f'
  obtain ⟨u2f, e2f', ru2f⟩ := vd2f.one
  subst e2f'
  have euf : u2f = .ref (aDefF K) := ru2f
  have FE : ∀ base, FnOk P w K mg base CX0 2 _ fd_Facts_eq ["self", "other"] (spFEq K (ga K "Facts") (ga K "House")) := fun base => ok_fEq F_Facts_eq TF Z (free_ok X G (c.fact 40 (f := .free "isinstance") rfl)) (glo_ok X G (c.fact 12 (f := .glo "Facts") rfl)) (of_decide_eq_true fC)
  let FF : FacTxt P w K mg (ga K "Facts") (ga K "House") (ga K "BadFact") := {
    T := TF, gF := (glo_ok X G (c.fact 12 (f := .glo "Facts") rfl)), kFF := of_decide_eq_true fC, ne := of_decide_eq_true fN, nb := nbF, kSeq := of_decide_eq_true fS,
    fI := _, fdI := fd_Facts_init, M := mkr_ok (c.fact 71 (f := .mkr "Facts") rfl), I := FI, bI := bIf, uD := u2f, bD := bDf, aD := aDefF K, eD := euf, tD := nDF,
    fT := _, fdT := fd_Facts_told, mT := meth_ok (c.fact 66 (f := .meth "Facts" "told") rfl), To := fun base => ok_told F_Facts_told TF (free_ok X G (c.fact 43 (f := .free "list") rfl)), bT := b_Facts_told,
    fL := _, fdL := fd_Facts_len, mL := (mtF _ (meth_ok (c.fact 67 (f := .meth "Facts" "__len__") rfl))), L := fun base => ok_fLen F_Facts_len TF (free_ok X G (c.fact 39 (f := .free "len") rfl)), bL := b_Facts_len,
    fS := _, fdS := fd_Facts_contains, mS := (mtF _ (meth_ok (c.fact 68 (f := .meth "Facts" "__contains__") rfl))), S := fun base => ok_fHas F_Facts_contains TF (HF base) (HT base), bS := b_Facts_contains,
    fW := _, fdW := fd_Facts_iter, mW := (mtF _ (meth_ok (c.fact 69 (f := .meth "Facts" "__iter__") rfl))), W := fun base => ok_fIter F_Facts_iter TF (free_ok X G (c.fact 47 (f := .free "iter") rfl)), bW := b_Facts_iter,
    fE := _, fdE := fd_Facts_eq, mE := (mtF _ (meth_ok (c.fact 70 (f := .meth "Facts" "__eq__") rfl))), E := FE, bE := b_Facts_eq }
  have TK : FnOk P w K mg base CX0 1 _ fd__law_take ["_law_pool_here", "_law_many"] spTake := ok_take F__law_take (free_ok X G (c.fact 38 (f := .free "int") rfl))
  have hT : Has P w K mg base 1 "_law_take" ["_law_pool_here", "_law_many"] spTake := ⟨_, fd__law_take, TK, (glo_ok X G (c.fact 22 (f := .glo "_law_take") rfl)), F__law_take.kp, b__law_take⟩
  have NM : FnOk P w K mg base CX0 2 _ fd__law_names ["_law_pool_here", "_law_many"] (spNames K) := ok_names F__law_names TK (glo_ok X G (c.fact 22 (f := .glo "_law_take") rfl)) F__law_take.kp b__law_take (free_ok X G (c.fact 41 (f := .free "range") rfl))
  have E := errB_ok (glo_ok X G (c.fact 4 (f := .glo "BadFact") rfl)) eF
  obtain ⟨u1, u2'⟩ := ba uU
  obtain ⟨u3, u4⟩ := ba u2'
  obtain ⟨u5, u6⟩ := ba u4
  have HN : ∀ base, HasX P w K mg base 4 "must_be_node" ["house", "thing"] (spMustNode K (ga K "House") (ga K "NoNode")) := fun base => ⟨_, fd_must_be_node, ok_mustNode F_must_be_node Z (EN base), (glo_ok X G (c.fact 16 (f := .glo "must_be_node") rfl)), F_must_be_node.kp, b_must_be_node⟩
  have HFo : ∀ base, HasX P w K mg base 4 "must_be_folder" ["house", "thing"] (spMustFolder K (ga K "House") (ga K "NoFolder")) := fun base => ⟨_, fd_must_be_folder, ok_mustFolder F_must_be_folder Z (EFo base), (glo_ok X G (c.fact 17 (f := .glo "must_be_folder") rfl)), F_must_be_folder.kp, b_must_be_folder⟩
  have HR : ∀ base, Has P w K mg base 2 "ring" ["house", "lying"] (spRing K (ga K "House")) := fun base => ⟨_, fd_ring, ok_ring F_ring Z (free_ok X G (c.fact 44 (f := .free "tuple") rfl)), (glo_ok X G (c.fact 18 (f := .glo "ring") rfl)), F_ring.kp, b_ring⟩
  have TT : TreC K (ga K "Tree") := ⟨cls_ok (c.fact 72 (f := .cls "Tree") rfl), noat_ok (c.fact 73 (f := .noat "Tree" "house") rfl), noat_ok (c.fact 74 (f := .noat "Tree" "lying") rfl), KT.at_, KT.sp, KT.tk, KT.ob⟩
  have TI : ∀ base, FnOk P w K mg base (L2.CX P w) 6 _ fd_Tree_init ["self", "house", "over"] (spTInit K (ga K "Tree") (ga K "House") (ga K "NoFolder") (ga K "Ringed")) := fun base => ok_tInit F_Tree_init Z TT (HN base) (HFo base) (HR base) (ER base)
  have TV : ∀ base, FnOk P w K mg base (L2.CX P w) 5 _ fd_Tree_over ["self", "node"] (spTOver K (ga K "Tree") (ga K "House") (ga K "NoNode")) := fun base => ok_tOver F_Tree_over TT (HN base)
  have TA : ∀ base, FnOk P w K mg base (L2.CX P w) 6 _ fd_Tree_above ["self", "node"] (spTAbove K (ga K "Tree") (ga K "House") (ga K "NoNode")) := fun base => ok_tAbove F_Tree_above TT (meth_ok (c.fact 75 (f := .meth "Tree" "over") rfl)) (TV base) b_Tree_over (free_ok X G (c.fact 44 (f := .free "tuple") rfl))
  have TH : ∀ base, FnOk P w K mg base (L2.CX P w) 7 _ fd_Tree_holds ["self", "fact"] (spTHolds K (ga K "Tree") (ga K "House") (ga K "BadFact")) := fun base => ok_tHolds F_Tree_holds TT (meth_ok (c.fact 76 (f := .meth "Tree" "above") rfl)) (TA base) b_Tree_above (HF base) (EF base)
  let EU : UnC K mg (ga K "UnlikeHouses") := { bmB := bmV, B := "ValueError", newId := "ValueError.__new__", initId := "ValueError.__init__", F := PySem.F.excBase_ValueError, q := u1, g := (glo_ok X G (c.fact 5 (f := .glo "UnlikeHouses") rfl)), k := u3, s1 := of_decide_eq_true u5, s2 := of_decide_eq_true u6 }
  have TKe : ∀ base, FnOk P w K mg base (L2.CX P w) 8 _ fd_Tree_keeps ["self", "facts"] (spTKeeps K (ga K "Tree") (ga K "House") (ga K "Facts") (ga K "UnlikeHouses")) := fun base => ok_tKeeps F_Tree_keeps TT Z FF (meth_ok (c.fact 79 (f := .meth "Tree" "holds") rfl)) (TH base) b_Tree_holds EU (free_ok X G (c.fact 42 (f := .free "all") rfl))
  have R : RefC5 K mg (ga K "BadFact") (ga K "UnlikeHouses") := ⟨E.gl, (glo_ok X G (c.fact 5 (f := .glo "UnlikeHouses") rfl)), E.xf, E.no, exm_ok (c.fact 83 (f := .exm "BadFact" "BadFact" true) rfl), exm_ok (c.fact 84 (f := .exm "UnlikeHouses" "BadFact" false) rfl), exm_ok (c.fact 85 (f := .exm "UnlikeHouses" "UnlikeHouses" true) rfl)⟩
  have hGo : Has P w K mg base 1 "_law_goes_round" ["_law_ups", "_law_node", "_law_folder"] (spGoes K) := ⟨_, fd__law_goes_round, ok_goes F__law_goes_round (free_ok X G (c.fact 41 (f := .free "range") rfl)) (free_ok X G (c.fact 39 (f := .free "len") rfl)), (glo_ok X G (c.fact 25 (f := .glo "_law_goes_round") rfl)), F__law_goes_round.kp, b__law_goes_round⟩
  have hAb : Has P w K mg base 1 "_law_above" ["_law_ups", "_law_node"] (spAbove K) := ⟨_, fd__law_above, ok_above F__law_above (free_ok X G (c.fact 41 (f := .free "range") rfl)) (free_ok X G (c.fact 39 (f := .free "len") rfl)), (glo_ok X G (c.fact 27 (f := .glo "_law_above") rfl)), F__law_above.kp, b__law_above⟩
  have hTr : Has P w K mg base 2 "_law_tree" ["_law_pool_here", "_law_folders", "_law_things"] (spTreeD K) := ⟨_, fd__law_tree, ok_tree F__law_tree hT hGo (free_ok X G (c.fact 39 (f := .free "len") rfl)), (glo_ok X G (c.fact 26 (f := .glo "_law_tree") rfl)), F__law_tree.kp, b__law_tree⟩
  have hHo : Has P w K mg base 2 "_law_holds" ["_law_ups", "_law_fact_here"] (spHolds K) := ⟨_, fd__law_holds, ok_holds F__law_holds hAb, (glo_ok X G (c.fact 28 (f := .glo "_law_holds") rfl)), F__law_holds.kp, b__law_holds⟩
  have hFa : Has P w K mg base 2 "_law_fact" ["_law_pool_here", "_law_folders", "_law_things"] (spFact K) := ⟨_, fd__law_fact, ok_fact F__law_fact hT (free_ok X G (c.fact 39 (f := .free "len") rfl)), (glo_ok X G (c.fact 29 (f := .glo "_law_fact") rfl)), F__law_fact.kp, b__law_fact⟩
  have hTe : Has P w K mg base 3 "_law_true" ["_law_pool_here", "_law_folders", "_law_things", "_law_ups"] (spTrue K) := ⟨_, fd__law_true, ok_true F__law_true hFa hHo, (glo_ok X G (c.fact 30 (f := .glo "_law_true") rfl)), F__law_true.kp, b__law_true⟩
  have tw' : (cT K ("law", none)).2 ≠ (cT K ("_law_others_refused", none)).2 := fun z => by
    unfold twoB at tw
    rw [decide_eq_true z] at tw
    cases tw
  have hOth := ok_others (Ts := [((cT K ("law", none)).2, qLam), ((cT K ("_law_others_refused", none)).2, qOth)]) F__law_others_refused hcoO TBo (List.mem_cons_of_mem _ List.mem_cons_self) (fun p hp hq => by
    rcases List.mem_cons.mp hp with rfl | hp
    · exact absurd hq tw'
    · rw [List.mem_singleton.mp hp]) Z FF TT R F__law_refused (glo_ok X G (c.fact 34 (f := .glo "_law_refused") rfl)) b__law_refused (meth_ok (c.fact 80 (f := .meth "Tree" "keeps") rfl)) (TKe base) b_Tree_keeps (free_ok X G (c.fact 39 (f := .free "len") rfl))
  exact ok_law F_law hco TB List.mem_cons_self (fun p hp hq => by
    rcases List.mem_cons.mp hp with rfl | hp
    · rfl
    · rw [List.mem_singleton.mp hp] at hq
      exact absurd hq.symm tw') Z FF TT R F__law_refused (glo_ok X G (c.fact 34 (f := .glo "_law_refused") rfl)) b__law_refused (meth_ok (c.fact 80 (f := .meth "Tree" "keeps") rfl)) (TKe base) b_Tree_keeps (meth_ok (c.fact 79 (f := .meth "Tree" "holds") rfl)) (TH base) b_Tree_holds (mkr_ok (c.fact 82 (f := .mkr "Tree") rfl)) (TI base) b_Tree_init (glo_ok X G (c.fact 19 (f := .glo "Tree") rfl))
    ⟨_, fd__law_cell, ok_cell F__law_cell (free_ok X G (c.fact 39 (f := .free "len") rfl)), (glo_ok X G (c.fact 20 (f := .glo "_law_cell") rfl)), F__law_cell.kp, b__law_cell⟩
    ⟨_, fd__law_pool, ok_pool F__law_pool (free_ok X G (c.fact 38 (f := .free "int") rfl)), (glo_ok X G (c.fact 21 (f := .glo "_law_pool") rfl)), F__law_pool.kp, b__law_pool⟩ hT
    ⟨_, fd__law_house, ok_house F__law_house TK (glo_ok X G (c.fact 22 (f := .glo "_law_take") rfl)) F__law_take.kp b__law_take NM (glo_ok X G (c.fact 23 (f := .glo "_law_names") rfl)) F__law_names.kp b__law_names (free_ok X G (c.fact 48 (f := .free "max") rfl)), (glo_ok X G (c.fact 24 (f := .glo "_law_house") rfl)), F__law_house.kp, b__law_house⟩ hTr
    ⟨_, fd__law_every, ok_every5 F__law_every, (glo_ok X G (c.fact 33 (f := .glo "_law_every") rfl)), F__law_every.kp, b__law_every⟩ hHo
    ⟨_, fd__law_keep, ok_keep F__law_keep hHo (free_ok X G (c.fact 42 (f := .free "all") rfl)), (glo_ok X G (c.fact 32 (f := .glo "_law_keep") rfl)), F__law_keep.kp, b__law_keep⟩
    ⟨_, fd__law_told, ok_ltold F__law_told hTr hT hFa hTe (free_ok X G (c.fact 41 (f := .free "range") rfl)), (glo_ok X G (c.fact 31 (f := .glo "_law_told") rfl)), F__law_told.kp, b__law_told⟩
    ⟨_, fd__law_others_refused, hOth, (glo_ok X G (c.fact 35 (f := .glo "_law_others_refused") rfl)), F__law_others_refused.kp, b__law_others_refused⟩
    (free_ok X G (c.fact 41 (f := .free "range") rfl)) (free_ok X G (c.fact 39 (f := .free "len") rfl)) (free_ok X G (c.fact 50 (f := .free "dict") rfl)) (free_ok X G (c.fact 43 (f := .free "list") rfl))
end
end My

namespace My
open PySem PySem.Spec PyProof.Rows L2 He
theorem run (w : World) : HandSHeadRun.RunEq Rw (PySem.W.view Rw.prog [47]) hk ob 8000 loose w := by
  intro os
  kernel_rfl
end My

open PySem PySem.W PySem.Calls PyProof.Rows
theorem PySem.Challenge.cw_whatopened_k05_facts_held_holds : PySem.Challenge.rw_whatopened_k05_facts_held.Holds := by
  w_on; o_law
  refine HandSHeadRun.head_any (r := OpenLaw.row PySem.Challenge.rw_whatopened_k05_facts_held) (q := view (OpenLaw.row PySem.Challenge.rw_whatopened_k05_facts_held).prog [47]) (H := My.hk) (ob := My.ob) (M := 8000) (loose := My.loose) (d := HandSHeadRun.topDef (OpenLaw.row PySem.Challenge.rw_whatopened_k05_facts_held).prog 47) (kwd := []) My.ob_eq
    (by kernel_rfl) (fun s => by kernel_rfl) My.run (by kernel_rfl) (by kernel_rfl) (by kernel_rfl) (by rfl) (by first | assumption | decide +kernel) (by decide +kernel) ⟨rfl, rfl, rfl, rfl, rfl, by decide +kernel⟩ ?hw ?hc
  case hw => w_witness2
  case hc =>
    refine LamX.walk_ofTsE (l := PySem.Challenge.rw_whatopened_k05_facts_held) (n := 63) (k := 14) (x := "_law_script") (CX := fun _ => L2.CX0) rfl (by decide) (by kernel_rfl) ⟨rfl, by decide, by decide⟩ ?F (fun _ _ _ _ _ z => z)
    intro w mg fa h Y G hmg0
    obtain ⟨K, KX, c⟩ := Y
    have hmg : mg ("law" : PySem.Str) = some (.ref fa) := by
      have e : (HandSHeadRun.topDef (OpenLaw.row PySem.Challenge.rw_whatopened_k05_facts_held).prog 47).name = ("law" : PySem.Str) := by kernel_rfl
      rw [← e]
      exact hmg0
    obtain ⟨fd, hb, hF⟩ := My.facts (P := (PySem.Challenge.rw_whatopened_k05_facts_held).prog) (w := w) KX G hmg c.t.d c.more
    have mem : ∀ (x : PySem.Str), ((x, none) : He.Defn) ∈ ([("law", none), ("_law_others_refused", none)] : List He.Defn) → He.cT K (x, none) ∈ ([("law", none), ("_law_others_refused", none)] : List He.Defn).map (He.cT K) := fun x hx => List.mem_map.mpr ⟨_, hx, rfl⟩
    have one : ∀ q : PySem.Addr × PySem.Addr, q ∈ ([("law", none), ("_law_others_refused", none)] : List He.Defn).map (He.cT K) → ∃ d, d ∈ ([("law", none), ("_law_others_refused", none)] : List He.Defn) ∧ q = He.cT K d := fun q hq => by
      obtain ⟨d, h1, h2⟩ := List.mem_map.mp hq
      exact ⟨d, h1, h2.symm⟩
    refine ⟨K, KX, fd, ([("law", none), ("_law_others_refused", none)] : List He.Defn).map (He.cT K), My.spLaw K [((He.cT K ("law", none)).2, My.qLam), ((He.cT K ("_law_others_refused", none)).2, My.qOth)], fun q hq => ?_, fun q hq => ?_, fun q hq => ?_, hb, fun H a ns hl _ hT hS => ⟨a, ns, rfl, hS, fun q hq => ?_, fun _ => rfl⟩, fun base XB GB hT => hF base XB GB (hT _ (mem "law" (by simp))) (hT _ (mem "_law_others_refused" (by simp)))⟩
    · obtain ⟨d, hd, rfl⟩ := one q hq; exact c.empty _ hd
    · obtain ⟨d, hd, rfl⟩ := one q hq; exact c.out _ hd
    · obtain ⟨d, hd, rfl⟩ := one q hq; exact codeHd_of_K KX (c.hd _ hd)
    · simp only [List.mem_cons, List.not_mem_nil, or_false] at hq
      rcases hq with rfl | rfl <;> exact LamX.TabS.nil (hT _ (List.mem_map.mpr ⟨_, by simp, rfl⟩))
#print axioms PySem.Challenge.cw_whatopened_k05_facts_held_holds

