import PyProof.Rows.All
import Wide.All
import OpenK.AllK
import Wide.FinOn
import HandS.ForMost
import HandS.ForExc
import HandS.Defaults
import HandS.IsInst
import HandS.ExcInit
import HandS.OwnEq
import PySem.Challenge.RW_whatopened_k04_trees_moved
import HandS.ExcValue
import HandS.ExcField
import HandS.MakeKw
import KE.KExcIs
import HandS.LawCells
import HandS.OwnIter
import PyProof.InstEq
import HandS.IterVal
import HandS.Walk
import KE.GoesMore
import KE.GoesEnum
import PyProof.Draws
import HandS.Star
import HandS.TupAny
import HandS.WordsExc
import HandS.CallSlots
import HandS.Style
import HandS.Codes
import HandS.NoneIn
import HandS.Deep
import HandS.Lambda
import HandS.TryMany
import KE.KOpsOwn
import KE.KUnpackStar
import HandS.DictComp
import HandS.WordsDict
import HandS.More
import KE.KStateDown
import Lean
import HandS.Head0
import HandS.Head1
import HandS.Head2
import HandS.HeadEnd
import HandS.HeadHook1
import HandS.HeadHook2
set_option Elab.async false
set_option linter.all false
set_option maxRecDepth 100000
set_option maxHeartbeats 0
namespace My
open PySem PySem.Spec PyProof.Rows L2
def top (i : Nat) : Stmt := PySem.Challenge.pw_whatopened_k04_trees_moved.main.body.getD i (.Pass ⟨0, 0, 0, 0⟩)
abbrev FnP (K : PySem.W.Frag) (x : Str) (st : Stmt) (f : Addr) (fd : FuncData) : Prop := FunD K x x (defArgs st) (defBody st) (defScope st) [] [] f fd
def inCls (s : Stmt) (i : Nat) : Stmt := match s with
  | .ClassDef (body := b) .. => b.getD i (.Pass ⟨0, 0, 0, 0⟩)
  | _ => .Pass ⟨0, 0, 0, 0⟩
abbrev s__wall : Stmt := top 0
abbrev s_BadHouse_init : Stmt := inCls (top 3) 0
abbrev s_NoNode_init : Stmt := inCls (top 4) 0
abbrev s_NoFolder_init : Stmt := inCls (top 5) 0
abbrev s_Ringed_init : Stmt := inCls (top 6) 0
abbrev s_is_list : Stmt := top 10
abbrev sIsList : Stmt := top 10
abbrev s_is_name : Stmt := top 11
abbrev sIsName : Stmt := top 11
abbrev s_wrong_name : Stmt := top 13
abbrev sWrongName : Stmt := top 13
abbrev s_wrong_part : Stmt := top 14
abbrev sWrongPart : Stmt := top 14
abbrev s_House_init : Stmt := inCls (top 15) 0
abbrev sHInit : Stmt := inCls (top 15) 0
abbrev s_House_len : Stmt := inCls (top 15) 1
abbrev sHLen : Stmt := inCls (top 15) 1
abbrev s_House_contains : Stmt := inCls (top 15) 2
abbrev sHHas : Stmt := inCls (top 15) 2
abbrev s_House_iter : Stmt := inCls (top 15) 3
abbrev sHIter : Stmt := inCls (top 15) 3
abbrev s_House_eq : Stmt := inCls (top 15) 4
abbrev sHEq : Stmt := inCls (top 15) 4
abbrev s_must_be_node : Stmt := top 16
abbrev s_must_be_folder : Stmt := top 17
abbrev s_ring : Stmt := top 19
abbrev s_Tree_init : Stmt := inCls (top 20) 0
abbrev s_Tree_over : Stmt := inCls (top 20) 1
abbrev s_Tree_above : Stmt := inCls (top 20) 2
abbrev s_Tree_below : Stmt := inCls (top 20) 3
abbrev s_Tree_lies : Stmt := inCls (top 20) 4
abbrev s_Tree_moved : Stmt := inCls (top 20) 5
abbrev s_Tree_holds : Stmt := inCls (top 20) 6
abbrev s_Tree_keeps : Stmt := inCls (top 20) 7
abbrev s_Tree_eq : Stmt := inCls (top 20) 8
abbrev s__law_cell : Stmt := top 22
abbrev sCell : Stmt := top 22
abbrev s__law_pool : Stmt := top 23
abbrev sPool : Stmt := top 23
abbrev s__law_take : Stmt := top 24
abbrev sTake : Stmt := top 24
abbrev s__law_names : Stmt := top 25
abbrev sNames : Stmt := top 25
abbrev s__law_house : Stmt := top 26
abbrev sHouse : Stmt := top 26
abbrev s__law_goes_round : Stmt := top 27
abbrev s__law_tree : Stmt := top 28
abbrev s__law_above : Stmt := top 29
abbrev s__law_made : Stmt := top 30
abbrev s__law_is_right : Stmt := top 31
abbrev s__law_moved : Stmt := top 32
abbrev s__law_is_ring : Stmt := top 33
abbrev s_law : Stmt := top 34
end My

namespace My
open PySem PySem.Spec PyProof.Rows L2
/-! ### the pool -/
/-- a pool stands at p, at most n draws of its second kind were made -/
def Pool (H : Hp) (p : Addr) (n : Int) : Prop := ∃ g m c : Int, H p = some (.lst [.int g, .int m, .int c]) ∧ 0 ≤ g ∧ 0 ≤ m ∧ m < 1000000007 ∧ 0 ≤ c ∧ c ≤ n
def spCell1 (K : PySem.W.Frag) : Sp := fun vs H Q _ => ∃ (l : Addr) (ns : List Int) (j : Nat), vs = [.ref l, .int (j : Int)] ∧ SqL K H l (ns.map V.int) ∧ ∀ i : Int, Q (.int i) H
def spPool : Sp := fun vs H Q _ => ∃ g : Int, vs = [.int g] ∧ ∀ p H', H p = none → (∃ a b : Int, 0 ≤ a ∧ 0 ≤ b ∧ b < 1000000007 ∧ H' = upd H p (.lst [.int a, .int b, .int 0])) → Q (.ref p) H'
def spTake : Sp := fun vs H Q _ => ∃ (p : Addr) (many n : Int), vs = [.ref p, .int many] ∧ 0 < many ∧ many < 1073741824 ∧ Pool H p n ∧ n < 1099511627776 ∧
  ∀ (r : Int) (o : HO), 0 ≤ r → r < many → Pool (upd H p o) p (n + 1) → Q (.int r) (upd H p o)
theorem scCell : FnScope ["_law_script", "_law_k"] ["_law_script", "_law_k"] (defScope sCell) := ⟨rfl, rfl, rfl, by decide +kernel, rfl, by decide +kernel, by decide +kernel⟩
theorem scPool : FnScope ["_law_grain", "_law_folded"] ["_law_grain"] (defScope sPool) := ⟨rfl, rfl, rfl, by decide +kernel, rfl, by decide +kernel, by decide +kernel⟩
theorem scTake : FnScope ["_law_pool_here", "_law_many", "_law_draw", "_law_mixed"] ["_law_pool_here", "_law_many"] (defScope sTake) := ⟨rfl, rfl, rfl, by decide +kernel, rfl, by decide +kernel, by decide +kernel⟩
section
variable {P : Program} {w : World} {K : PySem.W.Frag} {mg : Str → Option Value} {base : Heap} {f : Addr} {fd : FuncData}
theorem ok_cell (F : FnP K "_law_cell" sCell f fd) (gL : mg "len" = none) : FnOk P w K mg base CX0 1 f fd ["_law_script", "_law_k"] (spCell1 K) := by
  refine F.ok scCell (fun vs H Q E h => ?_) (fun cdv A outer s H vs Q E hr h => ⟨_, PSs.nox (pss_cons (ps_if (pt_cmpR op_lt (pv 1) (pe_callB call_len (by rfl) gL boot_len (pa_cons (pv 0) pa_nil)) (nomark _)) (pss_one (ps_ret (pe_ix ix_list (pv 0) (pv 1) (fun _ _ => rfl)))) pss_nil) (pss_one (ps_ret pe_int))), ?_⟩)
  · obtain ⟨l, ns, j, rfl, _⟩ := h
    rfl
  · obtain ⟨l, ns, j, rfl, hS, q⟩ := h
    refine ⟨_, rfl, _, rfl, _, _, rfl, .inl ⟨_, hS, rfl⟩, _, _, rfl, rfl, _, rfl, ?_⟩
    refine ite2 (fun hj => ?_) (fun _ => ?_)
    · have hj' : j < ns.length := by
        have z := of_decide_eq_true hj
        rw [List.length_map] at z
        omega
      refine ⟨_, rfl, _, rfl, l, _, _, _, rfl, rfl, hS, atI_nat (by rw [List.getElem?_map, List.getElem?_eq_getElem hj'] <;> rfl), q _⟩
    · exact q 0
theorem ok_pool (F : FnP K "_law_pool" sPool f fd) (gI : mg "int" = none) : FnOk P w K mg base CX0 1 f fd ["_law_grain"] spPool := by
  refine F.ok scPool (fun vs H Q E h => ?_) (fun cdv A outer s H vs Q E hr h => ⟨_, PSs.nox (
    pss_cons (ps_set (i := 1) scPool.nd rfl (.inl rfl) (pe_op op_mul pe_int (pv 0)))
    (pss_cons (ps_if (pt_cmpR op_lt (pv 0) pe_int (nomark _)) (pss_one (ps_set (i := 1) scPool.nd rfl (.inl rfl) (pe_op op_sub (pe_op op_sub pe_int (pe_op op_mul pe_int (pv 0))) pe_int))) pss_nil)
    (pss_cons (ps_if (pt_cmpR op_ge (pv 1) (pe_op op_pow pe_int pe_int) (nomark _)) (pss_one (ps_ret (pe_lst (pa_cons (pv 1) (pa_cons (pe_op op_mod (pe_callTy call_int1 (by rfl) gI (by decide +kernel) (pa_cons (pv 1) pa_nil)) pe_int) (pa_cons pe_int pa_nil)))))) pss_nil)
    (pss_one (ps_ret (pe_lst (pa_cons pe_int (pa_cons (pe_op op_mod (pe_callTy call_int1 (by rfl) gI (by decide +kernel) (pa_cons (pv 1) pa_nil)) pe_int) (pa_cons pe_int pa_nil))))))))), ?_⟩)
  · obtain ⟨g, rfl, _⟩ := h
    rfl
  · obtain ⟨g, rfl, q⟩ := h
    refine ⟨_, rfl, _, _, rfl, rfl, .inl ⟨by decide, by decide⟩, _, rfl, _, _, rfl, rfl, _, rfl, ?_⟩
    have m1 : ∀ z : Int, 0 ≤ z % 1000000007 := fun z => Int.emod_nonneg z (by decide)
    have m2 : ∀ z : Int, z % 1000000007 < 1000000007 := fun z => Int.emod_lt_of_pos z (by decide)
    have lst3 : ∀ a b c : V, ([a, b, c] : List V).length ≤ sizeLine := fun a b c => by show 3 ≤ sizeLine; decide
    refine ite2 (fun hn => ?_) (fun hn => ?_)
    · have hn' := of_decide_eq_true hn
      refine ⟨_, rfl, _, _, rfl, rfl, .inl ⟨by decide, by decide⟩, _, _, rfl, rfl, _, _, rfl, rfl, ?_⟩
      refine ⟨_, rfl, _, _, rfl, rfl, ⟨by decide, by decide, by decide⟩, _, _, rfl, rfl, _, rfl, ?_⟩
      refine ite2 (fun _ => ?_) (fun _ => ?_)
      · refine ⟨_, rfl, _, rfl, .inl ⟨_, rfl, _, _, rfl, rfl, (show (0 : Int) < 1000000007 by decide), lst3 _ _ _, fun p hp => q p _ hp ⟨_, _, ?_, m1 _, m2 _, rfl⟩⟩⟩
        omega
      · refine ⟨_, rfl, .inl ⟨_, rfl, _, _, rfl, rfl, (show (0 : Int) < 1000000007 by decide), lst3 _ _ _, fun p hp => q p _ hp ⟨_, _, by decide, m1 _, m2 _, rfl⟩⟩⟩
    · have hn' : ¬ g < 0 := fun z => hn (decide_eq_true z)
      refine ⟨_, rfl, _, _, rfl, rfl, ⟨by decide, by decide, by decide⟩, _, _, rfl, rfl, _, rfl, ?_⟩
      refine ite2 (fun _ => ?_) (fun _ => ?_)
      · refine ⟨_, rfl, _, rfl, .inl ⟨_, rfl, _, _, rfl, rfl, (show (0 : Int) < 1000000007 by decide), lst3 _ _ _, fun p hp => q p _ hp ⟨_, _, ?_, m1 _, m2 _, rfl⟩⟩⟩
        omega
      · refine ⟨_, rfl, .inl ⟨_, rfl, _, _, rfl, rfl, (show (0 : Int) < 1000000007 by decide), lst3 _ _ _, fun p hp => q p _ hp ⟨_, _, by decide, m1 _, m2 _, rfl⟩⟩⟩
theorem ok_take (F : FnP K "_law_take" sTake f fd) (gI : mg "int" = none) : FnOk P w K mg base CX0 1 f fd ["_law_pool_here", "_law_many"] spTake := by
  refine F.ok scTake (fun vs H Q E h => ?_) (fun cdv A outer s H vs Q E hr h => ⟨_, PSs.nox (
    pss_cons (ps_if (pt_cmpR op_gt (pe_ix ix_list (pv 0) pe_int (fun _ _ => rfl)) pe_int (nomark _))
      (pss_cons (ps_set (i := 2) scTake.nd rfl (.inl rfl) (pe_op op_mod (pe_callTy call_int1 (by rfl) gI (by decide +kernel) (pa_cons (pe_ix ix_list (pv 0) pe_int (fun _ _ => rfl)) pa_nil)) (pv 1)))
      (pss_cons (ps_asg (pe_op op_fdiv (pe_ix ix_list (pv 0) pe_int (fun _ _ => rfl)) (pv 1)) (pg_sub (pv 0) pe_int set_list))
      (pss_one (ps_ret (pv 2))))) pss_nil)
    (pss_cons (ps_asg (pe_op op_add (pe_ix ix_list (pv 0) pe_int (fun _ _ => rfl)) pe_int) (pg_sub (pv 0) pe_int set_list))
    (pss_cons (ps_set (i := 3) scTake.nd rfl (.inl rfl) (pe_op op_mod (pe_callTy call_int1 (by rfl) gI (by decide +kernel) (pa_cons (pe_op op_pow (pe_op op_add (pe_op op_add (pe_ix ix_list (pv 0) pe_int (fun _ _ => rfl)) (pe_op op_mul pe_int (pe_ix ix_list (pv 0) pe_int (fun _ _ => rfl)))) pe_int) pe_int) pa_nil)) pe_int))
    (pss_one (ps_ret (pe_op op_mod (pe_op op_mod (pe_callTy call_int1 (by rfl) gI (by decide +kernel) (pa_cons (pe_op op_mul (pe_op op_add (pv 3) (pe_ix ix_list (pv 0) pe_int (fun _ _ => rfl))) pe_int) pa_nil)) pe_int) (pv 1))))))), ?_⟩)
  · obtain ⟨p, many, n, rfl, _⟩ := h
    rfl
  · obtain ⟨p, many, n, rfl, hm0, hm1, ⟨g, m, c, hp, hg, hm, hm', hc, hcn⟩, hn, q⟩ := h
    have SL : ∀ {H : Hp} {xs : List V}, H p = some (.lst xs) → SqL K H p xs := fun h => SqL.of h
    refine ⟨_, rfl, p, _, 0, .int g, rfl, rfl, SL hp, rfl, _, _, rfl, rfl, _, rfl, ?_⟩
    refine ite2 (fun hg0 => ?_) (fun _ => ?_)
    · refine ⟨_, rfl, p, _, 0, .int g, rfl, rfl, SL hp, rfl, .inl ⟨_, rfl, _, rfl, _, _, rfl, rfl, hm0, ?_⟩⟩
      refine ⟨_, rfl, p, _, 0, .int g, rfl, rfl, SL hp, rfl, _, rfl, _, _, rfl, rfl, ⟨hm0, hm1⟩, _, rfl, p, _, 0, 0, rfl, rfl, hp, rfl, ?_⟩
      refine ⟨_, rfl, q _ _ (Int.emod_nonneg _ (by omega)) (Int.emod_lt_of_pos _ hm0) ⟨g / many, m, c, upd_same, Int.ediv_nonneg hg (by omega), hm, hm', hc, by omega⟩⟩
    · refine ⟨_, rfl, p, _, 2, .int c, rfl, rfl, SL hp, rfl, _, _, rfl, rfl, _, rfl, p, _, 2, 2, rfl, rfl, hp, rfl, ?_⟩
      have h2 : upd H p (.lst (List.set [V.int g, V.int m, V.int c] 2 (V.int (c + 1)))) p = some (.lst [.int g, .int m, .int (c + 1)]) := upd_same
      refine ⟨_, rfl, p, _, 1, .int m, rfl, rfl, SL h2, rfl, _, rfl, p, _, 2, .int (c + 1), rfl, rfl, SL h2, rfl, _, _, rfl, rfl, .inl ⟨by decide, by decide⟩, _, _, rfl, rfl, _, _, rfl, rfl, _, _, rfl, rfl, ⟨by decide, by decide, ?_⟩, .inl ⟨_, rfl, _, _, rfl, rfl, (show (0 : Int) < 2147483647 by decide), ?_⟩⟩
      · omega
      refine ⟨_, rfl, _, rfl, p, _, 2, .int (c + 1), rfl, rfl, SL h2, rfl, _, _, rfl, rfl, _, _, rfl, rfl, .inr ⟨by decide, by decide⟩, .inl ⟨_, rfl, _, _, rfl, rfl, (show (0 : Int) < 2147483629 by decide), _, rfl, _, _, rfl, rfl, hm0, ?_⟩⟩
      exact q _ _ (Int.emod_nonneg _ (by omega)) (Int.emod_lt_of_pos _ hm0) ⟨g, m, c + 1, upd_same, hg, hm, hm', by omega, by omega⟩
end
end My

namespace PySem
namespace MyX
open PySem.HandSPX Builtin Builtin.ObjectAttr
section
variable {M : Model} {A : Around} {E : Value → Shared → Prop} {h : Heap} {g : Array GenState} {d : Drawn} {t : Nat} {os : OsState}
variable {nm q : Str} {C N : Addr} {bs bm mb : List Value} {hdct : Bool} {sn : List Str} {sub : List Value} {ab : Bool} {col : Option Bool} {dd : Option Addr} {k0 k1 k2 k3 k5 : Option Value} {B idN idI : String}
theorem chk_new (F : ExcBaseFacts B idN idI mb) (hT : ∀ X : String, bm.contains (.type X) = mb.contains (.type X)) {rs : List Value} {kw : List (Str × Value)} {Q : Unit → Shared → Prop}
    (hC : h.get? C = some (excClassObj nm q C N bs bm hdct sn sub ab col dd k0 k1 k2 k3 k5 idN)) (hq : Q () ⟨h, g, d, t, os⟩) :
    wpAny M A (checkBuiltinCall idN ⟨.ref C :: rs, kw⟩) Q E ⟨h, g, d, t, os⟩ := by
  have c1 : (Value.ref C :: bm).contains (.type B) = true := by
    rw [List.contains_cons, hT, F.hasB, Bool.or_true]
  have c2 := F.noStar
  simp only [checkBuiltinCall, F.newKind, F.newSplit, F.newRow]
  repeat (first | refine wpAny_loadPart_at hC ?_ | (refine wpAny_isSubtype_exc hC ?_; rw [c1]) | refine wpAny_staticBase_exc hC ?_ | refine wpAny_madeBy_exc hC ?_ | simp only [bne_self_eq_false, Bool.false_eq_true, if_false] | wp_step)
  exact hq
end
section
variable {prog : Program} {w : World} {A : Around} {E : Value → Shared → Prop} {R : Result → Shared → Prop} {h : Heap} {g : Array GenState} {d : Drawn} {t : Nat} {os : OsState}
variable {nm q : Str} {C N : Addr} {bs bm mb : List Value} {hdct : Bool} {sn : List Str} {sub : List Value} {ab : Bool} {col : Option Bool} {dd : Option Addr} {k0 k1 k2 k3 k5 : Option Value} {B idN idI : String}
theorem new_kw (F : ExcBaseFacts B idN idI mb) (hT : ∀ X : String, bm.contains (.type X) = mb.contains (.type X)) {rs : List Value} {kw : List (Str × Value)}
    (hC : h.get? C = some (excClassObj nm q C N bs bm hdct sn sub ab col dd k0 k1 k2 k3 k5 idN))
    (hq : R (.ok (.ret (.ref (h.objs.size + 1)))) ⟨(h.push (W.kdv_tup rs)).push (excO C h.objs.size), g, d, t, os⟩) (hrs : rs.length ≤ sizeLine) :
    codeAny (model prog w) A (.builtin idN ⟨.ref C :: rs, kw⟩) R ⟨h, g, d, t, os⟩ := by
  have c0 := F.ends
  have c1 : (Value.ref C :: bm).contains (.type B) = true := by
    rw [List.contains_cons, hT, F.hasB, Bool.or_true]
  have c2 : (Value.ref C :: bm).contains (.type "AttributeError") = false := by
    rw [List.contains_cons, hT, F.noAttr]; rfl
  have c3 : (Value.ref C :: bm).contains (.type "NameError") = false := by
    rw [List.contains_cons, hT, F.noName]; rfl
  refine codeAny_builtinAt F.entry ?_
  unfold Builtin.«BaseException.__new__»
  refine wpAt_bind ?_
  show wpAt _ _ _ (stack >>= _) _ _ _
  refine wpAt_bind (wpAt_stack fun p below => wpAt_of_wpAny ?_)
  wp_walk
  refine wpAt_of_wpAny ?_
  rw [F.owner]
  repeat (first | with_reducible refine wpAny_madeHere_exc F.canon hC ?_ | with_reducible refine wpAny_loadPart_at hC ?_ | (with_reducible refine wpAny_isSubtype_exc hC ?_; first | rw [c1] | rw [c2] | rw [c3]) | wp_step)
  show R _ _
  rw [Heap.size_push]
  exact hq
theorem tcall_kw (F : ExcBaseFacts B idN idI mb) (hT : ∀ X : String, bm.contains (.type X) = mb.contains (.type X)) {rs : List Value} {kw : List (Str × Value)} {fI : Addr} {Q : Fin → Shared → Prop}
    (hC : h.get? C = some (excClassObj nm q C N bs bm hdct sn sub ab col dd k0 k1 k2 k3 k5 idN))
    (hi : W.Looks (model prog w) h (typeLookup (.ref C) "__init__") (some (.ref fI))) (hb : ∀ self, W.Looks (model prog w) h (bindSpecial (.ref fI) self) (.ref fI, [self])) (hrs : rs.length ≤ sizeLine)
    (hq : codeAny (model prog w) A (.call (.ref fI) ⟨.ref (h.objs.size + 1) :: rs, kw⟩)
      (fun r s' => match r with | .ok (.ret v) => v = .none ∧ Q (.done (.ret (.ref (h.objs.size + 1)))) s' | .ok _ => False | .error e => E e s')
      ⟨(h.push (W.kdv_tup rs)).push (excO C h.objs.size), g, d, t, os⟩) :
    wpAny (model prog w) A (Builtin.«type.__call__» ⟨.ref C :: rs, kw⟩) Q E ⟨h, g, d, t, os⟩ := by
  repeat (first | with_reducible refine wpAny_loadPart_at hC ?_ | with_reducible refine wpAny_madeBy_exc hC ?_ | wp_step)
  refine codeAny_call_builtin_code (Code.quiet_builtin _ F.quiet) (chk_new F hT hC ?_)
  refine new_kw F hT hC ?_ hrs
  show wpAny _ _ _ _ _ _
  have k : ∀ b o, h.get? b = some o → ((h.push (W.kdv_tup rs)).push (excO C h.objs.size)).get? b = some o := fun b o e => Heap.get?_push_of_some _ (Heap.get?_push_of_some _ e)
  have hC1 := k _ _ hC
  have hget : ((h.push (W.kdv_tup rs)).push (excO C h.objs.size)).get? (h.objs.size + 1) = some (excO C h.objs.size) := by heap_get
  have hcC : (Value.ref C :: bm).contains (.ref C) = true := by simp
  have i1 := hi.keeps k
  have b1 := (hb (.ref (h.objs.size + 1))).keeps k
  unfold isInstance
  repeat (first | with_reducible refine wpAny_loadPart_at hget ?_ | (with_reducible refine wpAny_isSubtype_exc hC1 ?_; rw [hcC]) | wp_step)
  show wpAny _ _ (typeLookup (.ref C) _) _ _ _
  refine i1.at ?_
  refine wpAny_holding (wpAny_bind (b1.at ?_))
  refine wpAny_bind (wpAny_call (codeAny_mono hq fun r s' z => ?_))
  rcases r with e | (v | _ | _ | _) <;> first | exact z | exact z.elim | skip
  obtain ⟨rfl, z⟩ := z
  first
    | exact wpAny_pure (wpAny_pure z)
    | (wp_walk; exact z)
theorem call_kw (F : ExcBaseFacts B idN idI mb) (hT : ∀ X : String, bm.contains (.type X) = mb.contains (.type X)) {rs : List Value} {kw : List (Str × Value)} {fI : Addr}
    (hC : h.get? C = some (excClassObj nm q C N bs bm hdct sn sub ab col dd k0 k1 k2 k3 k5 idN))
    (hi : W.Looks (model prog w) h (typeLookup (.ref C) "__init__") (some (.ref fI))) (hb : ∀ self, W.Looks (model prog w) h (bindSpecial (.ref fI) self) (.ref fI, [self])) (hrs : rs.length ≤ sizeLine)
    (hq : codeAny (model prog w) (A.under (.builtin "type.__call__" ⟨.ref C :: rs, kw⟩)) (.call (.ref fI) ⟨.ref (h.objs.size + 1) :: rs, kw⟩) (W.InitBack (h.objs.size + 1) R)
      ⟨(h.push (W.kdv_tup rs)).push (excO C h.objs.size), g, d, t, os⟩) :
    codeAny (model prog w) A (.call (.ref C) ⟨rs, kw⟩) R ⟨h, g, d, t, os⟩ := by
  have f1 := tc_lookup
  have f2 := tc_bind (.ref C)
  have hTy : (⟨h, g, d, t, os⟩ : Shared).TypeIs (.ref C) "type" := ⟨_, hC, rfl⟩
  refine codeAny_of_tree ?_
  show wpAny _ _ (callAny (.ref C) _) _ _ _
  repeat (any_goals (first | assumption | with_reducible refine wpAny_loadPart_at hC ?_ | wp_step))
  refine ⟨rfl, ?_⟩
  refine codeAny_call_builtin_at (Code.quiet_builtin _ (by decide +kernel)) entry_typeCall (wpAny_check_type_call_sub hC (tcall_kw F hT hC hi hb hrs ?_))
  refine codeAny_mono hq fun r s' z => ?_
  rcases r with e | (v | _ | _ | _) <;> exact z
end
end MyX
end PySem

namespace My
open PySem PySem.Spec PyProof.Rows L2
/-! ### own exceptions as values -/
/-- what isinstance asks of the class of an exception -/
structure KitC (K : PySem.W.Frag) (C : Addr) : Prop where
  cl : (PySem.W.clsIn K C).isSome = true
  at_ : PySem.W.findIn K (.ref C) "__class__" = some (some (.builtin "object.__class__"))
  sp : PySem.W.specialIn K (.builtin "object.__class__") "__get__" = some (some (.builtin "getset_descriptor.__get__"))
  tk : PySem.W.takesIn K (.builtin "object.__class__") = some true
  ob : PySem.W.mroIn K C (.type "object") = some true
/-- an exception of the class at C stands at a: its one field f holds v -/
def ErrAt (H : Hp) (a C : Addr) (f : Str) (v : V) : Prop := ∃ d, H a = some (exo a C (some d)) ∧ H d = some (exd d [(f, v)])
theorem ErrAt.ext {H H' : Hp} {a C : Addr} {f : Str} {v : V} (e : ErrAt H a C f v) (x : Ext H H') : ErrAt H' a C f v := by
  obtain ⟨d, h1, h2⟩ := e
  exact ⟨d, x _ _ h1, x _ _ h2⟩
section
variable {X : Cx} {CX : CXT} {k : Nat} {C fI : Addr} {fd : FuncData} {ps : List Str} {sp : Sp}
theorem run_err {pins : List (Addr × Obj)} {σ : L2.St} {H : Hp} {s : Shared} {Q : VK} {us uz : List Value} {kw : List (Str × Value)} {vs : List V} (T : OexC X.K C) (iC : PySem.W.findIn X.K (.ref C) "__init__" = some (some (.ref fI)))
    (tI : PySem.W.typeIn X.K (.ref fI) = some (.type "function")) (Fn : FnOk X.prog X.w X.K X.mg X.base CX k fI fd ps sp) (hr : Room (k + 1) X.A) (hx : Passes CX X E0)
    (hb : ∀ (s : Shared) (a : Addr), X.K.In s.heap → BindsTo s fd ⟨.ref a :: us, kw⟩ (ps.zip (.ref a :: uz))) (hl : us.length ≤ 1000) (I : Inv X pins σ H s) (r : Vals vs uz)
    (h : ∀ a, H a = none → sp (.ref a :: vs) (upd H a (exo a C none)) (fun v H2 => v = .non ∧ Q (.ref a) H2) E0) :
    wpAny (model X.prog X.w) X.A (call (.ref C) us kw) (EP X pins σ Q) X.xe s := by
  obtain ⟨nm, q, N, bs, bm, sn, sub, ab, col, dd, k0, k1, k2, k3, k5, hC, hbm⟩ := T.cls
  obtain ⟨hp, g, dr, tk, os⟩ := s
  have hz : hp.objs.size ≤ hp.objs.size + 1 := Nat.le_succ _
  have hn : H (hp.objs.size + 1) = none := I.hok.fresh hz
  have hq := h (hp.objs.size + 1) hn
  have kk : ∀ b o, hp.get? b = some o → ((hp.push (PySem.W.kdv_tup us)).push (PySem.HandSPX.excO C hp.objs.size)).get? b = some o := fun b o e =>
    Heap.get?_push_of_some _ (Heap.get?_push_of_some _ e)
  have hg : ((hp.push (PySem.W.kdv_tup us)).push (PySem.HandSPX.excO C hp.objs.size)).get? (hp.objs.size + 1) = some (PySem.HandSPX.excO C hp.objs.size) := by
    heap_get
  have I2 : Inv X pins σ (upd H (hp.objs.size + 1) (exo (hp.objs.size + 1) C none)) ⟨(hp.push (PySem.W.kdv_tup us)).push (PySem.HandSPX.excO C hp.objs.size), g, dr, tk, os⟩ :=
    I.laid (t' := tk) (a := hp.objs.size + 1) (o := exo (hp.objs.size + 1) C none) (h' := (hp.push (PySem.W.kdv_tup us)).push (PySem.HandSPX.excO C hp.objs.size)) kk hz (exo_ok hg)
  have r2 : Vals (V.ref (hp.objs.size + 1) :: vs) (Value.ref (hp.objs.size + 1) :: uz) := .cons rfl r
  have hus : us.length ≤ sizeLine := by
    rw [sizeLine_eq]
    omega
  refine wpAny_call (PySem.MyX.call_kw PySem.F.excBase_ValueError (fun Y => PySem.HandSPX.refsVE_contains Y bm hbm) (I.kIn _ _ hC) (PySem.W.looks_findIn I.kIn iC) (fun self => PySem.W.bind_fn I.kIn self tI) hus
    (codeAny_mono (Fn.run _ X.stack _ _ ⟨Value.ref (hp.objs.size + 1) :: us, kw⟩ (Value.ref (hp.objs.size + 1) :: uz) _ _ E0 (hr.make C us kw) (I2.env0.make C us kw) (hb _ _ I2.kIn) r2 hq) fun r s' hq' => ?_))
  cases r with
  | error er => exact hx pins σ _ _ er s' I2 hq'
  | ok fl =>
    cases fl with
    | ret u =>
      obtain ⟨v, H', I3, rv, ev, q3⟩ := I2.after hq'
      subst ev
      exact ⟨rv, ⟨V.ref (hp.objs.size + 1), H', I3, rfl, q3⟩⟩
    | next => exact False.elim hq'
    | brk => exact False.elim hq'
    | cont => exact False.elim hq'
/-- C(e, ..) as a value -/
def tErr (C : Addr) (sp : Sp) (ta : TA) : TE := fun σ H Q => ta σ H fun vs H1 => vs.length ≤ 1000 ∧ ∀ a, H1 a = none → sp (.ref a :: vs) (upd H1 a (exo a C none)) (fun v H2 => v = .non ∧ Q (.ref a) H2) E0
theorem pe_err {x : Str} {e : Expr} {es : List Expr} {ta : TA} {p pos : Pos} (T : OexC X.K C) (iC : PySem.W.findIn X.K (.ref C) "__init__" = some (some (.ref fI)))
    (tI : PySem.W.typeIn X.K (.ref fI) = some (.type "function")) (Fn : FnOk X.prog X.w X.K X.mg X.base CX k fI fd ps sp) (hr : Room (k + 1) X.A) (hx : Passes CX X E0) (hb : Binds X.K fd ps [])
    (hg : Gl X x) (hm : X.mg x = some (.ref C)) (ha : PA X (e :: es) ta)
    (hdb : (x == ("__debug__" : Str)) = false := by decide) (he : starEach (e :: es) X.env = (false, eval e X.env) :: starEach es X.env := by rfl) (hpl : (backTo pos (starEach es X.env)).any (·.1) = false := by rfl) :
    PE X (.Call (.Name x p) (e :: es) [] pos) (tErr C sp ta) := by
  refine ⟨fun pins s σ H Q I h => ?_⟩
  refine wpAny_Call_Name_kw (ld_glob I hg hm ?_ hdb)
  refine PySem.W.callWith_K (h₀ := X.base) I.ok.mod.kin T.kC (thn (ha.run pos pins s σ H _ I h) fun us s1 ⟨vs, H1, I1, r1, hz, q1⟩ => ⟨I1.kIn, ?_⟩) he hpl
  have l0 : us.length ≤ 1000 := by
    rw [← Paired.length r1]
    exact hz
  have l1 : vs.length + 1 = ps.length := Fn.len _ _ _ _ (q1 (s1.heap.objs.size + 1) (I1.hok.fresh (Nat.le_succ _)))
  refine run_err T iC tI Fn hr hx (fun s a KX => ?_) l0 I1 r1 q1
  have z := hb s (Value.ref a :: us) KX (by rw [List.append_nil, List.length_cons, ← Paired.length r1]; exact l1)
  rw [List.append_nil] at z
  exact z
/-- C(f = e) as a value -/
theorem pe_errK {x kn : Str} {kws : List Keyword} {tk : TA} {p pos : Pos} (T : OexC X.K C) (iC : PySem.W.findIn X.K (.ref C) "__init__" = some (some (.ref fI)))
    (tI : PySem.W.typeIn X.K (.ref fI) = some (.type "function")) (Fn : FnOk X.prog X.w X.K X.mg X.base CX k fI fd ps sp) (hr : Room (k + 1) X.A) (hx : Passes CX X E0)
    (hb : ∀ (s : Shared) (u v : Value), X.K.In s.heap → BindsTo s fd ⟨[u], [(kn, v)]⟩ (ps.zip [u, v])) (hg : Gl X x) (hm : X.mg x = some (.ref C)) (hkw : PK X kws tk)
    (hall : (backToKw pos (keywordEach kws X.env)).all (·.1.isSome) = true := by rfl) (hks : (backToKw pos (keywordEach kws X.env)).filterMap (·.1) = [kn] := by rfl) (hdb : (x == ("__debug__" : Str)) = false := by decide)
    (hpl : ((backTo pos (starEach [] X.env)).any (·.1) || (backToKw pos (keywordEach kws X.env)).any (·.1.isNone)) = false := by rfl) :
    PE X (.Call (.Name x p) [] kws pos) (fun σ H Q => tk σ H fun vs H1 => ∃ v, vs = [v] ∧ tErr C sp (fun _ H Q => Q [v] H) σ H1 Q) := by
  refine ⟨fun pins s σ H Q I h => ?_⟩
  refine wpAny_Call_Name_kw (ld_glob I hg hm ?_ hdb)
  refine PySem.W.callWith_KW0 (h₀ := X.base) I.ok.mod.kin T.kC hall ?_ hpl
  refine thn (hkw.run pos pins s σ H _ I h) fun ws s2 ⟨zs, H2, I2, rz, v, ez, l2, q2⟩ => ⟨I2.kIn, ?_⟩
  rw [hks]
  subst ez
  cases rz with
  | cons rv rn =>
    cases rn
    exact run_err (us := []) T iC tI Fn hr hx (fun s a KX => hb s (.ref a) _ KX) (by decide) I2 (.cons rv .nil) q2
/-- e.f of such a value -/
def tErF (K : PySem.W.Frag) (f : Str) (te : TE) : TE := fun σ H Q => te σ H fun x H1 => ∃ a C v, x = .ref a ∧ ErrAt H1 a C f v ∧ XfC K C ∧ PySem.W.findIn K (.ref C) f = some none ∧ Q v H1
theorem pe_erF {e : Expr} {te : TE} {n : Str} {pos : Pos} (he : PE X e te) (hb : attributeBase e n X.env (eval e X.env) = eval e X.env := by rfl) : PE X (.Attribute e n pos) (tErF X.K n te) := by
  refine ⟨fun pins s σ H Q I h => ?_⟩
  refine attr_of hb (thn (he.run pins s σ H _ I h) fun u s1 hh => ?_)
  obtain ⟨x, H1, I1, rx, a, C, v, ex, ⟨d, ha, hd⟩, T, hno, q⟩ := hh
  subst ex
  obtain rfl : u = Value.ref a := rx
  obtain ⟨t1, ho⟩ := exo_at I1.hok ha
  obtain ⟨mA, hns, hr⟩ := exd_at I1.hok hd
  obtain ⟨od, hod, hl⟩ := lookIn_ns hns
  have l : List.lookup n [(n, v)] = some v := by
    simp [List.lookup]
  obtain ⟨u, hu, ru⟩ := RelO.some_of (v := v) (o := mA n) (by rw [← l]; exact hr n)
  have J : PySem.W.InstAt s1.heap a { cls := .ref C, dict := some d, data := .fields #[.ref t1, .none, .none, .none, .bool false, .none] } C (some od) := ⟨ho, rfl, rfl, hod⟩
  exact HandSPX.exc_get I1.kIn J T.ga T.gg T.exC (PySem.W.findObj_own T.hdC hno rfl (by rw [hl, hu])) (handed_of ru) ⟨v, H1, I1.tok _, ru, q⟩
/-- isinstance(e, D) of such a value, or of one without fields -/
def rIsX (K : PySem.W.Frag) : List V → Hp → VK → Prop := fun xs H Q => ∃ (a C : Addr) (c : V) (u : Value) (b : Bool), xs = [.ref a, c] ∧ ClsV c u ∧ ((∃ f v, ErrAt H a C f v) ∨ H a = some (ExO (.ref C) a)) ∧ XfC K C ∧ KitC K C ∧
  PySem.W.kitOne K (.ref C) u = some b ∧ Q (.bl b) H
theorem call_isX : CallR X (.builtin "isinstance") (rIsX X.K) := by
  intro pins s σ H xs us Q I r h
  obtain ⟨a, C, c, u, b, rfl, kc, ha, T, Z, e, q⟩ := h
  obtain ⟨u1, u2, rfl, r1, r2⟩ := vals2 r
  obtain rfl : u1 = Value.ref a := r1
  have e2 := kc.eq r2
  subst e2
  rcases ha with ⟨f, v, d, ha, hd⟩ | ha
  · obtain ⟨t1, ho⟩ := exo_at I.hok ha
    obtain ⟨mA, hns, hr⟩ := exd_at I.hok hd
    obtain ⟨od, hod, hl⟩ := lookIn_ns hns
    have J : PySem.W.InstAt s.heap a { cls := .ref C, dict := some d, data := .fields #[.ref t1, .none, .none, .none, .bool false, .none] } C (some od) := ⟨ho, rfl, rfl, hod⟩
    exact PySem.W.kia_one (PySem.W.kitx_exc Z.cl T.ga T.gg T.exC Z.at_ Z.sp Z.tk Z.ob) I.kIn J e (fun z => nomatch z) fun tk => ⟨.bl b, H, I.tok tk, rfl, q⟩
  · obtain ⟨⟨oe, vs, ho, hz, hdt, _⟩, _, _⟩ := I.hok a _ ha
    have J : PySem.W.InstAt s.heap a oe C none := ⟨ho, hz.1, by unfold PySem.W.notCls; rw [hdt] <;> rfl, by rw [hz.2]; exact True.intro⟩
    exact PySem.W.kia_one (PySem.W.kitx_exc Z.cl T.ga T.gg T.exC Z.at_ Z.sp Z.tk Z.ob) I.kIn J e (fun z => nomatch z) fun tk => ⟨.bl b, H, I.tok tk, rfl, q⟩
/-- C(), a class without fields -/
theorem pe_exc0 {bmB : List Value} {B newId initId : String} {x : Str} {p pos : Pos} (F : ExcBaseFacts B newId initId bmB) (q : PySem.W.excIn X.K C bmB newId = true) (gC : X.mg x = some (.ref C)) (kC : PySem.W.keepIn X.K (.ref C) = true) (hg : Gl X x)
    (hdb : (x == ("__debug__" : Str)) = false := by decide) :
    PE X (.Call (.Name x p) [] [] pos) (fun _ H Q => ∀ a, H a = none → Q (.ref a) (upd H a (ExO (.ref C) a))) := by
  refine ⟨fun pins s σ H Q I h => ?_⟩
  refine wpAny_Call_Name_kw (ld_glob I hg gC ?_ hdb)
  refine PySem.W.callWith_K0 I.kIn kC ?_
  obtain ⟨bm, N, nm, qn, bs, hdct, sn, sub, ab, col, dd, k0, k1, k2, k3, k5, mN, hC, hN, hni, T⟩ := exc_obj I.kIn q
  refine wpAny_call_exc_subT F T hC hN hni (fun h' a hm => ?_) (Nat.zero_le _)
  have hn : H a = none := I.hok.gone hm.new
  obtain ⟨t, ht, _, _⟩ := hm.there
  exact ⟨.ref a, upd H a (ExO (.ref C) a), I.laidN hm.keeps hm.new hn (exO_ok ht ⟨rfl, rfl⟩ rfl rfl rfl (show 4 < 6 by decide)), rfl, h a hn⟩
end
end My

namespace My
open PySem PySem.Spec PyProof.Rows L2
/-! ### a class of errors with one field -/
/-- what the written part says of the class at C, called x, with the field f; its __init__ stands at fI -/
structure ErrC (K : PySem.W.Frag) (mg : Str → Option Value) (x f : Str) (C fI : Addr) : Prop where
  gl : mg x = some (.ref C)
  oex : OexC K C
  xf : XfC K C
  kit : KitC K C
  iC : PySem.W.findIn K (.ref C) "__init__" = some (some (.ref fI))
  tI : PySem.W.typeIn K (.ref fI) = some (.type "function")
  no : PySem.W.findIn K (.ref C) f = some none
/-- __init__ of an error: the field is stored -/
def spInit (C : Addr) (f : Str) : Sp := fun vs H Q _ => ∃ (a : Addr) (v : V), vs = [.ref a, v] ∧ H a = some (exo a C none) ∧
  ∀ dx, H dx = none → dx ≠ a → Q .non (upd (upd H dx (exd dx [(f, v)])) a (exo a C (some dx)))
section
variable {P : Program} {w : World} {K : PySem.W.Frag} {mg : Str → Option Value} {base : Heap} {C fI : Addr} {fd : FuncData} {x f : Str}
theorem ok_init {st : Stmt} {qual : Str} (T : ErrC K mg x f C fI) (F : FunD K "__init__" qual (defArgs st) (defBody st) (defScope st) [] [] fI fd) (S : FnScope ["self", f] ["self", f] (defScope st))
    (hb : ∃ q1 q2 q3 q4, defBody st = [.Assign [.Attribute (.Name "self" q1) f q2] (.Name f q3) q4]) (d1 : (f == ("__debug__" : Str)) = false) (d2 : (f == ("__classdict__" : Str)) = false) :
    FnOk P w K mg base CX0 1 fI fd ["self", f] (spInit C f) := by
  obtain ⟨q1, q2, q3, q4, hb⟩ := hb
  refine F.ok S (fun vs H Q E h => ?_) (fun cdv A outer s H vs Q E hr h => ⟨_, PSs.nox (by
    rw [hb]
    exact pss_one (ps_ost (pe_var (i := 0) rfl (vis_par S List.mem_cons_self)) (pe_var (i := 1) rfl (vis_par S (List.mem_cons_of_mem _ List.mem_cons_self)) d1 d2))), ?_⟩)
  · obtain ⟨a, v, rfl, _⟩ := h
    rfl
  · obtain ⟨a, v, rfl, ha, q⟩ := h
    exact ⟨_, rfl, _, rfl, a, C, rfl, T.oex, T.no, .inl ⟨ha, fun dx n ne => q dx n ne⟩⟩
/-- all that a caller wants of such a class -/
def Er (P : Program) (w : World) (K : PySem.W.Frag) (mg : Str → Option Value) (base : Heap) (x f : Str) (C : Addr) : Prop := ∃ (fI : Addr) (fd : FuncData), ErrC K mg x f C fI ∧ FnOk P w K mg base CX0 1 fI fd ["self", f] (spInit C f) ∧
  Binds K fd ["self", f] [] ∧ ∀ (s : Shared) (u v : Value), K.In s.heap → BindsTo s fd ⟨[u], [(f, v)]⟩ ((["self", f] : List Str).zip [u, v])
/-- C(e), C(f = e) as values -/
def tEr (C : Addr) (f : Str) (te : TE) : TE := fun σ H Q => te σ H fun v H1 => ∀ a H', H1 a = none → Ext H1 H' → ErrAt H' a C f v → Q (.ref a) H'
theorem tEr_of {C : Addr} {f : Str} {v : V} {H : Hp} {Q : VK} (h : ∀ a H', H a = none → Ext H H' → ErrAt H' a C f v → Q (.ref a) H') {a : Addr} (ha : H a = none) :
    spInit C f [.ref a, v] (upd H a (exo a C none)) (fun z H2 => z = .non ∧ Q (.ref a) H2) E0 := by
  refine ⟨a, v, rfl, upd_same, fun dx n ne => ⟨rfl, ?_⟩⟩
  have hn : H dx = none := by
    rw [upd_ne ne] at n
    exact n
  refine h a _ ha (fun b o e => ?_) ⟨dx, upd_same, ?_⟩
  · rw [upd_ne (ne_of_none e ha), upd_ne (ne_of_none e hn), upd_ne (ne_of_none e ha)]
    exact e
  · rw [upd_ne ne, upd_same]
end
section
variable {X : Cx} {x f : Str} {C : Addr} {e : Expr} {te : TE} {p pos kpos : Pos}
theorem pe_er (E : Er X.prog X.w X.K X.mg X.base x f C) (hr : Room 2 X.A) (he : PE X e te) (hg : Gl X x := by rfl) (hdb : (x == ("__debug__" : Str)) = false := by decide)
    (h1 : starEach [e] X.env = (false, eval e X.env) :: starEach [] X.env := by rfl) (h2 : (backTo pos (starEach [] X.env)).any (·.1) = false := by rfl) :
    PE X (.Call (.Name x p) [e] [] pos) (tEr C f te) := by
  obtain ⟨fI, fd, T, F, b, _⟩ := E
  refine ⟨fun pins s σ H Q I h => ?_⟩
  refine wpAny_Call_Name_kw (ld_glob I hg T.gl ?_ hdb)
  refine PySem.W.callWith_K (h₀ := X.base) I.ok.mod.kin T.oex.kC ?_ h1 h2
  have ha : PA X [e] (tCons te tNil) := pa_cons he pa_nil h1
  refine thn (ha.run pos pins s σ H (fun vs H1 => match vs with | [v] => ∀ a H', H1 a = none → Ext H1 H' → ErrAt H' a C f v → Q (.ref a) H' | _ => False) I h) fun us s1 ⟨vs, H1, I1, r1, q1⟩ => ⟨I1.kIn, ?_⟩
  cases r1 with
  | nil => exact False.elim q1
  | cons rv rn =>
    cases rn with
    | cons _ _ => exact False.elim q1
    | nil =>
      refine run_err T.oex T.iC T.tI F hr pass0 (fun s a KX => b s [Value.ref a, _] KX rfl) (show 1 ≤ 1000 by decide) I1 (.cons rv .nil) fun a ha => tEr_of q1 ha
theorem pe_erK (E : Er X.prog X.w X.K X.mg X.base x f C) (hr : Room 2 X.A) (he : PE X e te) (hg : Gl X x := by rfl) (hdb : (x == ("__debug__" : Str)) = false := by decide)
    (hall : (backToKw pos (keywordEach [⟨some f, e, kpos⟩] X.env)).all (·.1.isSome) = true := by rfl) (hks : (backToKw pos (keywordEach [⟨some f, e, kpos⟩] X.env)).filterMap (·.1) = [f] := by rfl)
    (hpl : ((backTo pos (starEach [] X.env)).any (·.1) || (backToKw pos (keywordEach [⟨some f, e, kpos⟩] X.env)).any (·.1.isNone)) = false := by rfl) :
    PE X (.Call (.Name x p) [] [⟨some f, e, kpos⟩] pos) (tEr C f te) := by
  obtain ⟨fI, fd, T, F, _, b⟩ := E
  refine ⟨fun pins s σ H Q I h => ?_⟩
  refine wpAny_Call_Name_kw (ld_glob I hg T.gl ?_ hdb)
  refine PySem.W.callWith_KW0 (h₀ := X.base) I.ok.mod.kin T.oex.kC hall ?_ hpl
  have ha : PK X [⟨some f, e, kpos⟩] (tCons te tNil) := pk_cons he pk_nil
  refine thn (ha.run pos pins s σ H (fun vs H1 => match vs with | [v] => ∀ a H', H1 a = none → Ext H1 H' → ErrAt H' a C f v → Q (.ref a) H' | _ => False) I h) fun us s1 ⟨vs, H1, I1, r1, q1⟩ => ⟨I1.kIn, ?_⟩
  rw [hks]
  cases r1 with
  | nil => exact False.elim q1
  | cons rv rn =>
    cases rn with
    | cons _ _ => exact False.elim q1
    | nil => exact run_err (us := []) T.oex T.iC T.tI F hr pass0 (fun s a KX => b s _ _ KX) (by decide) I1 (.cons rv .nil) fun a ha => tEr_of q1 ha
end
/-! ### many errors at once -/
def AllErr (H : Hp) (v : V) : List Addr → List (Addr × Str) → Prop
  | [], [] => True
  | a :: as, c :: cs => ErrAt H a c.1 c.2 v ∧ AllErr H v as cs
  | _, _ => False
theorem AllErr.ext {H H' : Hp} {v : V} (x : Ext H H') : ∀ {as : List Addr} {cs : List (Addr × Str)}, AllErr H v as cs → AllErr H' v as cs
  | [], [], _ => True.intro
  | a :: as, c :: cs, h => ⟨h.1.ext x, AllErr.ext x h.2⟩
  | [], _ :: _, h => h.elim
  | _ :: _, [], h => h.elim
theorem AllErr.len {H : Hp} {v : V} : ∀ {as : List Addr} {cs : List (Addr × Str)}, AllErr H v as cs → as.length = cs.length
  | [], [], _ => rfl
  | a :: as, c :: cs, h => by rw [List.length_cons, List.length_cons, AllErr.len h.2]
  | [], _ :: _, h => h.elim
  | _ :: _, [], h => h.elim
theorem AllErr.app {H : Hp} {v : V} : ∀ {as bs : List Addr} {cs ds : List (Addr × Str)}, AllErr H v as cs → AllErr H v bs ds → AllErr H v (as ++ bs) (cs ++ ds)
  | [], _, [], _, _, k => k
  | a :: as, _, c :: cs, _, h, k => ⟨h.1, AllErr.app h.2 k⟩
  | [], _, _ :: _, _, h, _ => h.elim
  | _ :: _, _, [], _, h, _ => h.elim
theorem AllErr.at_ {H : Hp} {v : V} : ∀ {as : List Addr} {cs : List (Addr × Str)} {i : Nat} {c : Addr × Str}, AllErr H v as cs → cs[i]? = some c → ∃ a, as[i]? = some a ∧ ErrAt H a c.1 c.2 v
  | [], [], _, _, _, e => by simp at e
  | a :: as, c :: cs, 0, _, h, e => ⟨a, rfl, by cases e; exact h.1⟩
  | a :: as, c :: cs, i + 1, _, h, e => AllErr.at_ (i := i) h.2 e
  | [], _ :: _, _, _, h, _ => h.elim
  | _ :: _, [], _, _, h, _ => h.elim
def tErL : List (Addr × Str) → TE → TA
  | [], _ => tNil
  | c :: cs, te => tCons (tEr c.1 c.2 te) (tErL cs te)
theorem erL_run {i : Nat} {σ : L2.St} {v : V} (hi : σ[i]? = some (some v)) : ∀ (cs : List (Addr × Str)) (H : Hp) (Q : List V → Hp → Prop), (∀ as H', Ext H H' → AllErr H' v as cs → Q (as.map V.ref) H') → tErL cs (tVar i) σ H Q
  | [], H, Q, h => h [] H Ext.rfl' True.intro
  | c :: cs, H, Q, h => ⟨v, hi, fun a H1 _ x1 e1 => erL_run hi cs H1 _ fun as H2 x2 e2 => h (a :: as) H2 (x1.trans x2) ⟨e1.ext x2, e2⟩⟩
end My

namespace PySem
namespace MyD
open PySem.W Builtin
section
variable {prog : Program} {w : World} {A : Around} {E : Value → Shared → Prop} {s : Shared} {K : Frag} {x C f : Addr} {ox : Obj} {od : Option Obj}
/-- y in x, x an instance with an own __contains__ -/
theorem contains_own {M : Model} {y : Value} {Q : Bool → Shared → Prop} (X : K.In s.heap) (I : InstAt s.heap x ox C od) (hs : findIn K (.ref C) "__contains__" = some (some (.ref f))) (hf : isFn K (.ref f) = true)
    (h : wpAny M A (call (.ref f) [.ref x, y]) (fun r s' => ∃ b, r = .bool b ∧ Q b s') E s) : wpAny M A (contains (.ref x) y) Q E s := by
  have body : wpAny M A (callSpecialUnlessNone? (.ref x) "__contains__" [y] (do rule "in.none"; raiseError "TypeError" s!"'{← typeNameOf (.ref x)}' object is not a container")) (fun r s' => ∃ b, r = some (.bool b) ∧ Q b s') E s := by
    unfold callSpecialUnlessNone?
    refine wpAny_bind (wpAny_bind (I.type.here ((looks_findIn X hs).here ?_)))
    refine wpAny_holding (wpAny_bind ((bind_fn X _ (beq_iff_eq.mp hf)).here ?_))
    refine wpAny_bind (wpAny_mono h (fun r s' hr => ?_) fun _ _ e => e)
    obtain ⟨b, rfl, q⟩ := hr
    exact wpAny_pure ⟨b, rfl, q⟩
  unfold contains
  refine wpAny_holding ?_
  refine wpAny_bind (wpAny_bind (I.type.here ((looks_findIn X hs).here ?_)))
  rw [if_neg (show ¬ (some (Value.ref f) == some Value.none) = true from Bool.false_ne_true)]
  refine wpAny_bind (wpAny_mono body (fun r s' hr => ?_) fun _ _ e => e)
  obtain ⟨b, rfl, q⟩ := hr
  exact wpAny_truthy_bool q
/-- x != b, the class of x with an own __eq__ and object's __ne__ -/
theorem ne_own {b tb : Value} {Q : Value → Shared → Prop} (hu : A.units + 1 < cLine) (X : K.In s.heap) (I : InstAt s.heap x ox C od) (hb : Looks (model prog w) s.heap (typeOf b) tb) (hn : notFirst K C tb = true)
    (hne : findIn K (.ref C) "__ne__" = some (some (.builtin "object.__ne__"))) (hob : mroIn K C (.type "object") = some true) (hs : findIn K (.ref C) "__eq__" = some (some (.ref f))) (hf : isFn K (.ref f) = true)
    (h : wpAny (model prog w) A.in1 (call (.ref f) [.ref x, b]) (fun r s' => ∃ k, r = .bool k ∧ Q (.bool (!k)) s') E s) : wpAny (model prog w) A (richCompare .NotEq (.ref x) b) Q E s := by
  have sub : Looks (model prog w) s.heap (isInstance (.ref x) (.type "object")) true := I.type.andThen (looks_mroIn X hob)
  have go : wpAny (model prog w) A (call (.builtin "object.__ne__") ([.ref x] ++ [b])) (fun v s' => ∃ k, v = .bool (!k) ∧ Q (.bool (!k)) s') E s := by
    show wpAny _ _ (call (.builtin "object.__ne__") [.ref x, b]) _ _ _
    refine wpAny_call (codeAny_call_builtin F.cmp_object.ne.plain F.cmpEntry_ne ?_)
    refine check_slot F.cmpKind_ne F.cmpSplit_ne sub (F.cmpArgs_ne _ _) ?_
    unfold Builtin.«object.__ne__»
    refine wpAny_bind (wpAny_of_eq (a := ((Value.ref x : Value), [b])) (by first | rfl | (simp only [slotArgs]; rfl)) ?_)
    refine wpAny_bind (wpAny_cRoomFor hu ?_)
    refine wpAny_bind (ifBound_K X I hs hf (wpAny_mono h (fun v s' hv => ?_) fun _ _ e => e))
    obtain ⟨k, rfl, q⟩ := hv
    refine wpAny_bind (wpAny_truthy_bool ?_)
    exact wpAny_pure ⟨k, rfl, q⟩
  have bnd : wpAny (model prog w) A (callSpecialIfBound? (.ref x) "__ne__" [b]) (fun r s' => ∃ k, r = some (.bool (!k)) ∧ Q (.bool (!k)) s') E s := by
    simp only [callSpecialIfBound?, bindSpecialIfBound?]
    refine wpAny_holding (wpAny_bind (wpAny_bind (wpAny_bind (I.type.here ((looks_findIn X hne).here ?_)))))
    refine wpAny_bind (wpAny_askSetting (wpAny_ite ?_))
    have fin : wpAny (model prog w) A (call (.builtin "object.__ne__") ([.ref x] ++ [b]) >>= fun v => pure (some v)) (fun r s' => ∃ k, r = some (.bool (!k)) ∧ Q (.bool (!k)) s') E s := by
      refine wpAny_bind (wpAny_mono go (fun v s' hv => ?_) fun _ _ e => e)
      obtain ⟨k, rfl, q⟩ := hv
      exact wpAny_pure ⟨k, rfl, q⟩
    split
    · exact wpAny_bind (wpAny_of_eq (F.cmp_object.ne.bind _) (wpAny_pure (by exact fin)))
    · exact wpAny_tryCatch (wpAny_bind (wpAny_of_eq (F.cmp_object.ne.bind _) (wpAny_pure (by exact fin))))
  have one : wpAny (model prog w) A (tryCompare (.ref x) "__ne__" b) (fun r s' => ∃ v, r = some v ∧ Q v s') E s := by
    unfold tryCompare
    refine wpAny_bind (wpAny_mono bnd (fun r s' hv => ?_) fun _ _ e => e)
    obtain ⟨k, rfl, q⟩ := hv
    exact wpAny_pure ⟨_, rfl, q⟩
  unfold richCompare
  simp only [oneThing_ref]
  refine wpAny_holding (wpAny_bind (wpAny_cRoomFor (by omega) ?_))
  refine wpAny_bind (I.type.here (wpAny_bind (hb.here ?_)))
  split
  · rename_i q
    have e : subIn K tb (.ref C) = some false := by
      rcases Bool.or_eq_true_iff.mp hn with e | e
      · rw [beq_iff_eq.mp e] at q
        simp at q
      · exact beq_iff_eq.mp e
    refine wpAny_bind ((looks_subIn X e).here ?_)
    simp only [Bool.false_eq_true, if_false]
    refine wpAny_bind (wpAny_mono one (fun r s' z => ?_) fun _ _ e => e)
    obtain ⟨v, rfl, hq⟩ := z
    exact wpAny_pure hq
  · refine wpAny_bind (wpAny_pure ?_)
    simp only [Bool.false_eq_true, if_false]
    refine wpAny_bind (wpAny_mono one (fun r s' z => ?_) fun _ _ e => e)
    obtain ⟨v, rfl, hq⟩ := z
    exact wpAny_pure hq
end
end MyD
end PySem

namespace L2
open PySem PySem.Spec PyProof.Rows
/-! ### own operators, run -/
section
variable {X : Cx} {pins : List (Addr × Obj)} {σ : St} {H : Hp} {s : Shared} {CI : CXT} {f : Addr} {fd : FuncData} {ps : List Str} {sp : Sp} {EI : XK} {n : Nat} {A1 : Around}
theorem envSub (I : Inv X pins σ H s) (sb : Sub X n A1) : Env0 X.prog X.w X.K X.mg X.base A1 X.stack s H := by
  have e := I.env0
  exact ⟨by rw [sb.fr]; exact e.frames, e.mod, e.bs, e.bsz, e.funs, e.frf, e.hok, e.bare⟩
theorem rv2 (a : Addr) {y : V} {u : Value} (r : RelV y u) : Vals [V.ref a, y] [Value.ref a, u] := .cons rfl (.cons r .nil)
/-- a known def runs somewhere below the body -/
theorem run_sub {xs : List V} {us : List Value} {Q : VK} {base : Heap} (sb : Sub X n A1) (F : FnOk X.prog X.w X.K X.mg base CI n f fd ps sp) (e0 : Env0 X.prog X.w X.K X.mg base A1 X.stack s H) (hb : Binds X.K fd ps []) (hx : Passes CI X EI)
    (I : Inv X pins σ H s) (rv : Vals xs us) (hsp : sp xs H Q EI) : wpAny (model X.prog X.w) A1 (call (.ref f) us) (EP X pins σ Q) X.xe s := by
  have hl := F.len _ _ _ _ hsp
  have hl' : us.length = ps.length := by rw [← rv.length]; exact hl
  refine wpAny_call (codeAny_mono (F.run A1 X.stack s H ⟨us, []⟩ us xs Q EI sb.room e0 (by
    have := hb s us I.kIn (by simpa using hl')
    simpa using this) rv hsp) fun r s' hq => ?_)
  cases r with
  | error e => exact hx pins σ H s e s' I hq
  | ok fl =>
    cases fl with
    | ret u => exact I.after hq
    | next => exact False.elim hq
    | brk => exact False.elim hq
    | cont => exact False.elim hq
/-- a method under its name -/
structure OwnM (K : PySem.W.Frag) (C : Addr) (m : Str) (f : Addr) : Prop where
  at_ : PySem.W.findIn K (.ref C) m = some (some (.ref f))
  fn : PySem.W.isFn K (.ref f) = true
/-- x in o -/
def rInO (C : Addr) (sp : Sp) (E : XK) : R2 := fun x y H Q => ∃ a dx fs, y = .ref a ∧ H a = some (.ins C dx fs) ∧ sp [.ref a, x] H (fun v H' => ∃ b, v = .bl b ∧ Q (.bl b) H') E
theorem op_inO {C : Addr} (hr : Room n X.A) (M : OwnM X.K C "__contains__" f) (F : FnOk X.prog X.w X.K X.mg X.base CI n f fd ps sp) (hb : Binds X.K fd ps []) (hx : Passes CI X EI) : OpR X (compareOp .In) (rInO C sp EI) := by
  intro pins s σ H x y v u Q I rx ry h
  obtain ⟨a, dx, fs, rfl, ha, hsp⟩ := h
  cases ry
  obtain ⟨mA, J, _⟩ := ins_get I.hok ha
  obtain ⟨od, J, _⟩ := J.look
  show wpAny _ _ (contains (.ref a) v >>= fun z => pure (Value.bool z)) _ _ s
  refine wpAny_bind (wpAny_mono (MyD.contains_own (Q := fun b s' => EP X pins σ Q (.bool b) s') I.kIn J M.at_ M.fn ?_) (fun b s' hb => wpAny_pure hb) fun _ _ z => z)
  refine wpAny_mono (run_sub ⟨hr, rfl⟩ F (envSub I ⟨hr, rfl⟩) hb hx I (rv2 a rx) hsp) (fun w s' hq => ?_) fun _ _ z => z
  obtain ⟨z, H', I', rz, b, rfl, q⟩ := hq
  cases rz
  exact ⟨b, rfl, .bl b, H', I', rfl, q⟩
/-- o == y, o an instance with its own __eq__, y anything whose type is not one below o's class -/
def rEqO (K : PySem.W.Frag) (C : Addr) (sp : Sp) (E : XK) : R2 := fun x y H Q => ∃ a dx fs t, x = .ref a ∧ H a = some (.ins C dx fs) ∧ TyX K H y t ∧ PySem.W.notFirst K C t = true ∧ sp [.ref a, y] H (fun v H' => ∃ b, v = .bl b ∧ Q (.bl b) H') E
theorem op_eqO {C : Addr} (hr : Room n X.A) (M : OwnM X.K C "__eq__" f) (F : FnOk X.prog X.w X.K X.mg X.base CI n f fd ps sp) (hb : Binds X.K fd ps []) (hx : Passes CI X EI) : OpR X (compareOp .Eq) (rEqO X.K C sp EI) := by
  intro pins s σ H x y v u Q I rx ry h
  obtain ⟨a, dx, fs, t, rfl, ha, ty, nf, hsp⟩ := h
  cases rx
  obtain ⟨mA, J, _⟩ := ins_get I.hok ha
  obtain ⟨od, J, _⟩ := J.look
  obtain ⟨m, hF⟩ := I.fr
  obtain ⟨P, Z, p, hx'⟩ := kit_of I ry ty
  show wpAny _ _ (richCompare .Eq (.ref a) u) _ _ _
  refine PySem.W.cmp_K (op := .Eq) (tb := t) hr.units0 hF I.ok.mod.kin J (Z.ty _ _ I.kIn p) nf M.at_ M.fn ?_
  refine wpAny_mono (run_sub ⟨hr, rfl⟩ F (envSub I ⟨hr, rfl⟩) hb hx I (rv2 a ry) hsp) (fun w s' hq => ?_) fun _ _ z => z
  obtain ⟨z, H', I', rz, b, rfl, q⟩ := hq
  cases rz
  exact ⟨.bl b, H', I', rfl, q⟩
/-- o != y -/
def rNeO (K : PySem.W.Frag) (C : Addr) (sp : Sp) (E : XK) : R2 := fun x y H Q => ∃ a dx fs t, x = .ref a ∧ H a = some (.ins C dx fs) ∧ TyX K H y t ∧ PySem.W.notFirst K C t = true ∧ sp [.ref a, y] H (fun v H' => ∃ b, v = .bl b ∧ Q (.bl (!b)) H') E
theorem op_neO {C : Addr} (hr : Room (n + 1) X.A) (M : OwnM X.K C "__eq__" f) (hne : PySem.W.findIn X.K (.ref C) "__ne__" = some (some (.builtin "object.__ne__"))) (hob : PySem.W.mroIn X.K C (.type "object") = some true)
    (F : FnOk X.prog X.w X.K X.mg X.base CI n f fd ps sp) (hb : Binds X.K fd ps []) (hx : Passes CI X EI) : OpR X (compareOp .NotEq) (rNeO X.K C sp EI) := by
  intro pins s σ H x y v u Q I rx ry h
  obtain ⟨a, dx, fs, t, rfl, ha, ty, nf, hsp⟩ := h
  cases rx
  obtain ⟨mA, J, _⟩ := ins_get I.hok ha
  obtain ⟨od, J, _⟩ := J.look
  obtain ⟨P, Z, p, hx'⟩ := kit_of I ry ty
  have sb : Sub X n X.A.in1 := Sub.in1 (⟨hr, rfl⟩ : Sub X (n + 1) X.A)
  show wpAny _ _ (richCompare .NotEq (.ref a) u) _ _ _
  refine MyD.ne_own (by have := hr.un; omega) I.kIn J (Z.ty _ _ I.kIn p) nf hne hob M.at_ M.fn ?_
  refine wpAny_mono (run_sub sb F (envSub I sb) hb hx I (rv2 a ry) hsp) (fun w s' hq => ?_) fun _ _ z => z
  obtain ⟨z, H', I', rz, b, rfl, q⟩ := hq
  cases rz
  exact ⟨b, rfl, .bl (!b), H', I', rfl, q⟩
/-- len(o) -/
def rLenO (C : Addr) (sp : Sp) (E : XK) : List V → Hp → VK → Prop := fun xs H Q => ∃ a dx fs, xs = [.ref a] ∧ H a = some (.ins C dx fs) ∧ sp [.ref a] H (fun v H' => ∃ k : Int, v = .int k ∧ 0 ≤ k ∧ k < 2 ^ 63 ∧ Q (.int k) H') E
theorem call_lenO {C : Addr} (hr : Room (n + 1) X.A) (M : OwnM X.K C "__len__" f) (F : FnOk X.prog X.w X.K X.mg X.base CI n f fd ps sp) (hb : Binds X.K fd ps []) (hx : Passes CI X EI) : CallR X (.builtin "len") (rLenO C sp EI) := by
  intro pins s σ H xs us Q I rv h
  obtain ⟨a, dx, fs, rfl, ha, hsp⟩ := h
  obtain ⟨u, rfl, ru⟩ := rv.one
  cases ru
  obtain ⟨mA, J, _⟩ := ins_get I.hok ha
  obtain ⟨od, J, _⟩ := J.look
  obtain ⟨m, hF⟩ := I.fr
  have sb : Sub X n X.A.in1 := Sub.in1 (⟨hr, rfl⟩ : Sub X (n + 1) X.A)
  refine PySem.W.len_K hF I.ok.mod.kin J M.at_ M.fn ?_
  refine wpAny_mono (run_sub sb F (envSub I sb) hb hx I rv hsp) (fun w s' hq => ?_) fun _ _ z => z
  obtain ⟨z, H', I', rz, k, rfl, k0, k1, q⟩ := hq
  obtain ⟨t, rfl⟩ := rz
  exact ⟨⟨k0, k1⟩, .int k, H', I'.tok _, ⟨_, rfl⟩, q⟩
end
end L2

namespace L2
open PySem PySem.Spec PyProof.Rows
/-! ### a base with room behind it: what is not in it is young -/
def deadO : Obj := ⟨.none, none, .freed, #[]⟩
def padB (h : Heap) (n : Nat) : Heap := ⟨h.objs ++ Array.replicate n deadO, h.life⟩
theorem padB_get (h : Heap) (n : Nat) (b : Addr) : (padB h n).get? b = h.get? b := by
  by_cases k : b < h.objs.size
  · have e : (padB h n).objs[b]? = h.objs[b]? := by show (h.objs ++ Array.replicate n deadO)[b]? = _; rw [Array.getElem?_append_left k]
    unfold Heap.get?
    rw [e]
  · have e : h.get? b = none := by
      unfold Heap.get?
      rw [Array.getElem?_eq_none (Nat.le_of_not_lt k)]
    rw [e]
    unfold Heap.get?
    have e2 : (padB h n).objs[b]? = (Array.replicate n deadO)[b - h.objs.size]? := by
      show (h.objs ++ Array.replicate n deadO)[b]? = _
      rw [Array.getElem?_append_right (Nat.le_of_not_lt k)]
    rw [e2, Array.getElem?_replicate]
    split
    · rename_i q
      split at q
      · cases q; rfl
      · cases q
    · rename_i q
      split at q
      · exact absurd rfl (q _ _ _)
      · rw [if_neg (by assumption)]
theorem padB_size (h : Heap) (n : Nat) : (padB h n).objs.size = h.objs.size + n := by
  show (h.objs ++ Array.replicate n deadO).size = _
  rw [Array.size_append, Array.size_replicate]
theorem padB_keeps (h : Heap) (n : Nat) : ∀ b o, h.get? b = some o → (padB h n).get? b = some o := fun b o e => by rw [padB_get]; exact e
theorem Mod.pad {K : PySem.W.Frag} {mg : Str → Option Value} {base : Heap} (m : Mod K mg base) (n : Nat) : Mod K mg (padB base n) :=
  ⟨fun a o e => padB_keeps _ _ _ _ (m.kin a o e), m.glob.keeps (padB_keeps _ _), m.blt.elim fun mb h => ⟨mb, h.1.keeps (padB_keeps _ _), h.2⟩, m.nolimit.keeps (padB_keeps _ _)⟩
theorem funFrames_pad {h base : Heap} (n : Nat) : ∀ {l : List Env}, h.FunFrames base l → h.FunFrames (padB base n) l
  | [], _ => True.intro
  | _ :: _, ⟨a, ⟨L, o, e1, e2, e3⟩, r⟩ => ⟨a, ⟨L, o, e1, by rw [padB_get]; exact e2, e3⟩, funFrames_pad n r⟩
theorem Env0.pad {P : Program} {w : World} {K : PySem.W.Frag} {mg : Str → Option Value} {base : Heap} {A : Around} {outer : List Env} {s : Shared} {H : Hp} (e : Env0 P w K mg base A outer s H) {n : Nat} (hn : base.objs.size + n ≤ s.heap.objs.size) :
    Env0 P w K mg (padB base n) A outer s H := ⟨e.frames, e.mod.pad n, fun b o q => e.bs b o (by rw [padB_get] at q; exact q), by rw [padB_size]; exact hn, funFrames_pad n e.funs, e.frf, e.hok, e.bare⟩
/-! ### iter(tuple) as a value -/
def itT (l : Addr) (i : Nat) : Obj := { cls := .type "tuple_iterator", data := .fields #[.ref l, .int i 0] }
def ItoT (l it : Addr) : HO := .ext fun h => h.get? it = some (itT l 0)
theorem itoT_ok {P : Program} {w : World} {H : Hp} {h : Heap} {l it : Addr} (e : h.get? it = some (itT l 0)) : ObjOk P w H h it (ItoT l it) := ⟨e, ⟨_, e⟩, fun h1 h2 q k => k _ q⟩
def rIterT (K : PySem.W.Frag) (n : Nat) : List V → Hp → VK → Prop := fun xs H Q => ∃ (l : Addr) (zs : List V), xs = [.ref l] ∧ SqT K H l zs ∧ ∀ it, H it = Option.none → n ≤ it → Q (.ref it) (upd H it (ItoT l it))
section
variable {X : Cx} {pins : List (Addr × Obj)} {σ : St} {H : Hp} {s : Shared}
theorem call_iter_tup {prog : Program} {w : World} {A : Around} {E : Value → Shared → Prop} {l : Addr} {items : Array Value} {Q : Value → Shared → Prop} (hl : s.heap.IsTuple l items) (h : Q (.ref s.heap.objs.size) { s with heap := s.heap.push (itT l 0) }) : wpAny (model prog w) A (call (.builtin "iter") [.ref l]) Q E s := by
  refine Calls.call_function_entry (by decide +kernel) (by decide +kernel) PySem.W.kdk_entry_iter (PySem.W.kdk_args_iter _) ?_
  unfold Builtin.«iter»
  refine wpAny_bind (m := someArgs "iter" 1 2 _) (wpAny_of_eq (a := [Value.ref l]) (by first | rfl | kernel_rfl!) ?_)
  show wpAny _ _ (pyIter (.ref l) >>= _) _ _ _
  refine wpAny_bind (wpAny_pyIter_tuple hl ?_)
  exact wpAny_pure ⟨_, rfl, h⟩
theorem call_iterT : CallR X (.builtin "iter") (rIterT X.K X.base.objs.size) := by
  intro pins s σ H xs us Q I r h
  obtain ⟨l, zs, rfl, hq, q⟩ := h
  obtain ⟨u, rfl, ru⟩ := vals1 r
  cases ru
  obtain ⟨its, rv, pl, hz⟩ := I.tuple hq
  refine call_iter_tup (show s.heap.IsTuple l its.toArray from pl) ?_
  exact ⟨.ref s.heap.objs.size, _, I.laid (t' := s.toks) (fun b u e => Heap.get?_push_of_some _ e) (Nat.le_refl _) (itoT_ok (Heap.get?_push_size _ rfl)), rfl, q _ (I.hok.fresh (Nat.le_refl _)) (Nat.le_trans I.ok.bsz I.sz)⟩
theorem rv1 (a : Addr) : Vals [V.ref a] [Value.ref a] := .cons rfl .nil
/-! ### walked: an instance whose __iter__ gives iter(tuple) -/
/-- what __iter__ promises: N of the instance is a tuple at l -/
def spIter (K : PySem.W.Frag) (C : Addr) (N : Str) (n : Nat) : Sp := fun vs H Q _ => ∃ a dx fs l zs, vs = [.ref a] ∧ H a = some (.ins C dx fs) ∧ fs.lookup N = some (.ref l) ∧ SqT K H l zs ∧ ∀ it, H it = none → n ≤ it → Q (.ref it) (upd H it (ItoT l it))
def iOwn (K : PySem.W.Frag) (C : Addr) (N : Str) (te : TE) : TI := fun σ H R => te σ H fun x H1 => ∃ a dx fs l zs, x = .ref a ∧ H1 a = some (.ins C dx fs) ∧ fs.lookup N = some (.ref l) ∧ SqT K H1 l zs ∧ R (Itt K l) H1
variable {tg e : Expr} {te : TE} {C f : Addr} {fd : FuncData} {N : Str} {ps : List Str} {n : Nat}
theorem pi_own (hr : Room n X.A) (M : OwnM X.K C "__iter__" f) (Fi : ∀ base, FnOk X.prog X.w X.K X.mg base CX0 n f fd ps (spIter X.K C N base.objs.size)) (hb : Binds X.K fd ps []) (he : PE X e te) : PI X tg e (iOwn X.K C N te) := by
  refine ⟨fun pins s σ H R I h => ?_⟩
  refine thn (he.run pins s σ H _ I h) fun v s1 ⟨x, H1, I1, r1, q1⟩ => ?_
  obtain ⟨a, dx, fs, l, zs, rfl, ha, hf, hl, q⟩ := q1
  cases r1
  obtain ⟨mA, J, _⟩ := ins_get I1.hok ha
  obtain ⟨od, J, _⟩ := J.look
  obtain ⟨m, hF⟩ := I1.fr
  have sb : Sub X n X.A := ⟨hr, rfl⟩
  refine PySem.W.owit_iter hF I1.ok.mod.kin J M.at_ M.fn ?_
  have hsz : X.base.objs.size + (X.s_0.heap.objs.size - X.base.objs.size) = X.s_0.heap.objs.size := by have := I1.ok.bsz; omega
  have e0 := (envSub I1 sb).pad (n := X.s_0.heap.objs.size - X.base.objs.size) (by rw [hsz]; exact I1.sz)
  refine wpAny_mono (run_sub (Q := fun v H' => ∃ it, v = .ref it ∧ H1 it = none ∧ X.s_0.heap.objs.size ≤ it ∧ H' = upd H1 it (ItoT l it)) sb (Fi _) e0 hb (EI := fun _ _ _ => False) pass0 I1 (rv1 a) ⟨a, dx, fs, l, zs, rfl, ha, hf, hl, fun it h1 h2 => ⟨it, rfl, h1, by rw [padB_size, hsz] at h2; exact h2, rfl⟩⟩) (fun w s' hq => ?_) fun _ _ z => z
  obtain ⟨z, H', I', rz, it, rfl, hn, hy, rfl⟩ := hq
  cases rz
  have hit : upd H1 it (ItoT l it) it = some (ItoT l it) := upd_same
  have eo : s'.heap.get? it = some (itT l 0) := (I'.hok it _ hit).1
  have st : s'.heap.IsTupleIter it l 0 := ⟨_, eo, rfl, rfl⟩
  unfold PySem.W.OwitIt
  refine wpAny_specialOf st.typeIs PySem.F.slot_tuple_iterator_next.lookup ?_
  have hd : ItX.dropH (upd H1 it (ItoT l it)) it = H1 := ItX.dropH_upd hn
  have I2 := ItX.inv_drop I' (a := it) (φ := fun h => h.get? it = some (itT l 0)) hit
  have fp := ItX.inv_fp I' hit hy
  rw [hd] at I2 fp
  refine ⟨it, [it], _, _, H1, rfl, I2, turn_tuple l it, st, fun b hb => ?_, q⟩
  have e : b = it := by simpa using hb
  rw [e]
  exact fp
end
end L2

namespace PySem
namespace MyE
open PySem.W
/-- enumerate(v), one argument -/
theorem new1 {v : Value} {o : Obj} {H : Heap → Prop} (B : Begins v o H) :
    Meets (Builtin.«enumerate.__new__» ⟨[.type "enumerate", v], []⟩) (fun _ R s => H s.heap ∧
      R (.ok (.ret (.ref (s.heap.push o).objs.size))) { s with heap := (s.heap.push o).push { cls := .type "enumerate", data := .fields #[.none, .bool false, .ref s.heap.objs.size, rawInt 0, .none, .none] } }) :=
  .of_wp fun P1 w1 A1 R1 s1 z => by
    obtain ⟨hp, gs, dr, tk, oz⟩ := s1
    obtain ⟨z1, z2⟩ := z
    have subE := sub_enumerate
    have its : ∀ {A' : Around} {E : Value → Shared → Prop} {Q : Value → Shared → Prop}, Q (.ref hp.objs.size) ⟨hp.push o, gs, dr, tk, oz⟩ → wpAny (model P1 w1) A' (pyIter v) Q E ⟨hp, gs, dr, tk, oz⟩ :=
      fun q => B.iter P1 w1 _ _ ⟨hp, gs, dr, tk, oz⟩ _ z1 q
    wp_walk using its
    refine wpAny_stack_any fun _ => wpAny_pure ?_
    split
    · rename_i c _ _ _ _ _
      cases (c == Value.type "enumerate") <;> (wp_walk using its; exact ⟨_, rfl, z2⟩)
    · wp_walk using its
      exact ⟨_, rfl, z2⟩
theorem call1 {prog : Program} {w : World} {A : Around} {E : Value → Shared → Prop} {s : Shared} {v : Value} {o : Obj} {H : Heap → Prop} {Q : Value → Shared → Prop} (B : Begins v o H) (h1 : H s.heap)
    (h : ∀ h', IsEnum h' (s.heap.objs.size + 1) s.heap.objs.size 0 .none → h'.get? s.heap.objs.size = some o → (∀ b u, s.heap.get? b = some u → h'.get? b = some u) → Q (.ref (s.heap.objs.size + 1)) { s with heap := h' }) :
    wpAny (model prog w) A (call (.type "enumerate") [v]) Q E s := by
  refine callType_new F.called_enumerate (by decide) (F.typeCall_enumerate_1 _) (F.newCall_enumerate_1 _) (fun obj => F.args_object_init_2 obj _) F.entry_enumerate_new (new1 B) ⟨h1, ?_⟩
  have hz : (s.heap.push o).objs.size = s.heap.objs.size + 1 := Heap.size_push ..
  have he := Heap.get?_push_size (s.heap.push o) (o := { cls := .type "enumerate", data := .fields #[.none, .bool false, .ref s.heap.objs.size, rawInt 0, .none, .none] }) rfl
  show _ ∧ _
  rw [hz] at he ⊢
  exact ⟨⟨_, he, rfl⟩, h _ he (Heap.get?_push_of_some _ (Heap.get?_push_size _ B.free)) fun b u x => Heap.get?_push_of_some _ (Heap.get?_push_of_some _ x)⟩
end MyE
end PySem
namespace L2
open PySem PySem.Spec PyProof.Rows
/-! ### enumerate(tuple) -/
def IteT (K : PySem.W.Frag) (a : Addr) : It :=
  ⟨fun i H => ∃ (xs : List V) (x : V), SqT K H a xs ∧ xs[i]? = some x, fun i H v H' => ∃ T x, v = .ref T ∧ H T = none ∧ H' = upd H T (.tup [.int (i : Nat), x]) ∧ ∀ xs, SqT K H a xs → xs[i]? = some x, fun i H => ∃ xs : List V, SqT K H a xs ∧ xs.length = i⟩
theorem enum_ne {h : Heap} {e it l : Addr} {i : Int} {old : Value} {items : Array Value} (he : IsEnum h e it i old) (hl : h.IsTuple l items) : l ≠ e := fun z => by
  obtain ⟨o, ho, _, n, hd⟩ := hl
  rw [z, he] at ho
  cases ho
  cases hd
theorem iterT_ne {h : Heap} {it l : Addr} {i : Nat} {items : Array Value} (hi : h.IsTupleIter it l i) (hl : h.IsTuple l items) : l ≠ it := fun z => by
  obtain ⟨o, ho, _, n, hd⟩ := hl
  obtain ⟨o2, ho2, _, hd2⟩ := hi
  rw [z, ho2] at ho
  cases ho
  rw [hd2] at hd
  cases hd
theorem turn_enumT {P : Program} {w : World} {K : PySem.W.Frag} {elts : List Expr} {kk : Nat} {tpos : Pos} (a e it : Addr) :
    Turn P w K (.Tuple elts kk tpos) (IteT K a) [e, it] e (fun i h => (∃ old, IsEnum h e it ((i : Nat) : Int) old) ∧ h.IsTupleIter it a i ∧ e ≠ it) where
  mem := List.mem_cons_self
  obj := fun i h st b hb => by
    obtain ⟨⟨old, he⟩, ⟨o, ho, hc, hd⟩, _⟩ := st
    rcases List.mem_cons.mp hb with rfl | hb
    · exact ⟨_, he, fun v q => nomatch q⟩
    · rw [List.mem_singleton.mp hb]
      exact ⟨o, ho, fun v q => by rw [hd] at q; cases q⟩
  keep := fun i h h' st k => ⟨st.1.elim fun old z => ⟨old, k e List.mem_cons_self _ z⟩, st.2.1.at fun o q => k it (List.mem_cons_of_mem _ List.mem_cons_self) o q, st.2.2⟩
  item := by
    intro X hP hw hK hc i pins s σ H E I hf st hg
    subst hP hw hK
    obtain ⟨⟨old, he⟩, hit, hne⟩ := st
    obtain ⟨xs, x, hq, hx⟩ := hg
    obtain ⟨its, rv, p, hz⟩ := I.tuple hq
    obtain ⟨u, hu, ru⟩ := rv.get hx
    have pt : s.heap.IsTuple a its.toArray := p
    have hel : e < s.heap.objs.size := Heap.lt_size he
    have hlen : i < its.toArray.size := by
      rw [List.size_toArray]
      exact (List.getElem?_eq_some_iff.mp hu).1
    refine wpAny_pyNext_enum_itemD (Draws.tuple (A := X.A.in1) (I.ok.hd hc) it a (iterT_ne hit pt) its.toArray) he ⟨hit, pt⟩ hlen hne (by
      intro z
      rcases List.mem_cons.mp z with z | z
      · exact hne z
      · exact enum_ne he pt (List.mem_singleton.mp z).symm) fun y h' tk hy ho hit' hT hsz hk => ?_
    have ey : y = u := by
      rw [List.getElem?_toArray, hu] at hy
      exact (Option.some.inj hy).symm
    subst ey
    refine ⟨_, rfl, wpAny_letOwnedTupleGo_enum (s := { s with heap := h', toks := tk + 1 }) ho fun h'' he' sb => ?_⟩
    have hT2 : h''.get? s.heap.objs.size = some { cls := .type "tuple", data := .seq #[.int i tk, y] } := (sb.2 _ (Nat.ne_of_gt hel)).trans hT
    have new : ObjOk X.prog X.w (upd H s.heap.objs.size (.tup [.int (i : Nat), x])) h'' s.heap.objs.size (.tup [.int (i : Nat), x]) :=
      ⟨Nat.le_of_ble_eq_true rfl, [.int i tk, y], .cons ⟨_, rfl⟩ (.cons ru .nil), ⟨_, hT2, rfl, _, rfl⟩⟩
    have I1 : Inv X pins σ (upd H s.heap.objs.size (.tup [.int (i : Nat), x])) { s with heap := h'', toks := tk + 1 } :=
      I.turnedNew (ch := [e, it]) (fun b ob hb q => (sb.2 b (fun z => hb (by simp [z]))).trans (hk b ob (fun z => hb (by simp [z])) (fun z => hb (by simp [z])) q)) hf (Nat.le_refl _) new
    have hfr : H s.heap.objs.size = none := I.hok.fresh (Nat.le_refl _)
    refine ⟨.ref s.heap.objs.size, _, I1, rfl, ⟨_, x, rfl, hfr, rfl, fun ys hy => by rw [I.tuple_inj hy hq]; exact hx⟩, ⟨⟨y, ?_⟩, hit'.1.at fun o q => (sb.2 it (Ne.symm hne)).trans q, hne⟩, fun b hb => ?_⟩
    · have e1 : ((i + 1 : Nat) : Int) = (i : Int) + 1 := by omega
      rw [e1]
      exact he'
    · have bl : b < s.heap.objs.size := by
        rcases List.mem_cons.mp hb with rfl | hb
        · exact hel
        · rw [List.mem_singleton.mp hb]
          obtain ⟨_, z, _⟩ := hit
          exact Heap.lt_size z
      rw [upd_ne (Nat.ne_of_lt bl)]
      exact (hf b hb).1
  done := by
    intro X hP hw hK hc i pins s σ H E I hf st hg
    subst hP hw hK
    obtain ⟨⟨old, he⟩, hit, hne⟩ := st
    obtain ⟨xs, hq, hx⟩ := hg
    obtain ⟨its, rv, p, hz⟩ := I.tuple hq
    obtain ⟨f0, f1, f2, f3, f4, f5⟩ := hf it (List.mem_cons_of_mem _ List.mem_cons_self)
    have pt : s.heap.IsTuple a its.toArray := p
    have hn : its.toArray.size = i := by
      rw [List.size_toArray, ← rv.length]
      exact hx
    exact wpAny_pyNext_enum_endD (Draws.tuple (A := X.A.in1) (I.ok.hd hc) it a (iterT_ne hit pt) its.toArray) he (by rw [hn]; exact ⟨hit, pt⟩) fun h' eb => ⟨rfl, I.turned (t' := s.toks) (fun b o hb q => eb b o hb q) f0 f1 f3 f4 f5⟩
  self := fun A i s Q E st h => st.1.elim fun _ he => wpAny_pyIter_enum he h
def iEnumT (K : PySem.W.Frag) (ta : TA) : TI := fun σ H R => ta σ H fun vs H1 => ∃ a xs, vs = [.ref a] ∧ SqT K H1 a xs ∧ R (IteT K a) H1
/-- enumerate of a list or of a tuple -/
def iEnumS (K : PySem.W.Frag) (ta : TA) : TI := fun σ H R => ta σ H fun vs H1 => ∃ a xs, vs = [.ref a] ∧ ((SqL K H1 a xs ∧ R (Ite K a) H1) ∨ (SqT K H1 a xs ∧ R (IteT K a) H1))
theorem pi_enumS {X : Cx} {e : Expr} {ta : TA} {p pos tpos : Pos} {elts : List Expr} {kk : Nat} (hg : Gl X "enumerate") (hm : X.mg "enumerate" = none) (ha : PA X [e] ta) (hs : starEach [e] X.env = [(false, eval e X.env)] := by rfl) :
    PI X (.Tuple elts kk tpos) (.Call (.Name "enumerate" p) [e] [] pos) (iEnumS X.K ta) := by
  refine ⟨fun pins s σ H R I h => ?_⟩
  refine Call_ (ld_blt I hg hm boot_enumerate (PyProof.Rows.callWith_type1 (thn (ha.run pos pins s σ H _ I h) fun us s1 ⟨vs, H1, I1, r1, q1⟩ => ?_) hs rfl))
  obtain ⟨a, xs, rfl, q⟩ := q1
  obtain ⟨u, rfl, ru⟩ := r1.one
  cases ru
  have young : ∀ b, b ∈ [s1.heap.objs.size + 1, s1.heap.objs.size] → s1.heap.objs.size ≤ b := fun b hb => by
    rcases List.mem_cons.mp hb with z | z
    · rw [z]; exact Nat.le_add_right _ _
    · rw [List.mem_singleton.mp z]; exact Nat.le_refl _
  rcases q with ⟨hq, q⟩ | ⟨hq, q⟩
  · obtain ⟨its, rv, p', hz⟩ := I1.list hq
    refine MyE.call1 (begins_list a its.toArray) p'.isList fun h' he hit hk => wpAny_pyIter_enum he ?_
    exact ⟨s1.heap.objs.size + 1, [s1.heap.objs.size + 1, s1.heap.objs.size], _, _, H1, rfl, I1.kept (t' := s1.toks) hk, turn_enum a (s1.heap.objs.size + 1) s1.heap.objs.size, ⟨⟨.none, he⟩, ⟨_, hit, rfl, rfl⟩, Nat.succ_ne_self _⟩, fun b hb => I1.fpOk (young b hb) (I1.hok.fresh (young b hb)), q⟩
  · obtain ⟨its, rv, p', hz⟩ := I1.tuple hq
    refine MyE.call1 (begins_tuple a its.toArray) (show s1.heap.IsTuple a its.toArray from p') fun h' he hit hk => wpAny_pyIter_enum he ?_
    exact ⟨s1.heap.objs.size + 1, [s1.heap.objs.size + 1, s1.heap.objs.size], _, _, H1, rfl, I1.kept (t' := s1.toks) hk, turn_enumT a (s1.heap.objs.size + 1) s1.heap.objs.size, ⟨⟨.none, he⟩, ⟨_, hit, rfl, rfl⟩, Nat.succ_ne_self _⟩, fun b hb => I1.fpOk (young b hb) (I1.hok.fresh (young b hb)), q⟩
theorem walk_enumT {K : PySem.W.Frag} {a : Addr} {xs : List V} : Walk (IteT K a) xs.length (fun H => SqT K H a xs) (YPair (fun i => some (.int (i : Nat))) (fun i => xs[i]?)) := by
  refine ⟨fun i _ hi q => ⟨xs, xs[i], q, by simp [hi]⟩, fun _ q => ⟨xs, q, rfl⟩, fun i H v H' _ q y => ?_⟩
  obtain ⟨T, x, h1, h2, h3, h4⟩ := y
  exact ⟨T, .int (i : Nat), x, h1, h2, h3, rfl, h4 xs q⟩
end L2

namespace L2
open PySem
theorem SqT.extX {K : PySem.W.Frag} {H H' : Hp} {a : Addr} {xs : List V} (h : SqT K H a xs) (e : Ext H H') : SqT K H' a xs := SqT.ext h e
theorem TyX.ext {K : PySem.W.Frag} {H H' : Hp} {x : V} {t : Value} (h : TyX K H x t) (e : Ext H H') : TyX K H' x t := by
  cases h with
  | base h =>
    refine .base ?_
    cases h with
    | non => exact .non
    | bl x => exact .bl x
    | int i => exact .int i
    | str x => exact .str x
    | flt x => exact .flt x
    | lst z => exact .lst (e _ _ z)
    | frz z => exact .frz (e _ _ z)
    | tup z => exact .tup (e _ _ z)
    | dK z => exact .dK (e _ _ z)
    | dT z => exact .dT (e _ _ z)
    | ins z a b c d f => exact .ins (e _ _ z) a b c d f
  | byt b => exact .byt b
  | set z => exact .set (e _ _ z)
  | kList z c => exact .kList z c
  | kTuple z c => exact .kTuple z c
  | kDict z c => exact .kDict z c
  | fTuple z => exact .fTuple (e _ _ z)
  | fDict z => exact .fDict (e _ _ z)
/-- a place that was free may be written -/
theorem Ext.over {H H' : Hp} {D : Addr} {o : HO} (x : Ext H H') (h : H D = none) : Ext H (L2.upd H' D o) := fun a u e => by
  rw [upd_ne (ne_of_none e h)]
  exact x a u e
theorem tyx_lst {K : PySem.W.Frag} {H : Hp} {a : Addr} {xs : List V} (h : H a = some (.lst xs)) : TyX K H (.ref a) (.type "list") := .base (.lst h)
theorem tyx_tup {K : PySem.W.Frag} {H : Hp} {a : Addr} {xs : List V} (h : H a = some (.tup xs)) : TyX K H (.ref a) (.type "tuple") := .base (.tup h)
end L2
namespace My
open PySem PySem.Spec PyProof.Rows L2
theorem scIsList : FnScope ["thing"] ["thing"] (defScope sIsList) := ⟨rfl, rfl, rfl, by decide +kernel, rfl, by decide +kernel, by decide +kernel⟩
theorem scIsName : FnScope ["thing", "letter"] ["thing"] (defScope sIsName) := ⟨rfl, rfl, rfl, by decide +kernel, rfl, by decide +kernel, by decide +kernel⟩
theorem lcYes {σ : L2.St} {H : Hp} {A B : Hp → Prop} (h : A H) : tYes σ H (fun b H3 => if b = true then A H3 else B H3) := by
  show (if true = true then A H else B H)
  rw [if_pos rfl]
  exact h
def letters : Str := "abcdefghijklmnopqrstuvwxyz"
def signB (z : Str) : List Bool := z.cps.toList.map fun c => decide (c ∈ letters.cps.toList)
theorem sign_snoc {z : Str} {i c : Nat} (h : z.cps[i]? = some c) : (signB z).take i ++ [decide (c ∈ letters.cps.toList)] = (signB z).take (i + 1) := by
  have e : (signB z)[i]? = some (decide (c ∈ letters.cps.toList)) := by
    unfold signB
    rw [List.getElem?_map, Array.getElem?_toList, h]
    rfl
  rw [List.take_add_one, e]
  rfl
def nameB (z : Str) : Bool := decide ((1 : Int) ≤ z.length) && (decide ((z.length : Int) ≤ 8) && (signB z).all id)
/-- isinstance(x, (list, tuple)) -/
def spIsList (K : PySem.W.Frag) : Sp := fun vs H Q _ => ∃ x t b, vs = [x] ∧ TyX K H x t ∧ PySem.W.kitAny K t [.type "list", .type "tuple"] = some b ∧ ∀ H', Ext H H' → Q (.bl b) H'
/-- whether x is a name -/
def spIsName (K : PySem.W.Frag) : Sp := fun vs H Q _ => ∃ x, vs = [x] ∧ ((∃ z, x = .str z ∧ z.length ≤ sizeLine ∧ ∀ H', Ext H H' → Q (.bl (nameB z)) H') ∨ (∃ t, TyX K H x t ∧ PySem.W.kitOne K t (.type "str") = some false ∧ ∀ H', Ext H H' → Q (.bl false) H'))
section
variable {P : Program} {w : World} {K : PySem.W.Frag} {mg : Str → Option Value} {base : Heap} {f : Addr} {fd : FuncData}
theorem ok_isList (Fn : FnP K "is_list" sIsList f fd) (gI : mg "isinstance" = none) (gL : mg "list" = none) (gT : mg "tuple" = none) : FnOk P w K mg base CX0 1 f fd ["thing"] (spIsList K) := by
  refine Fn.ok scIsList (fun vs H Q E h => ?_) (fun cdv A outer s H vs Q E hr h => ⟨_, PSs.nox
    (pss_one (ps_ret (pe_callB call_isiT (by rfl) gI boot_isinstance (pa_cons (pv 0) (pa_cons (pe_tup (pa_cons (pe_bltn (v := .ty "list") (by rfl) gL boot_list rfl) (pa_cons (pe_bltn (v := .ty "tuple") (by rfl) gT boot_tuple rfl) pa_nil))) pa_nil))))), ?_⟩)
  · obtain ⟨x, t, b, rfl, _⟩ := h
    rfl
  · obtain ⟨x, t, b, rfl, ty, kt, q⟩ := h
    exact ⟨_, rfl, Nat.le_of_ble_eq_true rfl, fun p hp => ⟨x, p, [.ty "list", .ty "tuple"], t, _, b, rfl, upd_same, .cons (.ty _) (.cons (.ty _) .nil), ty.ext (Ext.upd hp), kt, q _ (Ext.upd hp)⟩⟩
theorem ok_isName (Fn : FnP K "is_name" sIsName f fd) (gI : mg "isinstance" = none) (gS : mg "str" = none) (gN : mg "len" = none) (gA : mg "all" = none) {t8 tL : Tok} (g8 : mg "LONGEST" = some (.int 8 t8)) (gL : mg "LETTERS" = some (.str letters tL)) :
    FnOk P w K mg base CX0 1 f fd ["thing"] (spIsName K) := by
  refine Fn.ok scIsName (fun vs H Q E h => ?_) (fun cdv A outer s H vs Q E hr h => ⟨_, PSs.nox
    (pss_cons (ps_if (PW.pt (pw_or (pt_not (pt_val (pe_callB call_isi (by rfl) gI boot_isinstance (pa_cons (pv 0) (pa_cons (pe_bltn (v := .ty "str") (by rfl) gS boot_str rfl) pa_nil)))))
        (pw_or1 (pt_not (pt_chain op_le op_le pe_int (pe_callB call_len (by rfl) gN boot_len (pa_cons (pv 0) pa_nil)) (pe_glob (v := .int 8) (by rfl) g8 ⟨_, rfl⟩)))))) (pss_one (ps_ret pe_bl)) pss_nil)
    (pss_one (ps_ret (pe_callB (cr_all rfl) (by rfl) gA boot_all (pa_cons (pe_lc (own := [("letter", 1)]) (g := gName 1) (tt := tYes) rfl scIsName.nd (pi_str (pv 0)) (blkOk_by (N := ["thing", "letter"]) (sc := defScope sIsName) (by decide +kernel))
      (fun _ _ _ _ _ => pg_name (i := 1) scIsName.nd rfl (Or.inl rfl)) (fun _ _ _ _ _ => pts_nil) (fun _ _ _ _ _ => pe_cmpR op_in_sign (pv 1) (pe_glob (v := .str letters) (by rfl) gL ⟨_, rfl⟩) (by rfl))) pa_nil))))), ?_⟩)
  · obtain ⟨x, rfl, _⟩ := h
    rfl
  · obtain ⟨x, rfl, h⟩ := h
    rcases h with ⟨z, rfl, hz, q⟩ | ⟨t, ty, kt, q⟩
    · refine ⟨_, rfl, .str z, .ty "str", .type "str", .type "str", true, rfl, .ty _, .base (.str _), kit_ty (by decide +kernel), true, rfl, ?_⟩
      refine iteF ?_
      refine ⟨_, rfl, .str z, z.length, rfl, ⟨hz, rfl⟩, _, _, rfl, rfl, _, rfl, ?_⟩
      refine ite2 (fun h1 => ?_) (fun h1 => ?_)
      · refine ⟨_, _, rfl, rfl, _, rfl, ?_⟩
        refine ite2 (fun h2 => ?_) (fun h2 => ?_)
        · have h2' : (!decide ((z.length : Int) ≤ 8)) = true := h2
          have q1 := q H Ext.rfl'
          have e : nameB z = false := by
            unfold nameB
            rw [show decide ((z.length : Int) ≤ 8) = false by simpa using h2', Bool.false_and, Bool.and_false]
          rw [e] at q1
          exact q1
        · have e2 : decide ((z.length : Int) ≤ 8) = true := by simpa using h2
          have e1 : decide ((1 : Int) ≤ z.length) = true := h1
          refine ⟨_, rfl, _, rfl, fun D hD => lc_it (walk_str (z := z)) (fun i H' => Ext H H' ∧ H' D = some (.lst (((signB z).take i).map V.bl))) ⟨Ext.upd hD, upd_same⟩ (fun _ _ _ _ => True.intro) ?_ ?_⟩
          · intro i x H1 H2 hi ⟨x1, l1⟩ hy
            obtain ⟨rfl, c, hc, rfl⟩ := hy
            refine ⟨rfl, ?_⟩
            refine lcYes ?_
            refine ⟨_, rfl, c, letters, rfl, rfl, _, l1, ?_, ?_, ?_⟩
            · rw [List.length_map, List.length_take]
              exact Nat.lt_of_le_of_lt (Nat.min_le_left _ _) (Nat.lt_of_lt_of_le hi hz)
            · exact x1.over hD
            · rw [upd_same, ← sign_snoc hc, List.map_append]
              rfl
          · intro H1 ⟨x1, l1⟩
            refine ⟨D, signB z, rfl, ?_, ?_⟩
            · have e : (signB z).take z.cps.size = signB z := by
                rw [List.take_of_length_le]
                unfold signB
                rw [List.length_map, Array.length_toList]
                exact Nat.le_refl _
              rw [e] at l1
              exact SqL.of l1
            · have e : nameB z = (signB z).all id := by
                unfold nameB
                rw [e1, e2, Bool.true_and, Bool.true_and]
              rw [← e]
              exact q H1 x1
      · have e1 : decide ((1 : Int) ≤ z.length) = false := by simpa using h1
        have e : nameB z = false := by
          unfold nameB
          rw [e1, Bool.false_and]
        have q1 := q H Ext.rfl'
        rw [e] at q1
        exact ⟨_, rfl, q1⟩
    · refine ⟨_, rfl, x, .ty "str", t, .type "str", false, rfl, .ty _, ty, kt, false, rfl, ?_⟩
      exact q _ Ext.rfl'
end
end My

namespace My
open PySem PySem.Spec PyProof.Rows L2
theorem scWrongName : FnScope ["things", "at", "thing"] ["things"] (defScope sWrongName) := ⟨rfl, rfl, rfl, by decide +kernel, rfl, by decide +kernel, by decide +kernel⟩
/-- what may be told to is_name -/
def Thing (K : PySem.W.Frag) (H : Hp) (x : V) : Prop := (∃ z, x = .str z ∧ z.length ≤ sizeLine) ∨ ((∀ z, x ≠ .str z) ∧ ∃ t, TyX K H x t ∧ PySem.W.kitOne K t (.type "str") = some false)
theorem Thing.ext {K : PySem.W.Frag} {H H' : Hp} {x : V} (h : Thing K H x) (e : Ext H H') : Thing K H' x := by
  rcases h with h | ⟨n, t, ty, k⟩
  · exact .inl h
  · exact .inr ⟨n, t, ty.ext e, k⟩
def nameV : V → Bool
  | .str z => nameB z
  | _ => false
theorem nameV_flat {x : V} (h : nameV x = true) : flatV x = true := by
  cases x <;> first | rfl | exact absurd (show false = true from h) Bool.false_ne_true
/-- the i-th is no name or stood before -/
def badAt (xs : List V) (i : Nat) : Bool := match xs[i]? with
  | some y => !nameV y || inV y (xs.take i)
  | none => false
def SeqAt2 (K : PySem.W.Frag) (H : Hp) (a : Addr) (xs : List V) : Prop := SqL K H a xs ∨ SqT K H a xs
theorem SeqAt2.ext {K : PySem.W.Frag} {H H' : Hp} {a : Addr} {xs : List V} (h : SeqAt2 K H a xs) (e : Ext H H') : SeqAt2 K H' a xs := h.elim (fun z => .inl (z.ext e)) fun z => .inr (z.ext e)
/-- the first wrong one's place | None -/
def spWrongName (K : PySem.W.Frag) : Sp := fun vs H Q _ => ∃ a xs, vs = [.ref a] ∧ SeqAt2 K H a xs ∧ (∀ y ∈ xs, Thing K H y) ∧ (∀ H', Ext H H' → (∀ i, i < xs.length → badAt xs i = false) → Q .non H') ∧
  ∀ i H', Ext H H' → i < xs.length → badAt xs i = true → (∀ j, j < i → badAt xs j = false) → Q (.int (i : Nat)) H'
theorem cut_take {xs : List V} {i : Nat} (h : i < xs.length) : cutV xs none (some ((i : Nat) : Int)) = xs.take i := by
  unfold cutV
  rw [HT.sIx_none, HT.sIx_nat, Nat.min_eq_left (Nat.le_of_lt h), Nat.sub_zero, List.drop_zero]
theorem flat_take {xs : List V} {i : Nat} (hb : ∀ j, j < i → badAt xs j = false) : (xs.take i).all flatV = true := by
  rw [List.all_eq_true]
  intro y hy
  obtain ⟨j, hj, e⟩ := List.getElem_of_mem hy
  rw [List.length_take] at hj
  have h2 : xs[j]? = some y := by
    rw [List.getElem_take] at e
    rw [← e]
    exact List.getElem?_eq_getElem _
  have h3 := hb j (Nat.lt_of_lt_of_le hj (Nat.min_le_left _ _))
  unfold badAt at h3
  rw [h2] at h3
  have h4 : nameV y = true := by
    cases h5 : nameV y with
    | true => rfl
    | false =>
      rw [show (match some y with | some y => !nameV y || inV y (xs.take j) | none => false) = (!nameV y || inV y (xs.take j)) from rfl, h5] at h3
      exact absurd h3 (by simp)
  exact nameV_flat h4
section
variable {P : Program} {w : World} {K : PySem.W.Frag} {mg : Str → Option Value} {base : Heap} {f fN : Addr} {fd fdN : FuncData}
theorem ok_wrongName (Fn : FnP K "wrong_name" sWrongName f fd) (FN : FnOk P w K mg base CX0 1 fN fdN ["thing"] (spIsName K)) (gN : mg "is_name" = some (.ref fN)) (kN : PySem.W.keepIn K (.ref fN) = true) (bN : Binds K fdN ["thing"] []) (gE : mg "enumerate" = none) :
    FnOk P w K mg base CX0 2 f fd ["things"] (spWrongName K) := by
  refine Fn.ok scWrongName (fun vs H Q E h => ?_) (fun cdv A outer s H vs Q E hr h => ⟨_, PSs.nox
    (pss_cons (ps_for PassesOwn.never rfl (pi_enumS (by rfl) gE (pa_cons (pv 0) pa_nil)) (pg_tup rfl (pgs_cons (pg_name (i := 1) scWrongName.nd rfl (Or.inl rfl)) (pgs_cons (pg_name (i := 2) scWrongName.nd rfl (Or.inl rfl)) pgs_nil)))
      (pss_one (ps_if (PW.pt (pw_or (pt_not (pt_val (pe_call FN hr (by rfl) gN kN bN .nil pass0 (pa_cons (pv 2) pa_nil))))
        (pw_or1 (pt_cmpR op_in_seq (pv 2) (pe_slice (sl_list.or sl_tupA) (pv 0) po_none (po_some (pv 1))) (by rfl))))) (pss_one (ps_ret (pv 1))) pss_nil)))
    (pss_one (ps_ret pe_non))), ?_⟩)
  · obtain ⟨a, xs, rfl, _⟩ := h
    rfl
  · obtain ⟨a, xs, rfl, sq, th, q0, q1⟩ := h
    refine ⟨_, rfl, a, xs, rfl, ?_⟩
    rcases sq with sq | sq
    · refine .inl ⟨sq, ?_⟩
      refine for_it (walk_enum (xs := xs)) (fun i σ H' => Ext H H' ∧ (∃ u v, σ = [some (.ref a), u, v]) ∧ ∀ j, j < i → badAt xs j = false) ⟨Ext.rfl', ⟨none, none, rfl⟩, fun j hj => absurd hj (Nat.not_lt_zero _)⟩ (fun i σ H' _ p => sq.ext p.1) ?_ ?_
      · intro i x σ H1 H2 hi p y
        obtain ⟨x1, ⟨u, v, rfl⟩, hb⟩ := p
        obtain ⟨T, y1, y2, rfl, hT, rfl, e1, e2⟩ := y
        cases e1
        have e2 : xs[i]? = some y2 := e2
        have x2 : Ext H (upd H1 T (.tup [.int i, y2])) := x1.upd' hT
        refine ⟨T, _, rfl, SqT.of upd_same, rfl, _, _, rfl, _, _, rfl, rfl, ?_⟩
        have hmem : y2 ∈ xs := List.mem_of_getElem? e2
        have notbad : badAt xs i = false → ∀ j, j < i + 1 → badAt xs j = false := fun h j hj => by
          rcases Nat.lt_or_eq_of_le (Nat.le_of_lt_succ hj) with z | z
          · exact hb j z
          · rw [z]; exact h
        have eb : badAt xs i = (!nameV y2 || inV y2 (xs.take i)) := by
          unfold badAt
          rw [e2]
        have bad : badAt xs i = true → ∀ H', Ext H H' → Q (.int (i : Nat)) H' := fun h H' z => q1 i H' z hi h hb
        rcases th y2 hmem with ⟨z, rfl, hz⟩ | ⟨hns, t, ty, kt⟩
        · refine ⟨_, rfl, _, rfl, .inl ⟨z, rfl, hz, fun H3 x3 => ?_⟩⟩
          refine ⟨nameB z, rfl, ?_⟩
          have x13 : Ext H H3 := x2.trans x3
          cases hn : nameB z with
          | false =>
            exact ⟨_, rfl, bad (by rw [eb]; show (!nameB z || _) = true; rw [hn]; rfl) H3 x13⟩
          | true =>
            have fl := flat_take hb
            have cont : ∀ H4, Ext H H4 → (if inV (.str z) (xs.take i) = true then (∃ v, ([some (.ref a), some (.int (i : Nat)), some (.str z)] : L2.St)[1]? = some (some v) ∧ Q v H4) else Ext H H4 ∧ (∃ u v, ([some (.ref a), some (.int (i : Nat)), some (.str z)] : L2.St) = [some (.ref a), u, v]) ∧ ∀ j, j < i + 1 → badAt xs j = false) := fun H4 x4 => by
              cases hi2 : inV (.str z) (xs.take i) with
              | true => exact ⟨_, rfl, bad (by rw [eb, hi2, Bool.or_true]) H4 x4⟩
              | false => exact ⟨x4, ⟨_, _, rfl⟩, notbad (by rw [eb, hi2]; show (!nameB z || false) = false; rw [hn]; rfl)⟩
            refine ⟨_, rfl, _, rfl, _, rfl, _, rfl, .inl ⟨a, xs, rfl, sq.ext x13, fun p hp => ?_⟩⟩
            rw [cut_take hi]
            refine ⟨p, _, rfl, .inl (SqL.of upd_same), rfl, fl, _, rfl, ?_⟩
            exact cont _ (x13.upd' hp)
        · refine ⟨_, rfl, _, rfl, .inr ⟨t, ty.ext x2, kt, fun H3 x3 => ?_⟩⟩
          refine ⟨false, rfl, ?_⟩
          exact ⟨_, rfl, bad (by
            rw [eb]
            have e : nameV y2 = false := by
              cases y2 <;> first | rfl | exact absurd rfl (hns _)
            rw [e]; rfl) H3 (x2.trans x3)⟩
      · intro σ H1 p
        exact q0 H1 p.1 p.2.2
    · refine .inr ⟨sq, ?_⟩
      refine for_it (walk_enumT (xs := xs)) (fun i σ H' => Ext H H' ∧ (∃ u v, σ = [some (.ref a), u, v]) ∧ ∀ j, j < i → badAt xs j = false) ⟨Ext.rfl', ⟨none, none, rfl⟩, fun j hj => absurd hj (Nat.not_lt_zero _)⟩ (fun i σ H' _ p => sq.ext p.1) ?_ ?_
      · intro i x σ H1 H2 hi p y
        obtain ⟨x1, ⟨u, v, rfl⟩, hb⟩ := p
        obtain ⟨T, y1, y2, rfl, hT, rfl, e1, e2⟩ := y
        cases e1
        have e2 : xs[i]? = some y2 := e2
        have x2 : Ext H (upd H1 T (.tup [.int i, y2])) := x1.upd' hT
        refine ⟨T, _, rfl, SqT.of upd_same, rfl, _, _, rfl, _, _, rfl, rfl, ?_⟩
        have hmem : y2 ∈ xs := List.mem_of_getElem? e2
        have notbad : badAt xs i = false → ∀ j, j < i + 1 → badAt xs j = false := fun h j hj => by
          rcases Nat.lt_or_eq_of_le (Nat.le_of_lt_succ hj) with z | z
          · exact hb j z
          · rw [z]; exact h
        have eb : badAt xs i = (!nameV y2 || inV y2 (xs.take i)) := by
          unfold badAt
          rw [e2]
        have bad : badAt xs i = true → ∀ H', Ext H H' → Q (.int (i : Nat)) H' := fun h H' z => q1 i H' z hi h hb
        rcases th y2 hmem with ⟨z, rfl, hz⟩ | ⟨hns, t, ty, kt⟩
        · refine ⟨_, rfl, _, rfl, .inl ⟨z, rfl, hz, fun H3 x3 => ?_⟩⟩
          refine ⟨nameB z, rfl, ?_⟩
          have x13 : Ext H H3 := x2.trans x3
          cases hn : nameB z with
          | false =>
            exact ⟨_, rfl, bad (by rw [eb]; show (!nameB z || _) = true; rw [hn]; rfl) H3 x13⟩
          | true =>
            have fl := flat_take hb
            have cont : ∀ H4, Ext H H4 → (if inV (.str z) (xs.take i) = true then (∃ v, ([some (.ref a), some (.int (i : Nat)), some (.str z)] : L2.St)[1]? = some (some v) ∧ Q v H4) else Ext H H4 ∧ (∃ u v, ([some (.ref a), some (.int (i : Nat)), some (.str z)] : L2.St) = [some (.ref a), u, v]) ∧ ∀ j, j < i + 1 → badAt xs j = false) := fun H4 x4 => by
              cases hi2 : inV (.str z) (xs.take i) with
              | true => exact ⟨_, rfl, bad (by rw [eb, hi2, Bool.or_true]) H4 x4⟩
              | false => exact ⟨x4, ⟨_, _, rfl⟩, notbad (by rw [eb, hi2]; show (!nameB z || false) = false; rw [hn]; rfl)⟩
            refine ⟨_, rfl, _, rfl, _, rfl, _, rfl, .inr ⟨a, xs, rfl, sq.ext x13, fun hw => ?_, fun _ p hp => ?_⟩⟩
            · have h2 := hw.2
              rw [HT.sIx_nat, Nat.min_eq_left (Nat.le_of_lt hi)] at h2
              exact absurd hi (by omega)
            rw [cut_take hi]
            refine ⟨p, _, rfl, .inr (SqT.of upd_same), rfl, fl, _, rfl, ?_⟩
            exact cont _ (x13.upd' hp)
        · refine ⟨_, rfl, _, rfl, .inr ⟨t, ty.ext x2, kt, fun H3 x3 => ?_⟩⟩
          refine ⟨false, rfl, ?_⟩
          exact ⟨_, rfl, bad (by
            rw [eb]
            have e : nameV y2 = false := by
              cases y2 <;> first | rfl | exact absurd rfl (hns _)
            rw [e]; rfl) H3 (x2.trans x3)⟩
      · intro σ H1 p
        exact q0 H1 p.1 p.2.2
end
end My

namespace L2
open PySem
theorem tyx_sqL {K : PySem.W.Frag} {H : Hp} {a : Addr} {xs : List V} (h : SqL K H a xs) : TyX K H (.ref a) (.type "list") := by
  rcases h with (h | ⟨o, h⟩) | ⟨o, its, n, h1, h2, _⟩
  · exact .base (.lst h)
  · exact .base (.frz h)
  · exact .kList h1 h2
theorem tyx_sqT {K : PySem.W.Frag} {H : Hp} {a : Addr} {xs : List V} (h : SqT K H a xs) : TyX K H (.ref a) (.type "tuple") := by
  rcases h with (h | ⟨o, h⟩) | ⟨o, its, n, h1, h2, _⟩
  · exact .base (.tup h)
  · exact .fTuple h
  · exact .kTuple h1 h2
end L2
namespace My
open PySem PySem.Spec PyProof.Rows L2
theorem scWrongPart : FnScope ["folders", "things", "at"] ["folders", "things"] (defScope sWrongPart) := ⟨rfl, rfl, rfl, by decide +kernel, rfl, by decide +kernel, by decide +kernel⟩
def optV : Option Nat → V
  | none => .non
  | some i => .int (i : Nat)
def wrongOf (xs : List V) : Option Nat := (List.range xs.length).find? (badAt xs)
def spWN (K : PySem.W.Frag) : Sp := fun vs H Q _ => ∃ a xs, vs = [.ref a] ∧ SeqAt2 K H a xs ∧ (∀ y ∈ xs, Thing K H y) ∧ ∀ H', Ext H H' → Q (optV (wrongOf xs)) H'
theorem wrong_none {xs : List V} (h : ∀ i, i < xs.length → badAt xs i = false) : wrongOf xs = none := List.find?_range_eq_none.mpr fun i hi => by rw [h i hi]; rfl
theorem wrong_some {xs : List V} {i : Nat} (hi : i < xs.length) (h : badAt xs i = true) (h2 : ∀ j, j < i → badAt xs j = false) : wrongOf xs = some i := List.find?_range_eq_some.mpr ⟨h, List.mem_range.mpr hi, fun j hj => by rw [h2 j hj]; rfl⟩
theorem wn_imp {K : PySem.W.Frag} (vs : List V) (H : Hp) (Q : VK) (E : XK) (h : spWN K vs H Q E) : spWrongName K vs H Q E := by
  obtain ⟨a, xs, rfl, sq, th, q⟩ := h
  refine ⟨a, xs, rfl, sq, th, fun H' x h => ?_, fun i H' x hi h h2 => ?_⟩
  · have z := q H' x
    rw [wrong_none h] at z
    exact z
  · have z := q H' x
    rw [wrong_some hi h h2] at z
    exact z
/-- a list or a tuple of things, or neither -/
def Lk (K : PySem.W.Frag) (H : Hp) (x : V) : Option (List V) → Prop
  | some xs => ∃ a, x = .ref a ∧ SeqAt2 K H a xs ∧ ∀ y ∈ xs, Thing K H y
  | none => ∃ t, TyX K H x t ∧ PySem.W.kitAny K t [.type "list", .type "tuple"] = some false
theorem Lk.ext {K : PySem.W.Frag} {H H' : Hp} {x : V} {o : Option (List V)} (h : Lk K H x o) (e : Ext H H') : Lk K H' x o := by
  cases o with
  | none =>
    obtain ⟨t, ty, k⟩ := h
    exact ⟨t, ty.ext e, k⟩
  | some xs =>
    obtain ⟨a, rfl, sq, th⟩ := h
    exact ⟨a, rfl, sq.ext e, fun y hy => (th y hy).ext e⟩
theorem Lk.kit {K : PySem.W.Frag} {H : Hp} {x : V} {o : Option (List V)} (h : Lk K H x o) : ∃ t, TyX K H x t ∧ PySem.W.kitAny K t [.type "list", .type "tuple"] = some o.isSome := by
  cases o with
  | none => exact h
  | some xs =>
    obtain ⟨a, rfl, sq, _⟩ := h
    rcases sq with sq | sq
    · exact ⟨_, tyx_sqL sq, kitAny_cons (b := true) (kit_ty (by decide +kernel)) (fun z => nomatch z) (fun _ => rfl)⟩
    · exact ⟨_, tyx_sqT sq, kitAny_cons (b := false) (kit_ty (by decide +kernel)) (fun _ => kitAny_cons (b := true) (kit_ty (by decide +kernel)) (fun z => nomatch z) (fun _ => rfl)) (fun z => nomatch z)⟩
theorem kit_no {K : PySem.W.Frag} {a : String} (h1 : kitB a "list" = some false) (h2 : kitB a "tuple" = some false) : PySem.W.kitAny K (.type a) [.type "list", .type "tuple"] = some false :=
  kitAny_cons (b := false) (kit_ty h1) (fun _ => kitAny_cons (b := false) (kit_ty h2) (fun _ => kitAny_nil) (fun z => nomatch z)) (fun z => nomatch z)
/-- BadHouse's index | None -/
def partOf (o o' : Option (List V)) : Option Nat := match o with
  | none => some 0
  | some xs => if xs.length = 0 then some 0 else match o' with
    | some ys => wrongOf (xs ++ ys)
    | none => match wrongOf xs with
      | none => some xs.length
      | some i => some i
def spWrongPart (K : PySem.W.Frag) : Sp := fun vs H Q _ => ∃ x y o o', vs = [x, y] ∧ Lk K H x o ∧ Lk K H y o' ∧ (∀ xs ys, o = some xs → o' = some ys → (xs ++ ys).length ≤ sizeLine) ∧ ∀ H', Ext H H' → Q (optV (partOf o o')) H'
section
variable {P : Program} {w : World} {K : PySem.W.Frag} {mg : Str → Option Value} {base : Heap} {f fL fW : Addr} {fd fdL fdW : FuncData}
theorem ok_wrongPart (Fn : FnP K "wrong_part" sWrongPart f fd) (FL : FnOk P w K mg base CX0 1 fL fdL ["thing"] (spIsList K)) (gL : mg "is_list" = some (.ref fL)) (kL : PySem.W.keepIn K (.ref fL) = true) (bL : Binds K fdL ["thing"] [])
    (FW : FnOk P w K mg base CX0 2 fW fdW ["things"] (spWN K)) (gW : mg "wrong_name" = some (.ref fW)) (kW : PySem.W.keepIn K (.ref fW) = true) (bW : Binds K fdW ["things"] []) (gN : mg "len" = none) :
    FnOk P w K mg base CX0 3 f fd ["folders", "things"] (spWrongPart K) := by
  refine Fn.ok scWrongPart (fun vs H Q E h => ?_) (fun cdv A outer s H vs Q E hr h => ⟨_, PSs.nox
    (pss_cons (ps_if (PW.pt (pw_or (pt_not (pt_val (pe_call FL (hr.mono (by decide)) (by rfl) gL kL bL .nil pass0 (pa_cons (pv 0) pa_nil)))) (pw_or1 (pt_cmpR op_eq (pe_callB call_len (by rfl) gN boot_len (pa_cons (pv 0) pa_nil)) pe_int (nomark _))))) (pss_one (ps_ret pe_int)) pss_nil)
    (pss_cons (ps_if (pt_val (pe_call FL (hr.mono (by decide)) (by rfl) gL kL bL .nil pass0 (pa_cons (pv 1) pa_nil))) (pss_one (ps_ret (pe_call FW hr (by rfl) gW kW bW .nil pass0 (pa_cons (pe_lst (StX.pa_star (pv 0) (StX.pa_star (pv 1) pa_nil))) pa_nil)))) pss_nil)
    (pss_cons (ps_set (i := 2) scWrongPart.nd rfl (.inl rfl) (pe_call FW hr (by rfl) gW kW bW .nil pass0 (pa_cons (pv 0) pa_nil)))
    (pss_one (ps_ret (pe_ifExp (pt_cmpR op_isN (pv 2) pe_non (nomark _)) (pe_callB call_len (by rfl) gN boot_len (pa_cons (pv 0) pa_nil)) (pv 2))))))), ?_⟩)
  · obtain ⟨x, y, o, o', rfl, _⟩ := h
    rfl
  · obtain ⟨x, y, o, o', rfl, hx, hy, hz, q⟩ := h
    obtain ⟨tx, tyx, kx⟩ := hx.kit
    refine ⟨x, rfl, x, tx, _, rfl, tyx, kx, fun H1 x1 => ?_⟩
    refine ⟨_, rfl, ?_⟩
    cases o with
    | none => exact q H1 x1
    | some xs =>
      obtain ⟨a, rfl, sq, th⟩ := hx
      have sq1 := sq.ext x1
      refine iteF ?_
      refine ⟨_, rfl, _, xs.length, rfl, ?_, rfl, _, rfl, ?_⟩
      · exact sq1.elim (fun z => .inl ⟨_, z, rfl⟩) fun z => .inr ⟨_, z, rfl⟩
      refine ite2 (fun h0 => ?_) (fun h0 => ?_)
      · have e : partOf (some xs) o' = some 0 := if_pos (by simpa using h0)
        have z := q H1 x1
        rw [e] at z
        exact z
      · have n0 : ¬ xs.length = 0 := by simpa using h0
        obtain ⟨ty, tyy, ky⟩ := (hy.ext x1).kit
        refine ⟨y, rfl, y, ty, _, rfl, tyy, ky, fun H2 x2 => ?_⟩
        refine ⟨_, rfl, ?_⟩
        have sq2 := sq1.ext x2
        have th2 : ∀ z ∈ xs, Thing K H2 z := fun z hz => ((th z hz).ext x1).ext x2
        cases o' with
        | some ys =>
          obtain ⟨b, rfl, sqy, thy⟩ := hy
          have sy2 := (sqy.ext x1).ext x2
          refine iteT ?_
          refine ⟨_, rfl, a, xs, rfl, sq2.symm, _, rfl, b, ys, rfl, sy2.symm, ?_⟩
          have hlen := hz xs ys rfl rfl
          refine ⟨(show (xs ++ (ys ++ [])).length ≤ sizeLine by rw [List.append_nil]; exact hlen), fun p hp => ⟨p, xs ++ ys, rfl, .inl (SqL.of (by rw [upd_same, List.append_nil])), fun z hz => ?_, fun H3 x3 => ?_⟩⟩
          · refine Thing.ext ?_ (Ext.upd hp)
            rcases List.mem_append.mp hz with hz | hz
            · exact th2 z hz
            · exact ((thy z hz).ext x1).ext x2
          · have e : partOf (some xs) (some ys) = wrongOf (xs ++ ys) := if_neg n0
            rw [← e]
            exact q H3 (((x1.trans x2).upd' hp).trans x3)
        | none =>
          refine iteF ?_
          refine ⟨_, rfl, a, xs, rfl, sq2, th2, fun H3 x3 => ?_⟩
          have z := q H3 ((x1.trans x2).trans x3)
          refine ⟨_, rfl, rfl, _, rfl, ?_⟩
          cases hw : wrongOf xs with
          | none =>
            have e : partOf (some xs) none = some xs.length := by
              show (if xs.length = 0 then some 0 else match wrongOf xs with | none => some xs.length | some i => some i) = _
              rw [if_neg n0, hw]
            rw [e] at z
            refine iteT ?_
            exact ⟨_, rfl, _, xs.length, rfl, (sq2.ext x3).elim (fun z => .inl ⟨_, z, rfl⟩) (fun z => .inr ⟨_, z, rfl⟩), z⟩
          | some i =>
            have e : partOf (some xs) none = some i := by
              show (if xs.length = 0 then some 0 else match wrongOf xs with | none => some xs.length | some i => some i) = _
              rw [if_neg n0, hw]
            rw [e] at z
            refine iteF ?_
            exact ⟨_, rfl, z⟩
end
end My

namespace My
open PySem PySem.Spec PyProof.Rows L2
theorem scHInit : FnScope ["self", "folders", "things", "at"] ["self", "folders", "things"] (defScope sHInit) := ⟨rfl, rfl, rfl, by decide +kernel, rfl, by decide +kernel, by decide +kernel⟩
theorem scHLen : FnScope ["self"] ["self"] (defScope sHLen) := ⟨rfl, rfl, rfl, by decide +kernel, rfl, by decide +kernel, by decide +kernel⟩
theorem scHHas : FnScope ["self", "x"] ["self", "x"] (defScope sHHas) := ⟨rfl, rfl, rfl, by decide +kernel, rfl, by decide +kernel, by decide +kernel⟩
theorem scHIter : FnScope ["self"] ["self"] (defScope sHIter) := ⟨rfl, rfl, rfl, by decide +kernel, rfl, by decide +kernel, by decide +kernel⟩
theorem scHEq : FnScope ["self", "other"] ["self", "other"] (defScope sHEq) := ⟨rfl, rfl, rfl, by decide +kernel, rfl, by decide +kernel, by decide +kernel⟩
/-- a house stands at a: its folders, its things -/
def HouseAt (H : Hp) (K : PySem.W.Frag) (C a : Addr) (fo th : List V) : Prop := ∃ dx fs f t n, H a = some (.ins C dx fs) ∧ fs.lookup ("folders" : Str) = some (V.ref f) ∧ fs.lookup ("things" : Str) = some (V.ref t) ∧ fs.lookup ("nodes" : Str) = some (V.ref n) ∧
  SqT K H f fo ∧ SqT K H t th ∧ SqT K H n (fo ++ th)
theorem HouseAt.ext {H H' : Hp} {K : PySem.W.Frag} {C a : Addr} {fo th : List V} (h : HouseAt H K C a fo th) (e : Ext H H') : HouseAt H' K C a fo th := by
  obtain ⟨dx, fs, f, t, n, h1, h2, h3, h4, h5, h6, h7⟩ := h
  exact ⟨dx, fs, f, t, n, e _ _ h1, h2, h3, h4, h5.ext e, h6.ext e, h7.ext e⟩
/-- what the written part says of the class -/
structure HouC (K : PySem.W.Frag) (C : Addr) : Prop where
  cl : Cls K C
  nf : NoAttr K C "folders"
  nt : NoAttr K C "things"
  nn : NoAttr K C "nodes"
  ha : PySem.W.findIn K (.ref C) "__class__" = some (some (.builtin "object.__class__"))
  hn : PySem.W.specialIn K (.builtin "object.__class__") "__get__" = some (some (.builtin "getset_descriptor.__get__"))
  htk : PySem.W.takesIn K (.builtin "object.__class__") = some true
  hm : PySem.W.mroIn K C (.type "object") = some true
/-- all but what stands at a stays -/
def But (H H' : Hp) (a : Addr) : Prop := ∀ b u, b ≠ a → H b = some u → H' b = some u
theorem ext_but {H H' : Hp} {a : Addr} (e : Ext H H') : But H H' a := fun b u _ k => e b u k
theorem But.trans {H H1 H2 : Hp} {a : Addr} (x : But H H1 a) (y : But H1 H2 a) : But H H2 a := fun b u n k => y b u n (x b u n k)
theorem But.upd {H H1 : Hp} {a : Addr} {o : HO} (x : But H H1 a) : But H (L2.upd H1 a o) a := fun b u n k => by
  rw [upd_ne n]
  exact x b u n k
theorem sqT_but {K : PySem.W.Frag} {H H' : Hp} {a C dx f : Addr} {fs : List (Str × V)} {xs : List V} (h : SqT K H f xs) (b : But H H' a) (ha : H a = some (.ins C dx fs)) : SqT K H' f xs := by
  rcases h with (h | ⟨o, h⟩) | h
  · exact .inl (.inl (b _ _ (ne_of h ha (fun z => nomatch z)) h))
  · exact .inl (.inr ⟨o, b _ _ (ne_of h ha (fun z => nomatch z)) h⟩)
  · exact .inr h
theorem sqL_but {K : PySem.W.Frag} {H H' : Hp} {a C dx f : Addr} {fs : List (Str × V)} {xs : List V} (h : SqL K H f xs) (b : But H H' a) (ha : H a = some (.ins C dx fs)) : SqL K H' f xs := by
  rcases h with (h | ⟨o, h⟩) | h
  · exact .inl (.inl (b _ _ (ne_of h ha (fun z => nomatch z)) h))
  · exact .inl (.inr ⟨o, b _ _ (ne_of h ha (fun z => nomatch z)) h⟩)
  · exact .inr h
/-- tuple(a) -/
theorem tup_of {K : PySem.W.Frag} {H : Hp} {a : Addr} {xs : List V} {Q : VK} (sq : SeqAt2 K H a xs) (q : ∀ t H', Ext H H' → SqT K H' t xs → Q (.ref t) H') :
    ∃ p ys, [V.ref a] = [.ref p] ∧ ((SqL K H p ys ∧ ∀ l, H l = none → Q (.ref l) (L2.upd H l (.tup ys))) ∨ (SqT K H p ys ∧ Q (.ref p) H)) := by
  rcases sq with sq | sq
  · exact ⟨a, xs, rfl, .inl ⟨sq, fun l hl => q l _ (Ext.upd hl) (SqT.of upd_same)⟩⟩
  · exact ⟨a, xs, rfl, .inr ⟨sq, q a H Ext.rfl' sq⟩⟩
/-- a + b, tuples -/
theorem cat_of {K : PySem.W.Frag} {H : Hp} {a b : Addr} {xs ys : List V} {Q : VK} (h1 : SqT K H a xs) (h2 : SqT K H b ys) (hz : (xs ++ ys).length ≤ sizeLine) (q : ∀ t H', Ext H H' → SqT K H' t (xs ++ ys) → Q (.ref t) H') : rCatA K (.ref a) (.ref b) H Q := by
  refine ⟨a, b, xs, ys, rfl, rfl, h1, h2, by rw [← List.length_append]; exact hz, fun e => ?_, fun _ e => ?_, fun _ _ p hp => q p _ (Ext.upd hp) (SqT.of upd_same)⟩
  · subst e
    exact q b H Ext.rfl' h2
  · subst e
    exact q a H Ext.rfl' (by rw [List.append_nil]; exact h1)
def rTup (K : PySem.W.Frag) : List V → Hp → VK → Prop := fun xs H Q => ∃ a zs, xs = [.ref a] ∧ SeqAt2 K H a zs ∧ ∀ t H', Ext H H' → SqT K H' t zs → Q (.ref t) H'
theorem call_tup {X : Cx} : CallR X (.type "tuple") (rTup X.K) := by
  intro pins s σ H xs us Q I rv h
  obtain ⟨a, zs, rfl, sq, q⟩ := h
  exact call_tuple_of pins s σ H _ us Q I rv (tup_of sq q)
def rCat (K : PySem.W.Frag) : R2 := fun x y H Q => ∃ a b xs ys, x = .ref a ∧ y = .ref b ∧ SqT K H a xs ∧ SqT K H b ys ∧ (xs ++ ys).length ≤ sizeLine ∧ ∀ t H', Ext H H' → SqT K H' t (xs ++ ys) → Q (.ref t) H'
theorem op_cat {X : Cx} : OpR X (binaryOp .Add) (rCat X.K) := by
  intro pins s σ H x y v u Q I rx ry h
  obtain ⟨a, b, xs, ys, rfl, rfl, h1, h2, hz, q⟩ := h
  exact op_catA pins s σ H _ _ v u Q I rx ry (cat_of h1 h2 hz q)
/-- House.__init__ -/
def spHInit (K : PySem.W.Frag) (C CB : Addr) : Sp := fun vs H Q E => ∃ a dx x y o o', vs = [.ref a, x, y] ∧ H a = some (.ins C dx []) ∧ Lk K H x o ∧ Lk K H y o' ∧ (∀ xs ys, o = some xs → o' = some ys → (xs ++ ys).length ≤ sizeLine) ∧
  (∀ xs ys H', o = some xs → o' = some ys → partOf o o' = none → But H H' a → HouseAt H' K C a xs ys → Q .non H') ∧
  ∀ i d H', partOf o o' = some i → Ext H H' → H d = none → H' d = some (.xd [(("index" : Str), V.int (i : Nat))]) → E (.ref CB) (some d) H'
theorem part_some {o o' : Option (List V)} (h : partOf o o' = none) : ∃ xs ys, o = some xs ∧ o' = some ys := by
  cases o with
  | none => cases h
  | some xs =>
    cases o' with
    | some ys => exact ⟨xs, ys, rfl, rfl⟩
    | none =>
      unfold partOf at h
      split at h
      · cases h
      · rename_i z
        cases z
        split at h
        · cases h
        · split at h
          · rename_i z
            cases z
          · split at h <;> cases h
section
variable {P : Program} {w : World} {K : PySem.W.Frag} {mg : Str → Option Value} {base : Heap} {f fW C CB : Addr} {fd fdW : FuncData} {dvs : List V}
theorem ok_hInit (Fn : FunD K "__init__" "House.__init__" (defArgs sHInit) (defBody sHInit) (defScope sHInit) dvs [] f fd) (T : HouC K C) (FW : FnOk P w K mg base CX0 3 fW fdW ["folders", "things"] (spWrongPart K)) (gW : mg "wrong_part" = some (.ref fW)) (kW : PySem.W.keepIn K (.ref fW) = true) (bW : Binds K fdW ["folders", "things"] [])
    (EB : Er P w K mg base "BadHouse" "index" CB) (gT : mg "tuple" = none) :
    FnOk P w K mg base (L2.CX P w) 4 f fd ["self", "folders", "things"] (spHInit K C CB) := by
  obtain ⟨fI, fdI, TB, FB, bB, _⟩ := EB
  refine Fn.ok scHInit (fun vs H Q E h => ?_) (fun cdv A outer s H vs Q E hr h => ⟨_,
    (pss_cons (ps_set (i := 3) scHInit.nd rfl (.inl rfl) (pe_call FW hr (by rfl) gW kW bW .nil pass0 (pa_cons (pv 1) (pa_cons (pv 2) pa_nil))))
    (pss_cons (ps_if (pt_cmpR op_notN (pv 3) pe_non (nomark _)) (pss_one (ps_raise rfl (takes_of rfl rfl rfl rfl) (pmk_oex TB.oex TB.iC TB.tI FB (hr.mono (by decide)) bB .nil pass0 (by rfl) TB.gl (pa_cons (pv 3) pa_nil)))) pss_nil)
    (pss_cons (ps_fld (pv 0) (pe_callTy call_tup (by rfl) gT (by decide +kernel) (pa_cons (pv 1) pa_nil)) rfl)
    (pss_cons (ps_fld (pv 0) (pe_callTy call_tup (by rfl) gT (by decide +kernel) (pa_cons (pv 2) pa_nil)) rfl)
    (pss_one (ps_fld (pv 0) (pe_op op_cat (pe_fld (pv 0) rfl) (pe_fld (pv 0) rfl)) rfl)))))), ?_⟩)
  · obtain ⟨a, dx, x, y, o, o', rfl, _⟩ := h
    rfl
  · obtain ⟨a, dx, x, y, o, o', rfl, ha, hx, hy, hz, qn, qe⟩ := h
    refine ⟨_, rfl, _, rfl, x, y, o, o', rfl, hx, hy, hz, fun H1 x1 => ?_⟩
    refine ⟨_, rfl, rfl, _, rfl, ?_⟩
    cases hp : partOf o o' with
    | some i =>
      refine iteT ?_
      refine ⟨_, rfl, Nat.le_of_ble_eq_true rfl, fun e he => ?_⟩
      refine ⟨e, _, rfl, upd_same, fun d hd ne => ⟨rfl, d, [("index", optV (some i))], upd_same, ?_, ?_, ?_⟩⟩
      · rw [upd_ne ne, upd_same]
      · rw [upd_ne ne] at hd
        exact hd
      · rw [upd_ne ne] at hd
        refine qe i d _ hp (fun b u k => ?_) ?_ upd_same
        · have k1 := x1 b u k
          rw [upd_ne (ne_of_none k1 hd), del_ne (ne_of_none k1 he), upd_ne (ne_of_none k1 he), upd_ne (ne_of_none k1 hd), upd_ne (ne_of_none k1 he)]
          exact k1
        · cases hh : H d with
          | none => rfl
          | some u => exact absurd (x1 d u hh) (by rw [hd]; exact fun z => nomatch z)
    | none =>
      refine iteF ?_
      obtain ⟨xs, ys, rfl, rfl⟩ := part_some hp
      obtain ⟨ax, rfl, sqx, _⟩ := hx
      obtain ⟨ay, rfl, sqy, _⟩ := hy
      have hz' := hz xs ys rfl rfl
      refine ⟨_, rfl, ax, xs, rfl, sqx.ext x1, fun t2 H2 x2 s2 => ?_⟩
      have a2 : H2 a = some (.ins C dx []) := x2 _ _ (x1 _ _ ha)
      refine ⟨_, rfl, a, C, dx, _, rfl, a2, T.cl, T.nf, Nat.le_of_ble_eq_true rfl, ?_⟩
      obtain ⟨H3, hH3⟩ : ∃ H3, H3 = L2.upd H2 a (.ins C dx (putF "folders" (.ref t2) [])) := ⟨_, rfl⟩
      rw [← hH3]
      have a3 : H3 a = some (.ins C dx (putF "folders" (.ref t2) [])) := by rw [hH3, upd_same]
      have b3 : But H2 H3 a := by
        rw [hH3]
        exact But.upd (ext_but Ext.rfl')
      have b03 : But H H3 a := (ext_but (x1.trans x2)).trans b3
      have sqy3 : SeqAt2 K H3 ay ys := sqy.elim (fun z => .inl (sqL_but z b03 ha)) fun z => .inr (sqT_but z b03 ha)
      refine ⟨_, rfl, ay, ys, rfl, sqy3, fun t4 H4 x4 s4 => ?_⟩
      refine ⟨_, rfl, a, C, dx, _, rfl, x4 _ _ a3, T.cl, T.nt, Nat.le_of_ble_eq_true rfl, ?_⟩
      obtain ⟨H5, hH5⟩ : ∃ H5, H5 = L2.upd H4 a (.ins C dx (putF "things" (.ref t4) (putF "folders" (.ref t2) []))) := ⟨_, rfl⟩
      rw [← hH5]
      have a5 : H5 a = some (.ins C dx (putF "things" (.ref t4) (putF "folders" (.ref t2) []))) := by rw [hH5, upd_same]
      have b5 : But H4 H5 a := by
        rw [hH5]
        exact But.upd (ext_but Ext.rfl')
      have s2' : SqT K H5 t2 xs := sqT_but (sqT_but s2 (b3.trans (ext_but x4)) a2) b5 (x4 _ _ a3)
      have s4' : SqT K H5 t4 ys := sqT_but s4 b5 (x4 _ _ a3)
      refine ⟨_, rfl, a, C, dx, _, _, rfl, a5, T.cl, T.nf, rfl, _, rfl, a, C, dx, _, _, rfl, a5, T.cl, T.nt, rfl, t2, t4, xs, ys, rfl, rfl, s2', s4', hz', fun t6 H6 x6 s6 => ?_⟩
      refine ⟨_, rfl, a, C, dx, _, rfl, x6 _ _ a5, T.cl, T.nn, Nat.le_of_ble_eq_true rfl, ?_⟩
      obtain ⟨H7, hH7⟩ : ∃ H7, H7 = L2.upd H6 a (.ins C dx (putF "nodes" (.ref t6) (putF "things" (.ref t4) (putF "folders" (.ref t2) [])))) := ⟨_, rfl⟩
      rw [← hH7]
      have b7 : But H6 H7 a := by
        rw [hH7]
        exact But.upd (ext_but Ext.rfl')
      have a6 := x6 _ _ a5
      refine qn xs ys H7 rfl rfl hp (((b03.trans (ext_but x4)).trans b5).trans ((ext_but x6).trans b7)) ?_
      exact ⟨dx, _, t2, t4, t6, by rw [hH7, upd_same], rfl, rfl, rfl, sqT_but (s2'.ext x6) b7 a6, sqT_but (s4'.ext x6) b7 a6, sqT_but s6 b7 a6⟩
end
end My

namespace PySem
namespace MyN
open PySem.W Builtin PySem.SeqAt PySem.MeetsSeq MeetsSeq2
open AutoSeq1 (wpAny_loadPart')
/-- str.__eq__ with an object that holds no text -/
theorem str_no_plain (b : Str) (u : Tok) (l : Addr) (ob : Obj) (hd : ob.data = .plain) :
    Meets (Builtin.«str.__eq__» ⟨[.str b u, .ref l], []⟩) (fun _ R s => s.heap.get? l = some ob ∧ R (.ok (.ret .notImplemented)) s) :=
  .of_wp fun P1 w1 A1 R1 s1 z => by
    obtain ⟨hp, gs, dr, tk, oz⟩ := s1
    obtain ⟨z1, z2⟩ := z
    obtain ⟨oc, od, dt, sl⟩ := ob
    simp only at hd
    subst hd
    wp_walk using wpAny_loadPart' z1, wpAny_load z1
    exact ⟨_, rfl, z2⟩
theorem str_no_dict (b : Str) (u : Tok) (l : Addr) (ob : Obj) (es : Array DictEntry) (ep : Nat) (hd : ob.data = .dict es ep) :
    Meets (Builtin.«str.__eq__» ⟨[.str b u, .ref l], []⟩) (fun _ R s => s.heap.get? l = some ob ∧ R (.ok (.ret .notImplemented)) s) :=
  .of_wp fun P1 w1 A1 R1 s1 z => by
    obtain ⟨hp, gs, dr, tk, oz⟩ := s1
    obtain ⟨z1, z2⟩ := z
    obtain ⟨oc, od, dt, sl⟩ := ob
    simp only at hd
    subst hd
    wp_walk using wpAny_loadPart' z1, wpAny_load z1
    exact ⟨_, rfl, z2⟩
/-- dict.__eq__ with a text -/
theorem dict_no_str (b : Str) (u : Tok) (l : Addr) (ob : Obj) (hc : ob.cls = .type "dict") :
    Meets (Builtin.«dict.__eq__» ⟨[.ref l, .str b u], []⟩) (fun _ R s => s.heap.get? l = some ob ∧ R (.ok (.ret .notImplemented)) s) :=
  .of_wp fun P1 w1 A1 R1 s1 z => by
    obtain ⟨hp, gs, dr, tk, oz⟩ := s1
    obtain ⟨z1, z2⟩ := z
    obtain ⟨oc, od, dt, sl⟩ := ob
    simp only at hc
    subst hc
    have f1 := F.sub_str_dict
    wp_walk using wpAny_loadPart' z1, wpAny_load z1
    exact ⟨_, rfl, z2⟩
theorem eq_str_dict {A : Around} {s : Shared} {l : Addr} {ob : Obj} {es : Array DictEntry} {ep : Nat} (b : Str) (u : Tok) (hl : s.heap.get? l = some ob) (hc : ob.cls = .type "dict") (hd : ob.data = .dict es ep) (hu : A.units < cLine) : EqAt A s (.str b u) (.ref l) false := fun prog w E Q h => by
  unfold eqBool
  refine wpAny_holding ?_
  refine wpAny_ite_split (fun hab => absurd (eq_of_beq hab) nofun) (fun _ => ?_)
  refine wpAny_bind (rc_eq_decline_or (k := false) (typeIs_str s b u) ⟨_, hl, hc⟩ (by decide) F.sub_dict_str F.slot_str_eq F.slot_dict_eq_refl
    (fun _ hq => call_meets F.slot_str_eq (typeIs_str s b u) F.entry_str_eq (F.args_str_eq_2 _ _) (str_no_dict b u l ob es ep hd) ⟨hl, hq⟩)
    (fun _ hq => call_meets F.slot_dict_eq_refl ⟨_, hl, hc⟩ F.entry_dict_eq (F.args_dict_eq_2 _ _) (dict_no_str b u l ob hc) ⟨hl, hq⟩)
    (fun _ hq => wpAny_of_eq (rfl : isSame (.str b u) (.ref l) = pure false) hq) (.inr hu) (wpAny_truthy_bool h))
section
variable {prog : Program} {w : World} {A : Around} {E : Value → Shared → Prop} {s : Shared} {K : Frag} {x C f : Addr} {ox : Obj} {od : Option Obj}
/-- text == x, x an instance with its own __eq__: that one is asked -/
theorem eqb_str_own {b : Str} {u : Tok} {Q : Bool → Shared → Prop} (hu : A.units < cLine) (X : K.In s.heap) (I : InstAt s.heap x ox C od) (hp : ox.data = .plain) (nf : subIn K (.ref C) (.type "str") = some false)
    (hs : findIn K (.ref C) "__eq__" = some (some (.ref f))) (hf : isFn K (.ref f) = true)
    (h : wpAny (model prog w) A (call (.ref f) [.ref x, .str b u]) (fun r s' => ∃ k, r = .bool k ∧ Q k s') E s) : wpAny (model prog w) A (eqBool (.str b u) (.ref x)) Q E s := by
  have hx : s.heap.get? x = some ox := I.1
  have one : wpAny (model prog w) A (tryCompare (.ref x) "__eq__" (.str b u)) (fun r s' => ∃ k, r = some (.bool k) ∧ Q k s') E s := by
    unfold tryCompare
    refine wpAny_bind (ifBound_K X I hs hf (wpAny_mono h (fun v s' hv => ?_) fun _ _ e => e))
    obtain ⟨k, rfl, q⟩ := hv
    exact wpAny_pure ⟨k, rfl, q⟩
  unfold eqBool
  refine wpAny_holding ?_
  refine wpAny_ite_split (fun hab => absurd (eq_of_beq hab) nofun) (fun _ => ?_)
  refine wpAny_bind ?_
  have z := (typeIs_str s b u)
  simp only [richCompare, z.oneThing_none]
  refine wpAny_holding (wpAny_bind (wpAny_cRoomFor_or (.inr hu) ?_))
  refine wpAny_bind (wpAny_typeOf z (wpAny_bind (I.type.here ?_)))
  have ne : (Value.type "str" != Value.ref C) = true := rfl
  simp only [ne, if_true]
  refine wpAny_bind ((looks_subIn X nf).here ?_)
  simp only [Bool.false_eq_true, if_false, Bool.not_false, if_true]
  refine wpAny_bind (m := tryCompare (.str b u) _ (.ref x)) (wpAny_tryCompare_declines z F.slot_str_eq (call_meets F.slot_str_eq z F.entry_str_eq (F.args_str_eq_2 _ _) (str_no_plain b u x ox hp) ⟨hx, rfl, ?_⟩))
  refine wpAny_bind (m := tryCompare (.ref x) _ (.str b u)) (wpAny_mono one (fun r s' hr => ?_) fun _ _ e => e)
  obtain ⟨k, rfl, q⟩ := hr
  exact wpAny_pure (wpAny_truthy_bool q)
/-- x in a tuple, none of the items is equal to x; I stands all along -/
theorem in_none {l : Addr} {items : Array Value} {y : Value} {Q : Value → Shared → Prop} (J : Shared → Prop) (hl : s.heap.IsTuple l items)
    (turn : ∀ v, v ∈ items → ∀ s', J s' → wpAny (model prog w) A.in1 (eqBool v y) (fun r s2 => r = false ∧ J s2) E s') (fin : ∀ s', J s' → Q (.bool false) s') (h : J s) :
    wpAny (model prog w) A (compareOp .In y (.ref l)) Q E s := by
  obtain ⟨⟨cls, dd, data, sl⟩, ho, hc, n, hd⟩ := id hl
  simp only at hc hd
  subst hc hd
  have hT : s.TypeIs (.ref l) "tuple" := ⟨_, ho, rfl⟩
  have body : wpAny (model prog w) A (call (.builtin "tuple.__contains__") [.ref l, y]) (fun v s' => v = .bool false ∧ J s') E s := by
    refine GQ.call_here F.slot_tuple_contains hT F.entry_tuple_contains (F.args_tuple_contains_2 _ _) ?_
    obtain ⟨hp, gs, dr, tk, oz⟩ := s
    have go : ∀ v, v ∈ items.toList → ∀ s', J s' → wpAny (model prog w) A.in1 (eqBool v y) (fun r s2 => r = false ∧ J s2) (fun e s' => wants (fun v s' => v = Value.bool false ∧ J s') E (.error e) s') s' := fun v hv s' hj => turn v (by simpa using hv) s' hj
    wp_walk using wpAny_loadPart' ho, wpAny_forIn_array _ (fun rest b s' => b.1 = none ∧ (∀ v, v ∈ rest → v ∈ items.toList) ∧ J s') _
    case turn =>
      rintro v rest b s' ⟨hb, hmem, hJ⟩
      refine wpAny_bind (wpAny_mono (go v (hmem v (List.mem_cons_self ..)) s' hJ) (fun r s2 q => ?_) fun _ _ e => e)
      obtain ⟨rfl, hJ2⟩ := q
      wp_walk
      exact ⟨rfl, fun z hz => hmem z (List.mem_cons_of_mem _ hz), hJ2⟩
    case fin =>
      rintro ⟨b1, b2⟩ s' ⟨hb, -, hJ⟩
      simp only at hb
      subst hb
      wp_walk
      exact ⟨rfl, hJ⟩
    case h =>
      exact ⟨rfl, fun v hv => by simpa using hv, h⟩
  show wpAny _ A (do return .bool (← contains (.ref l) y)) Q E s
  refine wpAny_bind (wpAny_contains_slot hT F.slot_tuple_contains (wpAny_mono body (fun v s' hv => ?_) fun _ _ e => e))
  obtain ⟨rfl, hJ⟩ := hv
  exact wpAny_truthy_bool (wpAny_pure (fin s' hJ))
end
end MyN
end PySem

namespace L2
open PySem PySem.Spec PyProof.Rows
section
variable {X : Cx} {CI : CXT} {f : Addr} {fd : FuncData} {ps : List Str} {sp : Sp} {EI : XK} {n : Nat} {C : Addr}
/-- a list, a tuple or a dict -/
def NoText (K : PySem.W.Frag) (H : Hp) (x : V) : Prop := (∃ a xs, x = .ref a ∧ (SqL K H a xs ∨ SqT K H a xs)) ∨ ∃ a kvs, x = .ref a ∧ H a = some (.dK kvs)
theorem NoText.eqAt {pins : List (Addr × Obj)} {σ : St} {H : Hp} {s : Shared} {A : Around} {x : V} {u : Value} (I : Inv X pins σ H s) (rx : RelV x u) (h : NoText X.K H x) (hu : A.units < cLine) (b : Str) (t : Tok) : SeqAt.EqAt A s (.str b t) u false := by
  rcases h with ⟨a, xs, rfl, h | h⟩ | ⟨a, kvs, rfl, h⟩
  · cases rx
    obtain ⟨its, r, pl, _⟩ := I.list h
    exact SeqAt.EqAt.str_list b t pl.isList hu
  · cases rx
    obtain ⟨its, r, pl, _⟩ := I.tuple h
    exact SeqAt.EqAt.str_tuple b t (show s.heap.IsTuple a its.toArray from pl) hu
  · cases rx
    obtain ⟨_, _, vs, _, o, es, ep, h1, h2, h3, _⟩ := (show ObjOk X.prog X.w H s.heap a (.dK kvs) from I.hok a _ h)
    exact MyN.eq_str_dict b t h1 h2.1 h3 hu
theorem vals_str : ∀ {zs : List Str} {us : List Value}, Vals (zs.map V.str) us → ∀ u ∈ us, ∃ z t, z ∈ zs ∧ u = .str z t
  | [], _, .nil, u, hu => by cases hu
  | z :: zs, _, .cons r t, u, hu => by
    rcases List.mem_cons.mp hu with rfl | hu
    · obtain ⟨t, e⟩ := r
      exact ⟨z, t, List.mem_cons_self, e⟩
    · obtain ⟨z', t', h1, h2⟩ := vals_str t u hu
      exact ⟨z', t', List.mem_cons_of_mem _ h1, h2⟩
/-- x in a tuple of texts, x a list, a tuple, a dict -/
def rInN (K : PySem.W.Frag) : R2 := fun x y H Q => ∃ (p : Addr) (zs : List Str), y = .ref p ∧ SqT K H p (zs.map V.str) ∧ NoText K H x ∧ Q (.bl false) H
theorem op_inN (hu : X.A.units + 1 < cLine) : OpR X (compareOp .In) (rInN X.K) := by
  intro pins s σ H x y v u Q I rx ry h
  obtain ⟨p, zs, rfl, hq, nt, q⟩ := h
  cases ry
  obtain ⟨its, r, pl, hz⟩ := I.tuple hq
  refine SeqAt.in_tupleAt (fun _ => false) (show s.heap.IsTuple p its.toArray from pl) (fun w hw => ?_) ⟨.bl _, H, I, rfl, ?_⟩
  · obtain ⟨z, t, _, rfl⟩ := vals_str r w (by simpa using hw)
    exact nt.eqAt I rx (show X.A.in1.units < cLine from hu) z t
  · rw [show its.toArray.any (fun _ => false) = false by simp]
    exact q
/-- x in a tuple of texts, x an instance with its own == that gives False for them -/
def rInI (K : PySem.W.Frag) (C : Addr) (sp : Sp) (E : XK) : R2 := fun x y H Q => ∃ (p : Addr) (zs : List Str) (a dx : Addr) (fs : List (Str × V)), y = .ref p ∧ SqT K H p (zs.map V.str) ∧ x = .ref a ∧ H a = some (.ins C dx fs) ∧
  (∀ z H1, z ∈ zs → Ext H H1 → sp [.ref a, .str z] H1 (fun v H2 => v = .bl false ∧ Ext H1 H2) E) ∧ ∀ H', Ext H H' → Q (.bl false) H'
theorem op_inI (hr : Room (n + 1) X.A) (M : OwnM X.K C "__eq__" f) (nf : PySem.W.subIn X.K (.ref C) (.type "str") = some false) (F : FnOk X.prog X.w X.K X.mg X.base CI n f fd ps sp) (hb : Binds X.K fd ps []) (hx : Passes CI X EI) : OpR X (compareOp .In) (rInI X.K C sp EI) := by
  intro pins s σ H x y v u Q I rx ry h
  obtain ⟨p, zs, a, dx, fs, rfl, hq, rfl, ha, hsp, q⟩ := h
  cases ry
  cases rx
  obtain ⟨its, r, pl, hz⟩ := I.tuple hq
  have sb : Sub X n X.A.in1 := Sub.in1 (⟨hr, rfl⟩ : Sub X (n + 1) X.A)
  refine MyN.in_none (fun s' => ∃ H', Inv X pins σ H' s' ∧ Ext H H') (show s.heap.IsTuple p its.toArray from pl) (fun w hw s' hJ => ?_) (fun s' hJ => ?_) ⟨H, I, Ext.rfl'⟩
  · obtain ⟨z, t, hz, rfl⟩ := vals_str r w (by simpa using hw)
    obtain ⟨H', I', x'⟩ := hJ
    have ha' := x' _ _ ha
    obtain ⟨mA, J, _⟩ := ins_get I'.hok ha'
    obtain ⟨od, J, _⟩ := J.look
    refine MyN.eqb_str_own sb.room.units0 I'.kIn J rfl nf M.at_ M.fn ?_
    refine wpAny_mono (run_sub sb F (envSub I' sb) hb hx I' (rv2 a (y := .str z) (u := .str z t) ⟨t, rfl⟩) (hsp z H' hz x')) (fun w2 s2 hq2 => ?_) fun _ _ z => z
    obtain ⟨y2, H2, I2, rz, rfl, x2⟩ := hq2
    cases rz
    exact ⟨false, rfl, rfl, H2, I2, x'.trans x2⟩
  · obtain ⟨H', I', x'⟩ := hJ
    exact ⟨.bl false, H', I', rfl, q H' x'⟩
end
end L2

namespace My
open PySem PySem.Spec PyProof.Rows L2
/-! ### tuples and lists of texts as data -/
theorem dpAll_str {K : PySem.W.Frag} {H : Hp} : ∀ zs : List Str, DpAll K H (zs.map V.str) (zs.map PyData.str)
  | [] => .nil
  | z :: zs => .cons (.str z) (dpAll_str zs)
def OkS (zs : List Str) : Prop := ∀ z, z ∈ zs → PyData.strOk z = true
theorem canLay_str : ∀ zs : List Str, OkS zs → PyData.canLayAll0 (zs.map PyData.str) = true
  | [], _ => rfl
  | z :: zs, h => by
    show (PyData.strOk z && PyData.canLayAll0 (zs.map PyData.str)) = true
    rw [canLay_str zs fun y hy => h y (List.mem_cons_of_mem _ hy), h z List.mem_cons_self]
    rfl
theorem depths_str : ∀ zs : List Str, PyData.depthAll (zs.map PyData.str) ≤ 1
  | [] => Nat.zero_le _
  | z :: zs => Nat.max_le.mpr ⟨Nat.le_of_ble_eq_true rfl, depths_str zs⟩
theorem shaped_strT (zs : List Str) (h0 : OkS zs) : SeqAt.shaped (.tuple (zs.map PyData.str)) = true := by
  refine Bool.and_eq_true_iff.mpr ⟨canLay_str zs h0, decide_eq_true ?_⟩
  have h := depths_str zs
  show PyData.depthAll (zs.map PyData.str) + 1 ≤ 64
  omega
theorem shaped_strL (zs : List Str) (h0 : OkS zs) : SeqAt.shaped (.list (zs.map PyData.str)) = true := by
  refine Bool.and_eq_true_iff.mpr ⟨canLay_str zs h0, decide_eq_true ?_⟩
  have h := depths_str zs
  show PyData.depthAll (zs.map PyData.str) + 1 ≤ 64
  omega
theorem eqvAll_str : ∀ zs ws : List Str, PyData.eqvAll (zs.map PyData.str) (ws.map PyData.str) = decide (zs = ws)
  | [], [] => rfl
  | [], _ :: _ => rfl
  | _ :: _, [] => rfl
  | z :: zs, w :: ws => by
    show (PyData.eqv (.str z) (.str w) && PyData.eqvAll (zs.map PyData.str) (ws.map PyData.str)) = _
    rw [eqvAll_str zs ws]
    show ((z == w) && decide (zs = ws)) = _
    by_cases h : z = w
    · subst h
      simp
    · simp [h]
theorem eqv_strT (zs ws : List Str) : PyData.eqv (.tuple (zs.map PyData.str)) (.tuple (ws.map PyData.str)) = decide (zs = ws) := eqvAll_str zs ws
/-- a house of names -/
def Hou (H : Hp) (K : PySem.W.Frag) (C a : Addr) (fo th : List Str) : Prop := HouseAt H K C a (fo.map V.str) (th.map V.str) ∧ OkS fo ∧ OkS th
theorem Hou.ext {H H' : Hp} {K : PySem.W.Frag} {C a : Addr} {fo th : List Str} (h : Hou H K C a fo th) (e : Ext H H') : Hou H' K C a fo th := ⟨HouseAt.ext h.1 e, h.2⟩
theorem Hou.ins {H : Hp} {K : PySem.W.Frag} {C a : Addr} {fo th : List Str} (h : Hou H K C a fo th) : ∃ dx fs, H a = some (.ins C dx fs) := by
  obtain ⟨⟨dx, fs, _, _, _, h1, _⟩, _⟩ := h
  exact ⟨dx, fs, h1⟩
def spHLen (K : PySem.W.Frag) (C : Addr) : Sp := fun vs H Q _ => ∃ a fo th, vs = [.ref a] ∧ Hou H K C a fo th ∧ Q (.int ((fo ++ th).length : Nat)) H
def spHEq (K : PySem.W.Frag) (C : Addr) : Sp := fun vs H Q _ => ∃ a fo th y, vs = [.ref a, y] ∧ Hou H K C a fo th ∧ ((∃ t, TyX K H y t ∧ PySem.W.kitOne K t (.ref C) = some false ∧ Q (.bl false) H) ∨
  ∃ b fo2 th2, y = .ref b ∧ Hou H K C b fo2 th2 ∧ Q (.bl (decide (fo = fo2) && decide (th = th2))) H)
def spHHas (K : PySem.W.Frag) (C : Addr) : Sp := fun vs H Q _ => ∃ a fo th y, vs = [.ref a, y] ∧ Hou H K C a fo th ∧ ((flatV y = true ∧ Q (.bl (inV y ((fo ++ th).map V.str))) H) ∨ (NoText K H y ∧ Q (.bl false) H) ∨
  ∃ b fo2 th2, y = .ref b ∧ Hou H K C b fo2 th2 ∧ ∀ H', Ext H H' → Q (.bl false) H')
theorem tyH {K : PySem.W.Frag} {H : Hp} {C a : Addr} {fo th : List Str} (T : HouC K C) (h : Hou H K C a fo th) : TyX K H (.ref a) (.ref C) := by
  obtain ⟨dx, fs, e⟩ := h.ins
  exact .base (.ins e T.cl T.ha T.hn T.htk T.hm)
section
variable {P : Program} {w : World} {K : PySem.W.Frag} {mg : Str → Option Value} {base : Heap} {f fE C : Addr} {fd fdE : FuncData}
theorem ok_hLen (Fn : FunD K "__len__" "House.__len__" (defArgs sHLen) (defBody sHLen) (defScope sHLen) [] [] f fd) (T : HouC K C) (gN : mg "len" = none) : FnOk P w K mg base CX0 1 f fd ["self"] (spHLen K C) := by
  refine Fn.ok scHLen (fun vs H Q E h => ?_) (fun cdv A outer s H vs Q E hr h => ⟨_, PSs.nox (pss_one (ps_ret (pe_callB call_len (by rfl) gN boot_len (pa_cons (pe_fld (pv 0) rfl) pa_nil)))), ?_⟩)
  · obtain ⟨a, fo, th, rfl, _⟩ := h
    rfl
  · obtain ⟨a, fo, th, rfl, ⟨⟨dx, fs, f, t, n, h1, h2, h3, h4, h5, h6, h7⟩, ok1, ok2⟩, q⟩ := h
    refine ⟨_, rfl, a, C, dx, fs, _, rfl, h1, T.cl, T.nn, h4, _, _, rfl, .inr ⟨_, h7, rfl⟩, ?_⟩
    rw [← List.map_append, List.length_map]
    exact q
theorem ok_hIter (Fn : FunD K "__iter__" "House.__iter__" (defArgs sHIter) (defBody sHIter) (defScope sHIter) [] [] f fd) (T : HouC K C) (gI : mg "iter" = none) : FnOk P w K mg base CX0 1 f fd ["self"] (spIter K C "nodes" base.objs.size) := by
  refine Fn.ok scHIter (fun vs H Q E h => ?_) (fun cdv A outer s H vs Q E hr h => ⟨_, PSs.nox (pss_one (ps_ret (pe_callB call_iterT (by rfl) gI boot_iter (pa_cons (pe_fld (pv 0) rfl) pa_nil)))), ?_⟩)
  · obtain ⟨a, _, _, _, _, rfl, _⟩ := h
    rfl
  · obtain ⟨a, dx, fs, l, zs, rfl, h1, h2, h3, q⟩ := h
    exact ⟨_, rfl, a, C, dx, fs, _, rfl, h1, T.cl, T.nn, h2, l, zs, rfl, h3, q⟩
theorem ok_hEq (Fn : FunD K "__eq__" "House.__eq__" (defArgs sHEq) (defBody sHEq) (defScope sHEq) [] [] f fd) (T : HouC K C) (gI : mg "isinstance" = none) (gH : mg "House" = some (.ref C)) (kC : PySem.W.kitOne K (.ref C) (.ref C) = some true) :
    FnOk P w K mg base CX0 1 f fd ["self", "other"] (spHEq K C) := by
  refine Fn.ok scHEq (fun vs H Q E h => ?_) (fun cdv A outer s H vs Q E hr h => ⟨_, PSs.nox (pss_one (ps_ret
    (pe_and (pe_callB call_isi (by rfl) gI boot_isinstance (pa_cons (pv 1) (pa_cons (pe_glob (v := .ref C) (by rfl) gH rfl) pa_nil)))
    (pe_and (pe_cmpR (op_eqD hr.units) (pe_fld (pv 0) rfl) (pe_fld (pv 1) rfl) (nomark _))
    (pe_one (pe_cmpR (op_eqD hr.units) (pe_fld (pv 0) rfl) (pe_fld (pv 1) rfl) (nomark _))))))), ?_⟩)
  · obtain ⟨a, _, _, _, rfl, _⟩ := h
    rfl
  · obtain ⟨a, fo, th, y, rfl, ho, h⟩ := h
    rcases h with ⟨t, ty, kt, q⟩ | ⟨b, fo2, th2, rfl, ho2, q⟩
    · refine ⟨_, rfl, y, .ref C, t, .ref C, false, rfl, .own C, ty, kt, false, rfl, ?_⟩
      exact q
    · refine ⟨_, rfl, .ref b, .ref C, .ref C, .ref C, true, rfl, .own C, tyH T ho2, kC, true, rfl, ?_⟩
      refine iteT ?_
      obtain ⟨⟨dx, fs, f, t, n, h1, h2, h3, h4, h5, h6, h7⟩, ok1, ok2⟩ := ho
      obtain ⟨⟨dx', fs', f', t', n', g1, g2, g3, g4, g5, g6, g7⟩, pk1, pk2⟩ := ho2
      refine ⟨_, rfl, a, C, dx, fs, _, rfl, h1, T.cl, T.nf, h2, _, rfl, b, C, dx', fs', _, rfl, g1, T.cl, T.nf, g2, _, _, .tup h5 (dpAll_str fo), .tup g5 (dpAll_str fo2), shaped_strT fo ok1, shaped_strT fo2 pk1, _, rfl, ?_⟩
      rw [eqv_strT]
      refine ite2 (fun e => ?_) (fun e => ?_)
      · refine ⟨_, rfl, a, C, dx, fs, _, rfl, h1, T.cl, T.nt, h3, _, rfl, b, C, dx', fs', _, rfl, g1, T.cl, T.nt, g3, _, _, .tup h6 (dpAll_str th), .tup g6 (dpAll_str th2), shaped_strT th ok2, shaped_strT th2 pk2, ?_⟩
        rw [eqv_strT]
        rw [e, Bool.true_and] at q
        exact q
      · have e' : decide (fo = fo2) = false := by simpa using e
        rw [e', Bool.false_and] at q
        exact q
theorem ok_hHas (Fn : FunD K "__contains__" "House.__contains__" (defArgs sHHas) (defBody sHHas) (defScope sHHas) [] [] f fd) (T : HouC K C) (nf : PySem.W.subIn K (.ref C) (.type "str") = some false) (Me : OwnM K C "__eq__" fE)
    (FE : FnOk P w K mg base CX0 1 fE fdE ["self", "other"] (spHEq K C)) (bE : Binds K fdE ["self", "other"] []) (kS : PySem.W.kitOne K (.type "str") (.ref C) = some false) : FnOk P w K mg base CX0 3 f fd ["self", "x"] (spHHas K C) := by
  refine Fn.ok scHHas (fun vs H Q E h => ?_) (fun cdv A outer s H vs Q E hr h => ⟨_, PSs.nox (pss_one (ps_ret
    (pe_cmpR (OpR.or op_in_seq (OpR.or (op_inN (Nat.lt_of_le_of_lt (Nat.add_le_add_left (by decide : 1 ≤ 64) _) hr.units)) (op_inI (EI := E0) hr Me nf FE bE pass0))) (pv 1) (pe_fld (pv 0) rfl) (by rfl)))), ?_⟩)
  · obtain ⟨a, _, _, _, rfl, _⟩ := h
    rfl
  · obtain ⟨a, fo, th, y, rfl, ho, h⟩ := h
    have ho' := ho
    obtain ⟨⟨dx, fs, f, t, n, h1, h2, h3, h4, h5, h6, h7⟩, ok1, ok2⟩ := ho
    rw [← List.map_append] at h7
    refine ⟨_, rfl, _, rfl, a, C, dx, fs, _, rfl, h1, T.cl, T.nn, h4, ?_⟩
    rcases h with ⟨fy, q⟩ | ⟨ny, q⟩ | ⟨b, fo2, th2, rfl, ho2, q⟩
    · exact .inl ⟨n, _, rfl, .inr h7, fy, by rw [List.all_map]; exact List.all_eq_true.mpr fun _ _ => rfl, q⟩
    · exact .inr (.inl ⟨n, fo ++ th, rfl, h7, ny, q⟩)
    · obtain ⟨dx', fs', g1⟩ := ho2.ins
      refine .inr (.inr ⟨n, fo ++ th, b, dx', fs', rfl, h7, rfl, g1, fun z H1 _ x1 => ?_, q⟩)
      exact ⟨b, fo2, th2, .str z, rfl, ho2.ext x1, .inl ⟨_, .base (.str z), kS, rfl, Ext.rfl'⟩⟩
end
end My

namespace L2
open PySem PySem.Spec PyProof.Rows
/-- C(..) where __init__ may raise, wished for at the caller's slots -/
def tMakeS (C : Addr) (sp : Sp) (ws : List V) (W : L2.St → XK) (t : TA) : TE := fun σ H Q => t σ H fun vs H1 => ∀ x dx, H1 x = none → H1 dx = none → dx ≠ x →
  sp (.ref x :: (vs ++ ws)) (upd (upd H1 dx (.own x)) x (.ins C dx [])) (fun v H2 => v = .non ∧ Q (.ref x) H2) (W σ)
section
variable {X : Cx} {CI : CXT} {n : Nat} {fI C : Addr} {fd : FuncData} {ps : List Str} {sp : Sp} {ws : List V} {wu : List Value} {W : L2.St → XK} {x : Str} {p pos : Pos} {e : Expr} {es : List Expr} {t : TA}
theorem make_sub {pins : List (Addr × Obj)} {σ : L2.St} {H : Hp} {s : Shared} {Q : VK} {us : List Value} {vs : List V} {EW : XK} (M : Mk X.K C fI) (Fi : FnOk X.prog X.w X.K X.mg X.base CI n fI fd ps sp) (room : Room (n + 1) X.A)
    (bi : Binds X.K fd ps wu) (rw' : Vals ws wu) (let_ : PassesAt CI X σ EW) (I : Inv X pins σ H s) (rv : Vals vs us)
    (go : ∀ y dy, H y = none → H dy = none → dy ≠ y → sp (.ref y :: (vs ++ ws)) (upd (upd H dy (.own y)) y (.ins C dy [])) (fun v H2 => v = .non ∧ Q (.ref y) H2) EW) :
    wpAny (model X.prog X.w) X.A (call (.ref C) us) (EP X pins σ Q) X.xe s := by
  have want := go (s.heap.objs.size + 1) s.heap.objs.size (I.hok.fresh (Nat.le_succ _)) (I.hok.fresh (Nat.le_refl _)) (Nat.ne_of_lt (Nat.lt_succ_self _))
  have J := Inv.made (C := C) I
  have all : Vals (V.ref (s.heap.objs.size + 1) :: (vs ++ ws)) (Value.ref (s.heap.objs.size + 1) :: (us ++ wu)) := .cons rfl (rv.append rw')
  have many : (Value.ref (s.heap.objs.size + 1) :: us ++ wu).length = ps.length := all.length.symm.trans (Fi.len _ _ _ _ want)
  have ran := Fi.run _ X.stack _ _ ⟨Value.ref (s.heap.objs.size + 1) :: us, []⟩ _ _ _ EW (room.make C us []) (J.env0.make C us []) (bi _ _ J.kIn many) all want
  refine wpAny_call (make_map (f := fI) I.kIn M.makes M.init (beq_iff_eq.mp M.fn) (codeAny_mono ran ?_))
  rintro (er | fl) s' back
  · exact let_ pins _ _ er s' J back
  · cases fl with
    | ret u =>
      obtain ⟨v, H', J', ru, ⟨ev, q⟩⟩ := J.after back
      subst ev
      exact ⟨ru, .ref _, H', J', rfl, q⟩
    | next => exact back.elim
    | brk => exact back.elim
    | cont => exact back.elim
theorem pe_makeS (M : Mk X.K C fI) (Fi : FnOk X.prog X.w X.K X.mg X.base CI n fI fd ps sp) (room : Room (n + 1) X.A) (gl : Gl X x) (gm : X.mg x = some (.ref C)) (bi : Binds X.K fd ps wu) (rw' : Vals ws wu) (let_ : ∀ σ, PassesAt CI X σ (W σ))
    (ha : PA X (e :: es) t) (nd : (x == ("__debug__" : Str)) = false := by decide) (h1 : starEach (e :: es) X.env = (false, eval e X.env) :: starEach es X.env := by rfl) (h2 : (backTo pos (starEach es X.env)).any (·.1) = false := by rfl) :
    PE X (.Call (.Name x p) (e :: es) [] pos) (tMakeS C sp ws W t) :=
  ⟨fun pins s σ H Q I h => wpAny_Call_Name_kw (ld_glob I gl gm (PySem.W.callWith_K (h₀ := X.base) I.ok.mod.kin M.kp (thn (ha.run pos pins s σ H _ I h) fun _ _ ⟨_, _, I1, r, q⟩ => ⟨I1.kIn, make_sub M Fi room bi rw' (let_ σ) I1 r q⟩) h1 h2) nd)⟩
end
end L2

namespace L2
open PySem PySem.Spec PyProof.Rows
/-- a dict == a text -/
def rEqDS : R2 := fun x y H Q => ∃ a kvs z, x = .ref a ∧ y = .str z ∧ H a = some (.dK kvs) ∧ Q (.bl false) H
theorem op_eqDS {X : Cx} (hu : X.A.units < cLine) : OpR X (compareOp .Eq) rEqDS := by
  intro pins s σ H x y v u Q I rx ry h
  obtain ⟨a, kvs, z, rfl, rfl, ha, q⟩ := h
  cases rx
  obtain ⟨t, rfl⟩ := ry
  obtain ⟨_, _, vs, _, o, es, ep, h1, h2, h3, _⟩ := (show ObjOk X.prog X.w H s.heap a (.dK kvs) from I.hok a _ ha)
  show wpAny _ _ (richCompare .Eq (.ref a) (.str z t)) _ _ s
  exact SeqAt.rc_eq_decline_or (k := false) ⟨_, h1, h2.1⟩ (PySem.typeIs_str s z t) (by decide) F.sub_str_dict F.slot_dict_eq F.slot_str_eq_refl
    (fun _ hq => call_meets F.slot_dict_eq ⟨_, h1, h2.1⟩ F.entry_dict_eq (F.args_dict_eq_2 _ _) (MyN.dict_no_str z t a o h2.1) ⟨h1, hq⟩)
    (fun _ hq => call_meets F.slot_str_eq_refl (PySem.typeIs_str s z t) F.entry_str_eq (F.args_str_eq_2 _ _) (MyN.str_no_dict z t a o es ep h3) ⟨h1, hq⟩)
    (fun _ hq => wpAny_of_eq (rfl : isSame (.ref a) (.str z t) = pure false) hq) (.inr hu) ⟨.bl false, H, I, rfl, q⟩
end L2

namespace L2
open PySem PySem.Spec PyProof.Rows
theorem wp_notB {M : Model} {A : Around} {E : Value → Shared → Prop} {s : Shared} {m : Sem Bool} {Q Q' : Value → Shared → Prop}
  (h : wpAny M A (m >>= fun z => pure (Value.bool z)) Q E s) (hq : ∀ b s', Q (.bool b) s' → Q' (.bool (!b)) s') : wpAny M A (m >>= fun z => pure (Value.bool (!z))) Q' E s := by
  intro Γ p hi
  have z := h Γ p hi
  have z2 : Sem.wp M Γ (m.bind fun z => Sem.pure (Value.bool z)) (fun a x s' => Q a s') (fun e x s' => E e s') p s := z
  show Sem.wp M Γ (m.bind fun z => Sem.pure (Value.bool (!z))) (fun a x s' => Q' a s') (fun e x s' => E e s') p s
  rw [Sem.wp_bind] at z2 ⊢
  exact Sem.wp_mono _ _ _ (fun a p' s' q => hq a s' q) (fun _ _ _ e => e) _ _ z2
def rNot (r : R2) : R2 := fun x y H Q => r x y H (fun v H' => ∃ b, v = .bl b ∧ Q (.bl (!b)) H')
theorem OpR.notIn {X : Cx} {r : R2} (h : OpR X (compareOp .In) r) : OpR X (compareOp .NotIn) (rNot r) := by
  intro pins s σ H x y v u Q I rx ry h2
  have z := h pins s σ H x y v u _ I rx ry h2
  refine wp_notB z fun b s' q => ?_
  obtain ⟨w, H', I', rw', c, rfl, q⟩ := q
  have e : b = c := by cases rw'; rfl
  subst e
  exact ⟨.bl (!b), H', I', rfl, q⟩
end L2

namespace My
open PySem PySem.Spec PyProof.Rows L2
/-! ### names -/
def oddNm : List Str := ["zz", "zzz", "zy", "zr", "zs", "zt", "zu", "zv"]
def Nm (z : Str) : Prop := nameB z = true ∧ z.length ≠ 4 ∧ z ≠ "zq" ∧ z.length ≤ 8 ∧ PyData.strOk z = true ∧ ∀ b ∈ oddNm, z ≠ b
instance (z : Str) : Decidable (Nm z) := by unfold Nm; exact inferInstance
def az : Str := "abcdefghijklmnopqrstuvwxy"
def ap : Str := "abcdefghijklmnop"
def spares : List Str := ap.cps.toList.map fun c => ("z" : Str) ++ (⟨#[c]⟩ : Str) ++ ("q" : Str)
theorem spares_nm : ∀ z ∈ spares, Nm z := by decide +kernel
theorem spares_nd : spares.Nodup := by decide +kernel
theorem spares_len : spares.length = 16 := by decide +kernel
theorem nodup_sub : ∀ (as bs : List Str), as.Nodup → (∀ x, x ∈ as → x ∈ bs) → as.length ≤ bs.length
  | [], bs, _, _ => Nat.zero_le _
  | a :: as, bs, nd, h => by
    obtain ⟨na, nd'⟩ := List.nodup_cons.mp nd
    have ha := h a List.mem_cons_self
    have ih := nodup_sub as (bs.erase a) nd' fun x hx => (List.mem_erase_of_ne (fun e => by rw [e] at hx; exact na hx)).mpr (h x (List.mem_cons_of_mem _ hx))
    rw [List.length_erase_of_mem ha] at ih
    have : 0 < bs.length := List.length_pos_of_mem ha
    rw [List.length_cons]
    omega
theorem inV_str (z : Str) (zs : List Str) : inV (.str z) (zs.map V.str) = decide (z ∈ zs) := by
  unfold inV
  rw [List.any_map, Bool.eq_iff_iff, List.any_eq_true, decide_eq_true_iff]
  constructor
  · rintro ⟨x, hx, e⟩
    have e' : x = z := eq_of_beq e
    exact e' ▸ hx
  · intro h
    exact ⟨z, h, beq_self_eq_true z⟩
/-- the first of the spare ones that is not found as yet -/
def freshOf (w : Str) (zs : List Str) : List Str := (w :: spares).filter fun z => !decide (z ∈ zs)
theorem fresh_ne {w : Str} {zs : List Str} (h : zs.length < 16) : ∃ z r, freshOf w zs = z :: r := by
  cases e : freshOf w zs with
  | cons z r => exact ⟨z, r, rfl⟩
  | nil =>
    exfalso
    have hall : ∀ x, x ∈ spares → x ∈ zs := fun x hx => by
      have h1 := List.filter_eq_nil_iff.mp e x (List.mem_cons_of_mem _ hx)
      simpa using h1
    have := nodup_sub spares zs spares_nd hall
    rw [spares_len] at this
    omega
theorem fresh_mem {w z : Str} {zs r : List Str} (h : freshOf w zs = z :: r) (hw : Nm w) : Nm z ∧ z ∉ zs := by
  have hm : z ∈ freshOf w zs := by rw [h]; exact List.mem_cons_self
  obtain ⟨h1, h2⟩ := List.mem_filter.mp hm
  refine ⟨?_, by simpa using h2⟩
  rcases List.mem_cons.mp h1 with rfl | h1
  · exact hw
  · exact spares_nm z h1
/-- a word of signs from a to y -/
theorem joinL_one : ∀ cs : List Nat, TL.joinL [] (cs.map fun c => [c]) = cs
  | [] => rfl
  | [_] => rfl
  | c :: d :: r => by
    show [c] ++ ([] ++ TL.joinL [] ((d :: r).map fun c => [c])) = _
    rw [joinL_one (d :: r)]
    rfl
theorem join_one (cs : List Nat) : (Txt.join "" (cs.map fun c => (⟨#[c]⟩ : Str))).cps.toList = cs := by
  rw [TL.join_eq]
  have h := TL.tl_join "" (cs.map fun c => (⟨#[c]⟩ : Str))
  rw [List.map_map] at h
  exact h.trans (joinL_one cs)
theorem word_nm {z : Str} {cs : List Nat} (e : z.cps.toList = cs) (hc : ∀ c, c ∈ cs → c ∈ az.cps.toList) (hn : cs.length ∈ [1, 1, 2, 3, 8]) : Nm z := by
  have len : z.length = cs.length := by
    show z.cps.size = _
    rw [← Array.length_toList, e]
  have all : ∀ c, c ∈ cs → c ∈ letters.cps.toList ∧ c < 122 := fun c h => by
    have h1 := hc c h
    have key : ∀ c, c ∈ az.cps.toList → c ∈ letters.cps.toList ∧ c < 122 := by decide +kernel
    exact key c h1
  have l18 : 1 ≤ cs.length ∧ cs.length ≤ 8 ∧ cs.length ≠ 4 := by
    simp only [List.mem_cons, List.not_mem_nil, or_false] at hn
    omega
  refine ⟨?_, by rw [len]; exact l18.2.2, fun h => ?_, by rw [len]; exact l18.2.1, ?_, fun b hb h => ?_⟩
  · unfold nameB
    rw [decide_eq_true (by rw [len]; omega), decide_eq_true (by rw [len]; omega), Bool.true_and, Bool.true_and, List.all_eq_true]
    intro b hb
    unfold signB at hb
    obtain ⟨c, hc', rfl⟩ := List.mem_map.mp hb
    rw [e] at hc'
    exact decide_eq_true (all c hc').1
  · have h122 : (122 : Nat) ∈ cs := by
      rw [← e, h]
      decide +kernel
    exact absurd (all 122 h122).2 (Nat.lt_irrefl _)
  · show z.cps.all _ = true
    rw [← Array.all_toList, e, List.all_eq_true]
    intro c h
    exact decide_eq_true (Nat.lt_trans (all c h).2 (by decide))
  · have h122 : (122 : Nat) ∈ cs := by
      rw [← e, h]
      exact (show ∀ b ∈ oddNm, (122 : Nat) ∈ b.cps.toList by decide +kernel) b hb
    exact absurd (all 122 h122).2 (Nat.lt_irrefl _)
theorem sum_one : ∀ cs : List Nat, (((cs.map fun c => (⟨#[c]⟩ : Str))).map (·.length)).sum = cs.length
  | [] => rfl
  | c :: r => by
    show 1 + (((r.map fun c => (⟨#[c]⟩ : Str))).map (·.length)).sum = _
    rw [sum_one r, List.length_cons, Nat.add_comm]
theorem pool_ext {H H' : Hp} {p : Addr} {n : Int} (h : Pool H p n) (e : Ext H H') : Pool H' p n := by
  obtain ⟨g, m, c, h1, h2⟩ := h
  exact ⟨g, m, c, e _ _ h1, h2⟩
theorem pool_at {H H' : Hp} {p : Addr} {n : Int} (h : Pool H p n) (e : H' p = H p) : Pool H' p n := by
  obtain ⟨g, m, c, h1, h2⟩ := h
  exact ⟨g, m, c, by rw [e]; exact h1, h2⟩
theorem pool_ne {H : Hp} {p l : Addr} {n : Int} (h : Pool H p n) (e : H l = none) : l ≠ p := fun z => by
  obtain ⟨g, m, c, h1, _⟩ := h
  rw [z, h1] at e
  cases e
theorem But.ext {H H1 H2 : Hp} {a : Addr} (b : But H H1 a) (e : Ext H1 H2) : But H H2 a := b.trans (ext_but e)
/-- names: unlike, none of four signs, none zq -/
def Nms (zs : List Str) : Prop := zs.Nodup ∧ ∀ z, z ∈ zs → Nm z
structure HouseTxt (P : Program) (w : World) (K : PySem.W.Frag) (mg : Str → Option Value) (C CB : Addr) where
  T : HouC K C
  gH : mg "House" = some (.ref C)
  kCC : PySem.W.kitOne K (.ref C) (.ref C) = some true
  ne : PySem.W.findIn K (.ref C) "__ne__" = some (some (.builtin "object.__ne__"))
  noStr : PySem.W.subIn K (.ref C) (.type "str") = some false
  nb : ∀ T, T ∈ ["NoneType", "list", "tuple", "int", "str"] → PySem.W.notFirst K C (.type T) = true ∧ PySem.W.kitOne K (.type T) (.ref C) = some false
  fI : Addr
  fdI : FuncData
  M : Mk K C fI
  I : ∀ base, FnOk P w K mg base (L2.CX P w) 4 fI fdI ["self", "folders", "things"] (spHInit K C CB)
  bI : Binds K fdI ["self", "folders", "things"] []
  uD : Value
  bD : Binds K fdI ["self", "folders", "things"] [uD]
  aD : Addr
  eD : uD = .ref aD
  tD : ∀ H, SqT K H aD []
  fL : Addr
  fdL : FuncData
  mL : OwnM K C "__len__" fL
  L : ∀ base, FnOk P w K mg base CX0 1 fL fdL ["self"] (spHLen K C)
  bL : Binds K fdL ["self"] []
  fS : Addr
  fdS : FuncData
  mS : OwnM K C "__contains__" fS
  S : ∀ base, FnOk P w K mg base CX0 3 fS fdS ["self", "x"] (spHHas K C)
  bS : Binds K fdS ["self", "x"] []
  fW : Addr
  fdW : FuncData
  mW : OwnM K C "__iter__" fW
  W : ∀ base : Heap, FnOk P w K mg base CX0 1 fW fdW ["self"] (spIter K C "nodes" base.objs.size)
  bW : Binds K fdW ["self"] []
  fE : Addr
  fdE : FuncData
  mE : OwnM K C "__eq__" fE
  E : ∀ base, FnOk P w K mg base CX0 1 fE fdE ["self", "other"] (spHEq K C)
  bE : Binds K fdE ["self", "other"] []
/-! ### lists of truths as data -/
theorem dpAll_bl {K : PySem.W.Frag} {H : Hp} : ∀ bs : List Bool, DpAll K H (bs.map V.bl) (bs.map PyData.bool)
  | [] => .nil
  | b :: bs => .cons (.bl b) (dpAll_bl bs)
theorem canLay_bl : ∀ bs : List Bool, PyData.canLayAll0 (bs.map PyData.bool) = true
  | [] => rfl
  | b :: bs => by
    show (PyData.canLay0 (.bool b) && PyData.canLayAll0 (bs.map PyData.bool)) = true
    rw [canLay_bl bs]
    rfl
theorem depths_bl : ∀ bs : List Bool, PyData.depthAll (bs.map PyData.bool) ≤ 1
  | [] => Nat.zero_le _
  | b :: bs => by
    have h := depths_bl bs
    show max (PyData.depth (.bool b)) (PyData.depthAll (bs.map PyData.bool)) ≤ 1
    exact Nat.max_le.mpr ⟨by decide +revert, h⟩
theorem shaped_bl (bs : List Bool) : SeqAt.shaped (.list (bs.map PyData.bool)) = true := by
  refine Bool.and_eq_true_iff.mpr ⟨canLay_bl bs, decide_eq_true ?_⟩
  have h := depths_bl bs
  show PyData.depthAll (bs.map PyData.bool) + 1 ≤ 64
  omega
theorem inV_no {y : V} (h : ∀ z, eqV (.str z) y = false) (zs : List Str) : inV y (zs.map V.str) = false := by
  unfold inV
  rw [List.any_map, List.any_eq_false]
  intro z _ e
  have e' : eqV (.str z) y = true := e
  rw [h z] at e'
  cases e'
/-! ### lists of lists as data -/
theorem canLay_ds : ∀ ds : List PyData, (∀ d, d ∈ ds → d.canLay0 = true ∧ d.depth ≤ 2) → PyData.canLayAll0 ds = true ∧ PyData.depthAll ds ≤ 2
  | [], _ => ⟨rfl, Nat.zero_le _⟩
  | d :: ds, h => by
    obtain ⟨h1, h2⟩ := canLay_ds ds fun x hx => h x (List.mem_cons_of_mem _ hx)
    obtain ⟨h3, h4⟩ := h d List.mem_cons_self
    refine ⟨?_, Nat.max_le.mpr ⟨h4, h2⟩⟩
    show (d.canLay0 && PyData.canLayAll0 ds) = true
    rw [h1, h3]
    rfl
theorem shaped_ds (ds : List PyData) (h : ∀ d, d ∈ ds → d.canLay0 = true ∧ d.depth ≤ 2) : SeqAt.shaped (.list ds) = true := by
  obtain ⟨h1, h2⟩ := canLay_ds ds h
  refine Bool.and_eq_true_iff.mpr ⟨h1, decide_eq_true ?_⟩
  show PyData.depthAll ds + 1 ≤ 64
  omega
theorem flat_tup (zs : List Str) (h : OkS zs) : (PyData.tuple (zs.map PyData.str)).canLay0 = true ∧ (PyData.tuple (zs.map PyData.str)).depth ≤ 2 := ⟨canLay_str zs h, Nat.succ_le_succ (depths_str zs)⟩
theorem flat_lst (zs : List Str) (h : OkS zs) : (PyData.list (zs.map PyData.str)).canLay0 = true ∧ (PyData.list (zs.map PyData.str)).depth ≤ 2 := ⟨canLay_str zs h, Nat.succ_le_succ (depths_str zs)⟩
theorem dpAll_rep {K : PySem.W.Frag} {H : Hp} {d : PyData} : ∀ ws : List V, (∀ x, x ∈ ws → Dp K H x d) → DpAll K H ws (List.replicate ws.length d)
  | [], _ => .nil
  | x :: ws, h => .cons (h x List.mem_cons_self) (dpAll_rep ws fun y hy => h y (List.mem_cons_of_mem _ hy))
theorem flat_rep {α : Type} (n : Nat) (x : α) : (List.replicate n [x]).flatten = List.replicate n x := by
  induction n with
  | zero => rfl
  | succ n ih => rw [List.replicate_succ, List.flatten_cons, ih]; rfl
def Nok (zs : List Str) : Prop := zs.Nodup ∧ ∀ z, z ∈ zs → nameB z = true ∧ PyData.strOk z = true ∧ z.length ≤ sizeLine
theorem Nms.ok {zs : List Str} (h : Nms zs) : Nok zs := ⟨h.1, fun z hz => ⟨(h.2 z hz).1, (h.2 z hz).2.2.2.2.1, Nat.le_trans (h.2 z hz).2.2.2.1 (by rw [sizeLine_eq]; decide)⟩⟩
theorem Nok.perm {zs ws : List Str} (h : Nok zs) (p : ws.Perm zs) : Nok ws := ⟨p.nodup_iff.mpr h.1, fun z hz => h.2 z (p.mem_iff.mp hz)⟩
theorem Nok.zq {zs : List Str} (h : Nms zs) : Nok ("zq" :: zs) := by
  refine ⟨List.nodup_cons.mpr ⟨fun z => (h.2 _ z).2.2.1 rfl, h.1⟩, fun z hz => ?_⟩
  rcases List.mem_cons.mp hz with rfl | hz
  · decide +kernel
  · exact h.ok.2 z hz
theorem wrong_ok {zs : List Str} (h : Nok zs) : wrongOf (zs.map V.str) = none := by
  refine wrong_none fun i hi => ?_
  rw [List.length_map] at hi
  unfold badAt
  rw [List.getElem?_map, List.getElem?_eq_getElem hi]
  show (!nameB zs[i] || inV (.str zs[i]) ((zs.map V.str).take i)) = false
  rw [(h.2 _ (List.getElem_mem hi)).1, ← List.map_take, inV_str]
  have nd := h.1
  rw [← List.take_append_drop i zs, List.nodup_append] at nd
  have hd : zs[i] ∈ zs.drop i := by
    rw [List.drop_eq_getElem_cons hi]
    exact List.mem_cons_self
  rw [decide_eq_false fun hm => nd.2.2 _ hm _ hd rfl]
  rfl
theorem part_ok {fo th : List Str} (h : Nok (fo ++ th)) (hf : fo ≠ []) : partOf (some (fo.map V.str)) (some (th.map V.str)) = none := by
  have hl : ¬ (fo.map V.str).length = 0 := by
    rw [List.length_map]
    exact fun e => hf (List.eq_nil_of_length_eq_zero e)
  show (if (fo.map V.str).length = 0 then some 0 else wrongOf (fo.map V.str ++ th.map V.str)) = none
  rw [if_neg hl, ← List.map_append, wrong_ok h]
theorem things_ok {K : PySem.W.Frag} {H : Hp} {zs : List Str} (h : ∀ z, z ∈ zs → z.length ≤ sizeLine) : ∀ y, y ∈ zs.map V.str → Thing K H y := fun y hy => by
  obtain ⟨z, hz, rfl⟩ := List.mem_map.mp hy
  exact .inl ⟨z, rfl, h z hz⟩
/-- House(..) of good names -/
theorem mk_at {K : PySem.W.Frag} {C CB a b x' dx : Addr} {H : Hp} {fo th : List Str} {R : Hp → Prop} {E : XK} (sf : SeqAt2 K H a (fo.map V.str)) (st : SeqAt2 K H b (th.map V.str)) (ok : Nok (fo ++ th)) (hf : fo ≠ []) (hl : (fo ++ th).length ≤ sizeLine)
    (h1 : H x' = none) (h2 : H dx = none) (h3 : dx ≠ x') (q : ∀ H', Ext H H' → Hou H' K C x' fo th → R H') : spHInit K C CB [.ref x', .ref a, .ref b] (L2.upd (L2.upd H dx (.own x')) x' (.ins C dx [])) (fun v H2 => v = .non ∧ R H2) E := by
  have xn : Ext H (L2.upd (L2.upd H dx (.own x')) x' (.ins C dx [])) := fun c u k => by
    rw [upd_ne (ne_of_none k h1), upd_ne (ne_of_none k h2)]
    exact k
  have okf : ∀ z, z ∈ fo → _ := fun z hz => ok.2 z (List.mem_append_left _ hz)
  have okt : ∀ z, z ∈ th → _ := fun z hz => ok.2 z (List.mem_append_right _ hz)
  refine ⟨x', dx, _, _, some (fo.map V.str), some (th.map V.str), rfl, upd_same, ⟨a, rfl, sf.ext xn, things_ok fun z hz => (okf z hz).2.2⟩, ⟨b, rfl, st.ext xn, things_ok fun z hz => (okt z hz).2.2⟩, fun xs ys e1 e2 => ?_, fun xs ys H' e1 e2 _ bt hs => ⟨rfl, ?_⟩, fun i d H' e => ?_⟩
  · cases e1
    cases e2
    rw [← List.map_append, List.length_map]
    exact hl
  · cases e1
    cases e2
    refine q H' (fun c u k => bt c u (ne_of_none k h1) (xn c u k)) ⟨hs, fun z hz => (okf z hz).2.1, fun z hz => (okt z hz).2.1⟩
  · rw [part_ok ok hf] at e
    cases e
theorem HouseTxt.vD {P : Program} {w : World} {K : PySem.W.Frag} {mg : Str → Option Value} {C CB : Addr} (Z : HouseTxt P w K mg C CB) : Vals [V.ref Z.aD] [Z.uD] := .cons Z.eD .nil
theorem sqT_upd {K : PySem.W.Frag} {H : Hp} {l f : Addr} {ys zs xs : List V} (h : SqT K H f xs) (hl : H l = some (.lst ys)) : SqT K (L2.upd H l (.lst zs)) f xs := by
  rcases h with (h | ⟨o, h⟩) | h
  · exact .inl (.inl (by rw [upd_ne (ne_of h hl (fun z => nomatch z))]; exact h))
  · exact .inl (.inr ⟨o, by rw [upd_ne (ne_of h hl (fun z => nomatch z))]; exact h⟩)
  · exact .inr h
theorem hou_upd {H : Hp} {K : PySem.W.Frag} {C b l : Addr} {fo th : List Str} {ys zs : List V} (h : Hou H K C b fo th) (hl : H l = some (.lst ys)) : Hou (L2.upd H l (.lst zs)) K C b fo th := by
  obtain ⟨⟨dx, fs, f, t, n, h1, h2, h3, h4, h5, h6, h7⟩, ok⟩ := h
  exact ⟨⟨dx, fs, f, t, n, by rw [upd_ne (ne_of h1 hl (fun z => nomatch z))]; exact h1, h2, h3, h4, sqT_upd h5 hl, sqT_upd h6 hl, sqT_upd h7 hl⟩, ok⟩
def Has (P : Program) (w : World) (K : PySem.W.Frag) (mg : Str → Option Value) (base : Heap) (k : Nat) (x : Str) (ps : List Str) (sp : Sp) : Prop :=
  ∃ (f : Addr) (fd : FuncData), FnOk P w K mg base CX0 k f fd ps sp ∧ mg x = some (.ref f) ∧ PySem.W.keepIn K (.ref f) = true ∧ Binds K fd ps []
theorem pe_has {X : Cx} {k : Nat} {x : Str} {ps : List Str} {sp : Sp} {e : Expr} {es : List Expr} {t : TA} {p pos : Pos} (h : Has X.prog X.w X.K X.mg X.base k x ps sp) (hr : Room k X.A) (ha : PA X (e :: es) t) (hg : Gl X x := by rfl)
    (hdb : (x == ("__debug__" : Str)) = false := by decide) (h1 : starEach (e :: es) X.env = (false, eval e X.env) :: starEach es X.env := by rfl) (h2 : (backTo pos (starEach es X.env)).any (·.1) = false := by rfl) :
    PE X (.Call (.Name x p) (e :: es) [] pos) (tCall sp [] E0 t) := by
  obtain ⟨f, fd, F, m, kp, b⟩ := h
  exact pe_call F hr hg m kp b .nil pass0 ha hdb h1 h2
/-- list(a) -/
def rLst (K : PySem.W.Frag) : List V → Hp → VK → Prop := fun xs H Q => ∃ a zs, xs = [.ref a] ∧ SqL K H a zs ∧ ∀ l, H l = none → Q (.ref l) (L2.upd H l (.lst zs))
theorem call_lst {X : Cx} : CallR X (.type "list") (rLst X.K) := by
  intro pins s σ H xs us Q I rv h
  obtain ⟨a, zs, rfl, sq, q⟩ := h
  exact call_list_of pins s σ H _ us Q I rv ⟨a, zs, rfl, .inl sq, q⟩
theorem pool_mono {H : Hp} {p : Addr} {n m : Int} (h : Pool H p n) (e : n ≤ m) : Pool H p m := by
  obtain ⟨g, mm, c, h1, h2, h3, h4, h5, h6⟩ := h
  exact ⟨g, mm, c, h1, h2, h3, h4, h5, by omega⟩
theorem pool_upd {H : Hp} {p l : Addr} {o : HO} {n : Int} (h : Pool H p n) (e : l ≠ p) : Pool (L2.upd H l o) p n := pool_at h (upd_ne (Ne.symm e))
theorem cutV_take {xs : List V} {k : Nat} (h : k ≤ xs.length) : cutV xs none (some ((k : Nat) : Int)) = xs.take k := by
  unfold cutV
  rw [HT.sIx_none, HT.sIx_nat, Nat.min_eq_left h, Nat.sub_zero, List.drop_zero]
theorem cutV_drop {xs : List V} {k : Nat} (h : k ≤ xs.length) : cutV xs (some ((k : Nat) : Int)) none = xs.drop k := by
  unfold cutV
  rw [HT.sIx_none, HT.sIx_nat, Nat.min_eq_left h, List.take_of_length_le (by rw [List.length_drop]; exact Nat.le_refl _)]
end My

namespace My
open PySem PySem.Spec PyProof.Rows L2
abbrev nNames : List Str := ["_law_pool_here", "_law_many", "_law_found", "_law_k", "_law_size", "_law_word", "_law_spare", "_law_j", "_law_letter", "_law_each"]
theorem scNames : FnScope nNames ["_law_pool_here", "_law_many"] (defScope sNames) := ⟨rfl, rfl, rfl, by decide +kernel, rfl, by decide +kernel, by decide +kernel⟩
def spNames (K : PySem.W.Frag) : Sp := fun vs H Q _ => ∃ (p : Addr) (m : Nat) (n : Int), vs = [.ref p, .int (m : Int)] ∧ m ≤ 12 ∧ Pool H p n ∧ n < 1000000 ∧
  ∀ l zs H', But H H' p → Pool H' p (n + 9 * m) → H' l = some (.lst (zs.map V.str)) → H l = none → zs.length = m → Nms zs → Q (.ref l) H'
section
variable {P : Program} {w : World} {K : PySem.W.Frag} {mg : Str → Option Value} {base : Heap} {f fT : Addr} {fd fdT : FuncData}
theorem ok_names (Fn : FnP K "_law_names" sNames f fd) (FT : FnOk P w K mg base CX0 1 fT fdT ["_law_pool_here", "_law_many"] spTake) (gT : mg "_law_take" = some (.ref fT)) (kT : PySem.W.keepIn K (.ref fT) = true) (bT : Binds K fdT ["_law_pool_here", "_law_many"] []) (gR : mg "range" = none) :
    FnOk P w K mg base CX0 2 f fd ["_law_pool_here", "_law_many"] (spNames K) := by
  refine Fn.ok scNames (fun vs H Q E h => ?_) (fun cdv A outer s H vs Q E hr h => ⟨_, PSs.nox
    (pss_cons (ps_set (i := 2) scNames.nd rfl (.inr rfl) (pe_lst pa_nil))
    (pss_cons (ps_for PassesOwn.never rfl (pi_range1 (by rfl) gR (pa_cons (pv 1) pa_nil)) (pg_name (i := 3) scNames.nd rfl (Or.inl rfl))
      (pss_cons (ps_set (i := 4) scNames.nd rfl (.inl rfl) (pe_ix ix_list (pe_lst (pa_cons pe_int (pa_cons pe_int (pa_cons pe_int (pa_cons pe_int (pa_cons pe_int pa_nil)))))) (pe_call FT hr (by rfl) gT kT bT .nil pass0 (pa_cons (pv 0) (pa_cons pe_int pa_nil))) (fun _ _ => rfl)))
      (pss_cons (ps_set (i := 5) scNames.nd rfl (.inl rfl) (pe_bm PySem.F.plainAttrs_str PySem.F.slot_str_join PySem.F.type_str_join mt_join pe_str (pa_cons (pe_lc (own := [("_law_j", 7)]) (g := gName 7) (tt := tYes) rfl scNames.nd (pi_range1 (by rfl) gR (pa_cons (pv 4) pa_nil)) (blkOk_by (N := nNames) (sc := defScope sNames) (by decide +kernel))
          (fun _ _ _ _ _ => pg_name (i := 7) scNames.nd rfl (Or.inl rfl)) (fun _ _ _ _ _ => pts_nil) (fun _ _ _ _ _ => pe_ix ix_str pe_str (pe_call FT (hr.mono (by decide)) (by rfl) gT kT bT .nil pass0 (pa_cons (pv 0) (pa_cons pe_int pa_nil))) (fun _ _ => rfl))) pa_nil)))
      (pss_cons (ps_set (i := 6) scNames.nd rfl (.inl rfl) (pe_op L2.op_cat (pe_lst (pa_cons (pv 5) pa_nil)) (pe_lc (own := [("_law_letter", 8)]) (g := gName 8) (tt := tYes) rfl scNames.nd (pi_str pe_str) (blkOk_by (N := nNames) (sc := defScope sNames) (by decide +kernel))
          (fun _ _ _ _ _ => pg_name (i := 8) scNames.nd rfl (Or.inl rfl)) (fun _ _ _ _ _ => pts_nil) (fun _ _ _ _ _ => pe_op op_add_str (pe_op op_add_str pe_str (pv 8)) pe_str))))
      (pss_one (ps_expr (pe_bm PySem.F.plainAttrs_list PySem.F.slot_list_append PySem.F.type_list_append mt_append (pv 2) (pa_cons (pe_ix ix_list (pe_lc (own := [("_law_each", 9)]) (g := gName 9) (tt := tTest (tOp (rIn K true) (tVar 9) (tVar 2))) rfl scNames.nd (pi_list (pv 6)) (blkOk_by (N := nNames) (sc := defScope sNames) (by decide +kernel))
          (fun _ _ _ _ _ => pg_name (i := 9) scNames.nd rfl (Or.inl rfl)) (fun _ _ _ _ _ => pts_one (pt_cmpR op_notIn_seq (pv 9) (pv 2) (by rfl))) (fun _ _ _ _ _ => pv 9)) pe_int (fun _ _ => rfl)) pa_nil))))))))
    (pss_one (ps_ret (pv 2))))), ?_⟩)
  · obtain ⟨p, m, n, rfl, _⟩ := h
    rfl
  · obtain ⟨p, m, n, rfl, hm, hp, hn, q⟩ := h
    refine ⟨Nat.zero_le _, fun l hl => ?_⟩
    refine ⟨_, rfl, (m : Int), rfl, Int.le_trans (by decide) (Int.natCast_nonneg m), Int.lt_of_le_of_lt (Int.ofNat_le.mpr hm) (by decide), for_range (lo := 0) (n := m) (fun k σ H' => ∃ v3 v4 v5 v6 zs, σ = [some (.ref p), some (.int (m : Int)), some (.ref l), v3, v4, v5, v6, none, none, none] ∧ But H H' p ∧ Pool H' p (n + 9 * k) ∧ H' l = some (.lst (zs.map V.str)) ∧ zs.length = k ∧ Nms zs) ?_ ?_ ?_⟩
    · exact ⟨none, none, none, none, [], rfl, fun b u _ e => by rw [upd_ne (ne_of_none e hl)]; exact e, by
        obtain ⟨g, mm, c, h1, h2⟩ := hp
        refine ⟨g, mm, c, by rw [upd_ne (ne_of_none h1 hl)]; exact h1, ?_⟩
        rw [show n + 9 * ((0 : Nat) : Int) = n by omega]
        exact h2, upd_same, rfl, List.nodup_nil, fun z hz => by cases hz⟩
    · rintro k σ H1 hk ⟨v3, v4, v5, v6, zs, rfl, b1, p1, l1, len1, ns1⟩
      refine ⟨Nat.le_of_ble_eq_true rfl, fun l2 hl2 => ?_⟩
      have lp : l ≠ p := pool_ne hp hl
      obtain ⟨Ha, hHa⟩ : ∃ Ha, Ha = L2.upd H1 l2 (.lst [.int 1, .int 1, .int 2, .int 3, .int 8]) := ⟨_, rfl⟩
      rw [← hHa]
      have xa : Ext H1 Ha := by
        rw [hHa]
        exact Ext.upd hl2
      have l2a : Ha l2 = some (.lst [.int 1, .int 1, .int 2, .int 3, .int 8]) := by rw [hHa, upd_same]
      have l2p : l2 ≠ p := pool_ne p1 hl2
      refine ⟨_, rfl, p, 5, _, rfl, by decide, by decide, pool_ext p1 xa, by omega, fun r o r0 r1 gp => ?_⟩
      obtain ⟨Hb, hHb⟩ : ∃ Hb, Hb = L2.upd Ha p o := ⟨_, rfl⟩
      rw [← hHb] at gp
      rw [← hHb]
      have bb : But Ha Hb p := by
        rw [hHb]
        exact But.upd (ext_but Ext.rfl')
      have lb : Hb l = some (.lst (zs.map V.str)) := bb _ _ lp (xa _ _ l1)
      obtain ⟨j, rfl⟩ := Int.eq_ofNat_of_zero_le r0
      have hj : j < 5 := by omega
      obtain ⟨sz, hsz, hin⟩ : ∃ sz : Nat, ([.int 1, .int 1, .int 2, .int 3, .int 8] : List V)[j]? = some (.int (sz : Int)) ∧ sz ∈ [1, 1, 2, 3, 8] := by
        match j, hj with
        | 0, _ => exact ⟨1, rfl, by decide⟩
        | 1, _ => exact ⟨1, rfl, by decide⟩
        | 2, _ => exact ⟨2, rfl, by decide⟩
        | 3, _ => exact ⟨3, rfl, by decide⟩
        | 4, _ => exact ⟨8, rfl, by decide⟩
      have hsz8 : sz ≤ 8 := by
        simp only [List.mem_cons, List.not_mem_nil, or_false] at hin
        omega
      refine ⟨l2, _, _, _, rfl, rfl, SqL.of (bb _ _ l2p l2a), atI_nat hsz, ?_⟩
      refine ⟨rfl, _, rfl, (sz : Int), rfl, Int.le_trans (by decide) (Int.natCast_nonneg sz), Int.lt_of_le_of_lt (Int.ofNat_le.mpr hsz8) (by decide), fun D hD => lc_it (walk_range (lo := 0) (n := sz))
        (fun i H' => But Hb H' p ∧ Pool H' p (n + 9 * k + 1 + i) ∧ ∃ cs : List Nat, cs.length = i ∧ (∀ c, c ∈ cs → c ∈ az.cps.toList) ∧ H' D = some (.lst (cs.map fun c => V.str ⟨#[c]⟩)))
        ⟨ext_but (Ext.upd hD), pool_ext (by rw [show n + 9 * (k : Int) + 1 + ((0 : Nat) : Int) = n + 9 * k + 1 by omega]; exact gp) (Ext.upd hD), [], rfl, (fun c hc => by cases hc), upd_same⟩ (fun _ _ _ _ => True.intro) ?_ ?_⟩
      · rintro i x H2 H3 hi ⟨b2, p2, cs, hcs, hall, ld⟩ ⟨rfl, rfl⟩
        refine ⟨rfl, ?_⟩
        refine lcYes ?_
        have Dp : D ≠ p := pool_ne gp hD
        refine ⟨_, rfl, p, 25, _, rfl, by decide, by decide, p2, by omega, fun r o r0 r1 gp => ?_⟩
        obtain ⟨c1, rfl⟩ := Int.eq_ofNat_of_zero_le r0
        have hc1 : c1 < az.cps.toList.length := by
          rw [show az.cps.toList.length = 25 by decide +kernel]
          omega
        refine ⟨az, _, az.cps.toList[c1], rfl, rfl, Nat.le_of_ble_eq_true (by decide +kernel), atI_nat (List.getElem?_eq_getElem hc1), cs.map (fun c => V.str ⟨#[c]⟩), ?_, ?_, ?_⟩
        · rw [upd_ne Dp]
          exact ld
        · rw [List.length_map, hcs, sizeLine_eq]
          omega
        · refine ⟨?_, ?_, cs ++ [az.cps.toList[c1]], by rw [List.length_append, hcs]; rfl, fun c hc => ?_, by rw [upd_same, List.map_append]; rfl⟩
          · intro b u hb hu
            rw [upd_ne (ne_of_none hu hD), upd_ne hb]
            exact b2 b u hb hu
          · refine pool_at (n := n + 9 * k + 1 + ((i + 1 : Nat) : Int)) (H := L2.upd H3 p o) ?_ (upd_ne (Ne.symm Dp))
            rw [show n + 9 * (k : Int) + 1 + ((i + 1 : Nat) : Int) = n + 9 * k + 1 + (i : Int) + 1 by omega]
            exact gp
          · rcases List.mem_append.mp hc with hc | hc
            · exact hall c hc
            · rw [List.mem_singleton.mp hc]
              exact List.getElem_mem hc1
      rintro H4 ⟨b4, p4, cs, hcs, hall, ld⟩
      have l4 : H4 l = some (.lst (zs.map V.str)) := b4 _ _ lp lb
      refine ⟨_, D, cs.map fun c => (⟨#[c]⟩ : Str), rfl, rfl, .inl (SqL.of (by rw [ld, List.map_map]; rfl)), by rw [sum_one, hcs]; show sz + _ * 0 ≤ _; omega, ?_⟩
      have hw : Nm (Txt.join "" (cs.map fun c => (⟨#[c]⟩ : Str))) := word_nm (join_one cs) hall (by rw [hcs]; exact hin)
      obtain ⟨wd, hwd⟩ : ∃ wd, wd = Txt.join "" (cs.map fun c => (⟨#[c]⟩ : Str)) := ⟨_, rfl⟩
      rw [← hwd] at hw
      rw [← hwd]
      have lD : H4 D = some (.lst (cs.map fun c => V.str ⟨#[c]⟩)) := ld
      refine ⟨_, rfl, Nat.le_of_ble_eq_true rfl, fun l5 hl5 => ?_⟩
      obtain ⟨H5, hH5⟩ : ∃ H5, H5 = L2.upd H4 l5 (.lst [.str wd]) := ⟨_, rfl⟩
      rw [← hH5]
      have x5 : Ext H4 H5 := by
        rw [hH5]
        exact Ext.upd hl5
      have l55 : H5 l5 = some (.lst [.str wd]) := by rw [hH5, upd_same]
      refine ⟨ap, rfl, fun D2 hD2 => lc_it (walk_str (z := ap)) (fun i H' => Ext H5 H' ∧ H' D2 = some (.lst ((spares.take i).map V.str))) ⟨Ext.upd hD2, upd_same⟩ (fun _ _ _ _ => True.intro) ?_ ?_⟩
      · rintro i x H6 H7 hi ⟨x6, l6⟩ ⟨rfl, c, hc, rfl⟩
        refine ⟨rfl, ?_⟩
        refine lcYes ?_
        refine ⟨_, rfl, _, _, rfl, rfl, Nat.le_of_ble_eq_true rfl, _, _, rfl, rfl, Nat.le_of_ble_eq_true rfl, _, l6, ?_, ?_⟩
        · rw [List.length_map, List.length_take]
          exact Nat.lt_of_le_of_lt (Nat.min_le_right _ _) (by rw [spares_len]; exact Nat.le_of_ble_eq_true rfl)
        · refine ⟨x6.over hD2, ?_⟩
          have e : spares[i]? = some (("z" : Str) ++ (⟨#[c]⟩ : Str) ++ ("q" : Str)) := by
            unfold spares
            rw [List.getElem?_map, Array.getElem?_toList, hc]
            rfl
          rw [upd_same, List.take_add_one, e, List.map_append]
          rfl
      rintro H6 ⟨x6, l6⟩
      have etk : spares.take ap.cps.size = spares := List.take_of_length_le (by rw [spares_len]; decide +kernel)
      rw [etk] at l6
      refine ⟨l5, D2, _, _, rfl, rfl, x6 _ _ l55, l6, by rw [List.length_map, spares_len]; exact Nat.le_of_ble_eq_true rfl, fun l7 hl7 => ?_⟩
      obtain ⟨H7, hH7⟩ : ∃ H7, H7 = L2.upd H6 l7 (.lst ([V.str wd] ++ spares.map V.str)) := ⟨_, rfl⟩
      rw [← hH7]
      have x7 : Ext H6 H7 := by
        rw [hH7]
        exact Ext.upd hl7
      have l77 : H7 l7 = some (.lst ((wd :: spares).map V.str)) := by rw [hH7, upd_same]; rfl
      have x47 : Ext H4 H7 := (x5.trans x6).trans x7
      have l17 : H7 l = some (.lst (zs.map V.str)) := x47 _ _ l4
      have fz : (zs.map V.str).all flatV = true := by rw [List.all_map]; exact List.all_eq_true.mpr fun _ _ => rfl
      refine ⟨_, rfl, .inl ⟨rfl, _, SqL.of l17⟩, ?_⟩
      refine ⟨_, rfl, l7, rfl, ⟨_, SqL.of l77⟩, fun D3 hD3 => lc_it (walk_list (xs := (wd :: spares).map V.str)) (fun i H' => Ext H7 H' ∧ H' D3 = some (.lst ((((wd :: spares).take i).filter fun z => !decide (z ∈ zs)).map V.str)))
        ⟨Ext.upd hD3, upd_same⟩ (fun i H' _ z => SqL.of (z.1 _ _ l77)) ?_ ?_⟩
      · rintro i x H8 H9 hi ⟨x8, l8⟩ ⟨rfl, hx⟩
        obtain ⟨z, hz, rfl⟩ : ∃ z, (wd :: spares)[i]? = some z ∧ x = V.str z := by
          rw [List.getElem?_map] at hx
          cases e : (wd :: spares)[i]? with
          | none =>
            rw [e] at hx
            cases hx
          | some z =>
            rw [e] at hx
            exact ⟨z, rfl, (Option.some.inj hx).symm⟩
        have l18 := x8 _ _ l17
        refine ⟨rfl, ?_⟩
        refine ⟨_, rfl, _, rfl, l, _, rfl, .inl (SqL.of l18), rfl, fz, _, rfl, ?_⟩
        rw [if_pos rfl, inV_str]
        have tk : (wd :: spares).take (i + 1) = (wd :: spares).take i ++ [z] := by rw [List.take_add_one, hz]; rfl
        by_cases hin2 : z ∈ zs
        · rw [decide_eq_true hin2]
          refine iteF ?_
          refine ⟨x8, ?_⟩
          have ef : [z].filter (fun z => !decide (z ∈ zs)) = [] := by simp [hin2]
          rw [tk, List.filter_append, ef, List.append_nil]
          exact l8
        · rw [decide_eq_false hin2]
          refine iteT ?_
          refine ⟨_, rfl, _, l8, ?_, x8.over hD3, ?_⟩
          · rw [List.length_map]
            refine Nat.lt_of_le_of_lt (List.length_filter_le _ _) ?_
            rw [List.length_take]
            refine Nat.lt_of_le_of_lt (Nat.min_le_right _ _) ?_
            rw [List.length_cons, spares_len]
            exact Nat.le_of_ble_eq_true rfl
          · have ef : [z].filter (fun z => !decide (z ∈ zs)) = [z] := by simp [hin2]
            rw [upd_same, tk, List.filter_append, ef, List.map_append]
            rfl
      rintro H8 ⟨x8, l8⟩
      rw [List.length_map, List.take_length] at l8
      obtain ⟨z, r, hzr⟩ := fresh_ne (w := wd) (zs := zs) (by omega)
      obtain ⟨hz1, hz2⟩ := fresh_mem hzr hw
      have l8' : H8 D3 = some (.lst ((z :: r).map V.str)) := by rw [← hzr]; exact l8
      have l18 := x8 _ _ l17
      refine ⟨D3, _, ((0 : Nat) : Int), .str z, rfl, rfl, SqL.of l8', atI_nat rfl, ?_⟩
      refine ⟨l, _, _, rfl, rfl, l18, by rw [List.length_map, len1, sizeLine_eq]; omega, ?_⟩
      have x48 : Ext H4 H8 := x47.trans x8
      refine ⟨_, _, _, _, zs ++ [z], rfl, ?_, ?_, by rw [upd_same, List.map_append]; rfl, by rw [List.length_append, len1]; rfl, ?_, ?_⟩
      · intro b u hb hu
        rw [upd_ne (ne_of_none hu hl)]
        exact (((b1.ext xa).trans bb).trans b4).ext x48 b u hb hu
      · refine pool_at (H := H8) ?_ (upd_ne (Ne.symm lp))
        obtain ⟨g, mm, c, h1, h2, h3, h4, h5, h6⟩ := pool_ext p4 x48
        exact ⟨g, mm, c, h1, h2, h3, h4, h5, by omega⟩
      · rw [List.nodup_append]
        refine ⟨ns1.1, by simp, fun a ha b hb e => ?_⟩
        rw [List.mem_singleton.mp hb] at e
        rw [e] at ha
        exact hz2 ha
      · intro y hy
        rcases List.mem_append.mp hy with hy | hy
        · exact ns1.2 y hy
        · rw [List.mem_singleton.mp hy]
          exact hz1
    · rintro σ H1 ⟨v3, v4, v5, v6, zs, rfl, b1, p1, l1, len1, ns1⟩
      exact ⟨_, rfl, q l zs H1 b1 p1 l1 hl len1 ns1⟩
end
end My

namespace My
open PySem PySem.Spec PyProof.Rows L2
theorem scHouse : FnScope ["_law_pool_here", "_law_most", "_law_more", "_law_many", "_law_few", "_law_words"] ["_law_pool_here", "_law_most", "_law_more"] (defScope sHouse) := ⟨rfl, rfl, rfl, by decide +kernel, rfl, by decide +kernel, by decide +kernel⟩
def spHouse : Sp := fun vs H Q _ => ∃ (p : Addr) (n : Int) (mo mr : Nat), vs = [.ref p, .int (mo : Int), .int (mr : Int)] ∧ 1 ≤ mo ∧ mo ≤ 4 ∧ 1 ≤ mr ∧ mr ≤ 3 ∧ Pool H p n ∧ n < 900000 ∧
  ∀ t l1 l2 fo th H', But H H' p → Pool H' p (n + 80) → H' t = some (.tup [.ref l1, .ref l2]) → H' l1 = some (.lst (fo.map V.str)) → H' l2 = some (.lst (th.map V.str)) → l1 ≠ l2 → H l1 = none → H l2 = none →
    1 ≤ fo.length → fo.length ≤ mo → th.length ≤ mr → 2 ≤ fo.length + th.length → Nms (fo ++ th) → Q (.ref t) H'
section
variable {P : Program} {w : World} {K : PySem.W.Frag} {mg : Str → Option Value} {base : Heap} {f fT fN : Addr} {fd fdT fdN : FuncData}
theorem ok_house (Fn : FnP K "_law_house" sHouse f fd) (FT : FnOk P w K mg base CX0 1 fT fdT ["_law_pool_here", "_law_many"] spTake) (gT : mg "_law_take" = some (.ref fT)) (kT : PySem.W.keepIn K (.ref fT) = true) (bT : Binds K fdT ["_law_pool_here", "_law_many"] [])
    (FN : FnOk P w K mg base CX0 2 fN fdN ["_law_pool_here", "_law_many"] (spNames K)) (gN : mg "_law_names" = some (.ref fN)) (kN : PySem.W.keepIn K (.ref fN) = true) (bN : Binds K fdN ["_law_pool_here", "_law_many"] []) (gM : mg "max" = none) :
    FnOk P w K mg base CX0 3 f fd ["_law_pool_here", "_law_most", "_law_more"] spHouse := by
  refine Fn.ok scHouse (fun vs H Q E h => ?_) (fun cdv A outer s H vs Q E hr h => ⟨_, PSs.nox
    (pss_cons (ps_set (i := 3) scHouse.nd rfl (.inl rfl) (pe_op op_add pe_int (pe_call FT (hr.mono (by decide)) (by rfl) gT kT bT .nil pass0 (pa_cons (pv 0) (pa_cons (pv 1) pa_nil)))))
    (pss_cons (ps_set (i := 4) scHouse.nd rfl (.inl rfl) (pe_callB (call_max2 rfl) (by rfl) gM boot_max (pa_cons (pe_call FT (hr.mono (by decide)) (by rfl) gT kT bT .nil pass0 (pa_cons (pv 0) (pa_cons (pe_op op_add (pv 2) pe_int) pa_nil))) (pa_cons (pe_op op_sub pe_int (pv 3)) pa_nil))))
    (pss_cons (ps_set (i := 5) scHouse.nd rfl (.inl rfl) (pe_call FN hr (by rfl) gN kN bN .nil pass0 (pa_cons (pv 0) (pa_cons (pe_op op_add (pv 3) (pv 4)) pa_nil))))
    (pss_one (ps_ret (pe_tup (pa_cons (pe_slice sl_list (pv 5) po_none (po_some (pv 3))) (pa_cons (pe_slice sl_list (pv 5) (po_some (pv 3)) po_none) pa_nil)))))))), ?_⟩)
  · obtain ⟨p, n, mo, mr, rfl, _⟩ := h
    rfl
  · obtain ⟨p, n, mo, mr, rfl, mo1, mo4, mr1, mr3, hp, hn, q⟩ := h
    refine ⟨_, rfl, _, rfl, p, mo, n, rfl, by omega, by omega, hp, by omega, fun r o r0 r1 gp => ?_⟩
    obtain ⟨H1, hH1⟩ : ∃ H1, H1 = L2.upd H p o := ⟨_, rfl⟩
    rw [← hH1] at gp
    rw [← hH1]
    have b1 : But H H1 p := by
      rw [hH1]
      exact But.upd (ext_but Ext.rfl')
    obtain ⟨r', rfl⟩ := Int.eq_ofNat_of_zero_le r0
    refine ⟨_, _, rfl, rfl, ?_⟩
    refine ⟨_, rfl, _, rfl, _, _, rfl, rfl, p, _, _, rfl, by omega, by omega, gp, by omega, fun r2 o2 r20 r21 gp2 => ?_⟩
    obtain ⟨H2, hH2⟩ : ∃ H2, H2 = L2.upd H1 p o2 := ⟨_, rfl⟩
    rw [← hH2] at gp2
    rw [← hH2]
    have b2 : But H H2 p := b1.trans (by
      rw [hH2]
      exact But.upd (ext_but Ext.rfl'))
    obtain ⟨r2', rfl⟩ := Int.eq_ofNat_of_zero_le r20
    refine ⟨_, rfl, _, _, rfl, rfl, _, _, rfl, ?_⟩
    -- the numbers
    obtain ⟨few, hfew, hf1, hf2⟩ : ∃ few : Nat, (if (2 - (1 + (r' : Int))) > (r2' : Int) then (2 - (1 + (r' : Int))) else (r2' : Int)) = (few : Int) ∧ few ≤ mr ∧ 2 ≤ (1 + r') + few := by
      by_cases c : (2 - (1 + (r' : Int))) > (r2' : Int)
      · rw [if_pos c]
        exact ⟨1 - r', by omega, by omega, by omega⟩
      · rw [if_neg c]
        exact ⟨r2', rfl, by omega, by omega⟩
    refine ⟨_, rfl, _, rfl, _, rfl, _, _, rfl, rfl, p, 1 + r' + few, _, by rw [hfew]; rfl, by omega, gp2, by omega, fun l zs H3 b3 p3 l3 ln3 len3 nms3 => ?_⟩
    have b03 : But H H3 p := b2.trans b3
    have lp : l ≠ p := pool_ne gp2 ln3
    have hk : 1 + r' ≤ (zs.map V.str).length := by
      rw [List.length_map, len3]
      omega
    have hH : ∀ {b : Addr}, H3 b = none → H b = none := fun {b} h => by
      cases hh : H b with
      | none => rfl
      | some u =>
        by_cases e : b = p
        · obtain ⟨_, _, _, h1, _⟩ := p3
          rw [e, h1] at h
          cases h
        · rw [b03 b u e hh] at h
          cases h
    have ei : (1 : Int) + (r' : Int) = ((1 + r' : Nat) : Int) := by omega
    refine ⟨_, rfl, _, rfl, _, rfl, l, _, rfl, SqL.of l3, fun l4 hl4 => ?_⟩
    refine ⟨_, rfl, _, rfl, _, rfl, l, _, rfl, SqL.of (Ext.upd hl4 _ _ l3), fun l5 hl5 => ?_⟩
    refine ⟨Nat.le_of_ble_eq_true rfl, fun t ht => ?_⟩
    rw [ei, cutV_take hk, cutV_drop hk] at ht
    rw [ei, cutV_take hk] at hl5
    rw [ei, cutV_take hk, cutV_drop hk]
    obtain ⟨H4, hH4⟩ : ∃ H4, H4 = L2.upd H3 l4 (.lst ((zs.map V.str).take (1 + r'))) := ⟨_, rfl⟩
    rw [← hH4] at hl5 ht
    rw [← hH4]
    have x4 : Ext H3 H4 := by
      rw [hH4]
      exact Ext.upd hl4
    obtain ⟨H5, hH5⟩ : ∃ H5, H5 = L2.upd H4 l5 (.lst ((zs.map V.str).drop (1 + r'))) := ⟨_, rfl⟩
    rw [← hH5] at ht
    rw [← hH5]
    have x5 : Ext H4 H5 := by
      rw [hH5]
      exact Ext.upd hl5
    have x6 : Ext H5 (L2.upd H5 t (.tup [.ref l4, .ref l5])) := Ext.upd ht
    have l44 : H4 l4 = some (.lst ((zs.take (1 + r')).map V.str)) := by rw [hH4, upd_same, List.map_take]
    have l55 : H5 l5 = some (.lst ((zs.drop (1 + r')).map V.str)) := by rw [hH5, upd_same, List.map_drop]
    have ne : l4 ≠ l5 := ne_of_none l44 hl5
    have h5n : H3 l5 = none := by
      rw [hH4, upd_ne (Ne.symm ne)] at hl5
      exact hl5
    refine q t l4 l5 (zs.take (1 + r')) (zs.drop (1 + r')) _ (b03.ext ((x4.trans x5).trans x6)) (pool_mono (pool_ext p3 ((x4.trans x5).trans x6)) (by omega)) upd_same (x6 _ _ (x5 _ _ l44)) (x6 _ _ l55) ne (hH hl4) (hH h5n) ?_ ?_ ?_ ?_ ?_
    · rw [List.length_take]
      omega
    · rw [List.length_take]
      omega
    · rw [List.length_drop]
      omega
    · rw [List.length_take, List.length_drop]
      omega
    · rw [List.take_append_drop]
      exact nms3
end
end My

namespace L2
open PySem PySem.Spec PyProof.Rows
/-! ### several except clauses, with names or without -/
abbrev Cl : Type := Value × Option Nat × (Addr → Value → Option Addr → TS)
def wAll (K : PySem.W.Frag) (Wout : WX) (D : Ends) : List Cl → WX
  | [] => Wout
  | (c, none, ts) :: r => fun cls d σ H => ∃ b, PySem.W.exmOne K cls c = some b ∧ (b = true → ∀ a, H a = none → ts a cls d D σ H) ∧ (b = false → wAll K Wout D r cls d σ H)
  | (c, some i, ts) :: r => fun cls d σ H => ∃ b, PySem.W.exmOne K cls c = some b ∧ (b = true → ∀ a, H a = none → i < σ.length → ts a cls d { nx := fun σ' H' => D.nx (σ'.set i none) H', rt := D.rt, bk := fun σ' H' => D.bk (σ'.set i none) H', ct := fun σ' H' => D.ct (σ'.set i none) H' } (σ.set i (some (.ref a))) H) ∧
    (b = false → wAll K Wout D r cls d σ H)
inductive HdsAll (X : Cx) : List ExceptHandler → List Cl → Prop
  | nil : HdsAll X [] []
  | bare {x : Str} {c : Value} {ts : Addr → Value → Option Addr → TS} {b₀ : Stmt} {suite : List Stmt} {np pos' : Pos} {hds : List ExceptHandler} {l : List Cl} (hc : Names X x c)
      (hsu : ∀ (a : Addr) (oe : Obj) (cls : Value) (d : Option Addr) (pn : List (Addr × Obj)), Zc cls d oe → (∃ vs, oe.data = .fields vs) → PSs (X.suite a ((a, oe) :: pn)) (b₀ :: suite) (ts a cls d)) (r : HdsAll X hds l) :
      HdsAll X (.ExceptHandler (some (.Name x np)) none (b₀ :: suite) pos' :: hds) ((c, none, ts) :: l)
  | as {x n : Str} {i : Nat} {c : Value} {ts : Addr → Value → Option Addr → TS} {b₀ : Stmt} {suite : List Stmt} {np pos' : Pos} {hds : List ExceptHandler} {l : List Cl} (hi : X.N[i]? = some n) (hln : X.env.kindOf n = some .local) (hc : Names X x c)
      (hsu : ∀ (a : Addr) (oe : Obj) (cls : Value) (d : Option Addr) (pn : List (Addr × Obj)), Zc cls d oe → (∃ vs, oe.data = .fields vs) → PSs (X.suite a ((a, oe) :: pn)) (b₀ :: suite) (ts a cls d)) (r : HdsAll X hds l) :
      HdsAll X (.ExceptHandler (some (.Name x np)) (some n) (b₀ :: suite) pos' :: hds) ((c, some i, ts) :: l)
section
variable {X : Cx} {body : List Stmt} {h₀ : ExceptHandler} {hds : List ExceptHandler} {l : List Cl} {pos : Pos} {tb : WX → TS} {Wout : WX}
theorem ps_try_all (hs : X.stack = X.env :: X.outer) (hf : X.env.frame = some X.env.locals) (hN : X.N.Nodup) (tk : Takes X Wout)
    (hb : ∀ (W : WX) (pn : List (Addr × Obj)) (xe : Value → Shared → Prop), Takes (X.tr pn xe) W → PassesOwn (model X.prog X.w) X.A X.env xe → PSs (X.tr pn xe) body (tb W))
    (hh : HdsAll X (h₀ :: hds) l) : PS X (.Try body (h₀ :: hds) [] [] pos) (fun D σ H => tb (wAll X.K Wout D l) D σ H) := by
  refine ⟨fun pins s σ H D I h => ?_⟩
  have ok := I.ok
  have hfr : X.A.frames = some (X.env :: X.outer) := by rw [ok.frames, hs]
  refine wpAny_Try_except ?_
  refine wpAny_mono ((hb (wAll X.K Wout D l) (X.pn ++ pins) (fun e s₁ => wpAny (model X.prog X.w) X.A (noteFrame e X.env) (fun _ s₂ => wpAny (model X.prog X.w) X.A (setFlight e none) (fun _ s₃ =>
    wpAny (model X.prog X.w) X.A (handleBy e X.env (h₀ :: hds)) (SP X pins D) X.xe s₃) X.xe s₂) X.xe s₁) (fun u s' xx => ?_) PassesOwn.looking).run [] s σ H D (I.toTry _) h) (fun f s1 hsp => ?_) (fun e s1 he => he)
  · -- the catch
    obtain ⟨a, B, sI, pins', σ', H', cls, d, rfl, J', nb, up, sky, na, os, ag, w⟩ := xx
    have J : Inv X pins σ' H' sI := J'.ofTry ok
    have sky' : Sky B (X.env :: X.outer) a (Zc cls d) X.env.locals s'.heap := by rw [← hs]; exact sky
    show wpAny (model X.prog X.w) X.A (noteFrame (.ref a) X.env) _ _ _
    refine Sky.land Zc.steady hfr hf sky' fun h3 fl3 up3 => ?_
    have J3 : Inv X pins σ' H' { s' with heap := h3 } := J.landed nb fl3.1 (up.trans up3) os ag
    obtain ⟨oe3, vs3, he3, hz3, hd3⟩ := fl3.there
    have notFr : ∀ {h : Heap} {o : Obj} {vs : Array Value}, h.FunFrames B (X.env :: X.outer) → h.get? a = some o → o.data = .fields vs → a ∉ frs (X.env :: X.outer) := fun {h o vs} ff e dd hm => by
      obtain ⟨_, o', e', hnf⟩ := ff.mem hm
      rw [e] at e'; cases e'
      exact hnf _ dd
    have nfr := notFr fl3.2.2.1 he3 hd3
    have nL : a ≠ X.env.locals := fun z => nfr (List.mem_filterMap.mpr ⟨X.env, List.mem_cons_self, by rw [hf, z]⟩)
    have nF : a ∉ X.fs := fun hm => by
      obtain ⟨e, he, q⟩ := List.mem_filterMap.mp hm
      exact nfr (List.mem_filterMap.mpr ⟨e, List.mem_cons_of_mem _ he, q⟩)
    have S3 := J3.suite he3 hd3 na nL nF
    have test : ∀ {x : Str} {c : Value} {np : Pos}, Names X x c → ∀ {Q : Value → Shared → Prop} {E : Value → Shared → Prop}, Q c { s' with heap := h3 } → wpAny (model X.prog X.w) (X.A.mark (some (.ref a))) (eval (.Name x np) X.env) Q E { s' with heap := h3 } := fun {x c np} hc {Q E} q => by
      obtain ⟨hg, hdbg, hm | ⟨hm, hv, hnn⟩⟩ := hc
      · exact ld_glob (X := X.suite a ((a, oe3) :: (X.pn ++ pins))) S3 hg hm q hdbg
      · exact ld_blt (X := X.suite a ((a, oe3) :: (X.pn ++ pins))) S3 hg hm hv q hnn hdbg
    have LT : PySem.W.Looks (model X.prog X.w) h3 (typeOf (.ref a)) cls := fun A Q E s k q => wpAny_typeOf_ref (k _ _ he3) (by rw [hz3.1]; exact q)
    have go : ∀ {hds' : List ExceptHandler} {l' : List Cl}, HdsAll X hds' l' → wAll X.K Wout D l' cls d σ' H' →
        wpAny (model X.prog X.w) X.A (handleBy (.ref a) X.env hds') (SP X pins D) X.xe { s' with heap := h3 } := by
      intro hds' l' hk
      induction hk with
      | nil =>
        intro w
        refine wpAny_handleBy_nil ?_
        obtain ⟨k1, k2, k3, oe, vs, T, oT, ts', he, hz, hd, h1, hr⟩ := id fl3
        unfold PySem.passOn
        refine wpAny_bind (wpAny_field he hd h1 ?_)
        rw [if_neg (show ¬ ((Value.ref T == Value.none) = true) from by simp)]
        have fin : wpAny (model X.prog X.w) X.A (setFlight (.ref a) X.env.frame) (fun _ s4 => wpAny (model X.prog X.w) X.A (throw (.ref a) : Sem Flow) (SP X pins D) X.xe s4) X.xe { s' with heap := h3 } := by
          rw [hf]
          refine HandSPX.setFlight_upZ fl3 fun h4 hh4 up4 => wpAny_throw (tk _ _ ?_)
          exact ⟨a, B, sI, pins, σ', H', cls, d, rfl, J, nb, (up.trans up3).trans up4, .inr (.inr (by rw [hs]; exact hh4)), na, os, ag, w⟩
        first
          | exact wpAny_bind (wpAny_pure (wpAny_bind fin))
          | exact wpAny_bind fin
      | @bare x c ts b₀ suite np pos' hds2 l2 hc hsu r ih =>
        intro w
        obtain ⟨b, hb1, hyes, hno⟩ := w
        refine wpAny_handleBy_cons (codeAny_handlers_test ?_) (by intro q; cases q)
        have LM := PySem.W.exm_one (M := model X.prog X.w) (J3.kIn) LT hb1
        refine test hc (LM.here ?_)
        cases b with
        | true =>
          refine codeAny_handlers_suite ?_
          refine HandSPX.lands_againZ fl3 fun h4 fl4 up4 => ?_
          have J4 : Inv X pins σ' H' { s' with heap := h4 } := J.landed nb fl4.1 ((up.trans up3).trans up4) os ag
          obtain ⟨oe4, vs4, he4, hz4, hd4⟩ := fl4.there
          have S4 := J4.suite he4 hd4 na nL nF
          refine wpAny_mono ((hsu a oe4 cls d (X.pn ++ pins) hz4 ⟨_, hd4⟩).run [] _ _ H' _ S4 (hyes rfl a na)) (fun f s6 hsp => ?_) (fun _ _ z => False.elim z)
          cases f with
          | next =>
            obtain ⟨σ6, H6, S6, q6⟩ := hsp
            exact ⟨_, _, S6.unsuite ok, q6⟩
          | brk =>
            obtain ⟨σ6, H6, S6, q6⟩ := hsp
            exact ⟨_, _, S6.unsuite ok, q6⟩
          | cont =>
            obtain ⟨σ6, H6, S6, q6⟩ := hsp
            exact ⟨_, _, S6.unsuite ok, q6⟩
          | ret u =>
            obtain ⟨v6, σ6, H6, S6, r6, q6⟩ := hsp
            exact ⟨_, _, _, S6.unsuite ok, r6, q6⟩
        | false =>
          show wpAny _ X.A (handleBy (.ref a) X.env hds2) _ _ _
          exact ih (hno rfl)
      | @as x n i c ts b₀ suite np pos' hds2 l2 hi hln hc hsu r ih =>
        intro w
        obtain ⟨b, hb1, hyes, hno⟩ := w
        have hloc : Loc X.env.scope n := .inl hln
        refine wpAny_handleBy_cons (codeAny_handlers_test ?_) (by intro q; cases q)
        have LM := PySem.W.exm_one (M := model X.prog X.w) (J3.kIn) LT hb1
        refine test hc (LM.here ?_)
        cases b with
        | true =>
          refine codeAny_handlers_suite_as ?_
          refine HandSPX.lands_againZ fl3 fun h4 fl4 up4 => ?_
          have J4 : Inv X pins σ' H' { s' with heap := h4 } := J.landed nb fl4.1 ((up.trans up3).trans up4) os ag
          obtain ⟨oe4, vs4, he4, hz4, hd4⟩ := fl4.there
          have S4 := J4.suite he4 hd4 na nL nF
          refine store_ok (X := X.suite a ((a, oe4) :: (X.pn ++ pins))) (v := .ref a) S4 hN hi hloc rfl (fun s5 S5 => ?_) (.inr hln)
          refine wpAny_mono ((hsu a oe4 cls d (X.pn ++ pins) hz4 ⟨_, hd4⟩).run [] s5 _ H' _ S5 (hyes rfl a na (by rw [J.len]; exact (List.getElem?_eq_some_iff.mp hi).1))) (fun f s6 hsp => ?_) (fun _ _ z => False.elim z)
          have end_ : ∀ {σ6 : St} {H6 : Hp} {Q : Shared → Prop}, Inv (X.suite a ((a, oe4) :: (X.pn ++ pins))) [] σ6 H6 s6 → (∀ s7, Inv X pins (σ6.set i none) H6 s7 → Q s7) →
              wpAny (model X.prog X.w) X.A (do bindName X.env n .none; unbindBehindTheSuite X.env n pos') (fun _ s7 => Q s7) X.xe s6 := fun {σ6 H6 Q} S6 hq => gone_ok (S6.unsuite ok) hN hi hln hq
          cases f with
          | next =>
            obtain ⟨σ6, H6, S6, q6⟩ := hsp
            exact end_ S6 fun s7 J7 => ⟨_, _, J7, q6⟩
          | brk =>
            obtain ⟨σ6, H6, S6, q6⟩ := hsp
            exact end_ S6 fun s7 J7 => ⟨_, _, J7, q6⟩
          | cont =>
            obtain ⟨σ6, H6, S6, q6⟩ := hsp
            exact end_ S6 fun s7 J7 => ⟨_, _, J7, q6⟩
          | ret u =>
            obtain ⟨v6, σ6, H6, S6, r6, q6⟩ := hsp
            exact end_ S6 fun s7 J7 => ⟨_, _, _, J7, r6, q6⟩
        | false =>
          show wpAny _ X.A (handleBy (.ref a) X.env hds2) _ _ _
          exact ih (hno rfl)
    exact go hh w
  · cases f with
    | next =>
      obtain ⟨σ', H', J', q⟩ := hsp
      exact wpAny_execs_nil ⟨σ', H', J'.ofTry ok, q⟩
    | brk =>
      obtain ⟨σ', H', J', q⟩ := hsp
      exact ⟨σ', H', J'.ofTry ok, q⟩
    | cont =>
      obtain ⟨σ', H', J', q⟩ := hsp
      exact ⟨σ', H', J'.ofTry ok, q⟩
    | ret u =>
      obtain ⟨v, σ', H', J', r, q⟩ := hsp
      exact ⟨v, σ', H', J'.ofTry ok, r, q⟩
end
end L2

namespace PySem.W
open Lean Elab Tactic Meta PySem PySem.Calls PyProof.Rows
section
variable {prog : Program} {w : World} {A : Around} {E : Value → Shared → Prop} {s : Shared} {K : Frag} {x C f : Addr} {ox : Obj} {od : Option Obj}
/-- what is asked of the right operand's type: the class itself, or a type of the language that is not below it -/
def AddT (K : Frag) (C : Addr) (nm : String) (t : Value) : Prop := t = .ref C ∨ ∃ (T : String) (fo ro : Option Value), t = .type T ∧ findIn K (.type T) (PySem.dunder nm) = some fo ∧ findIn K (.type T) (dunderR nm) = some ro ∧ subIn K (.type T) (.ref C) = some false
theorem bin_own {op : Operator} {b t : Value} {rc : Option Value} {Q : Value → Shared → Prop} (X : K.In s.heap) (I : InstAt s.heap x ox C od) (hb : Looks (model prog w) s.heap (typeOf b) t) (hc : selfFirst K C = true)
    (hs : findIn K (.ref C) (PySem.dunder op.info.2) = some (some (.ref f))) (hf : isFn K (.ref f) = true) (hr : findIn K (.ref C) (dunderR op.info.2) = some rc) (hp : rc = none ∨ ∃ g : Addr, rc = some (.ref g)) (ht : AddT K C op.info.2 t)
    (h : wpAny (model prog w) A (call (.ref f) [.ref x, b]) (CmpBack Q) E s) : wpAny (model prog w) A (binaryOp op (.ref x) b) Q E s := by
  obtain ⟨cd, rest, hcd, hm⟩ := ksp_first hc
  rcases hi : op.info with ⟨sym, nm'⟩
  rw [hi] at hs hr ht
  dsimp only at hs hr ht
  have one := ksp_try X I hs hf h
  obtain ⟨hh, g, d, tt, os⟩ := s
  have L1 : Looks (model prog w) hh (typeOf (.ref x)) (.ref C) := I.type
  have L2 : Looks (model prog w) hh (typeOf b) t := hb
  have L3 : Looks (model prog w) hh (fillsNumberSlot (.ref C) nm') true := fills_K X hcd hm hs
  rcases ht with rfl | ⟨T, fo, ro, rfl, h1, h2, hsub⟩
  · simp only [binaryOp, hi]
    refine wpAny_holding (wpAny_bind ?_)
    unfold binaryOp1
    refine wpAny_bind (L1.at (wpAny_bind (L2.at (wpAny_bind (L3.at ?_)))))
    simp only [beq_self_eq_true, if_true]
    ksp_lk
    refine wpAny_mono one (fun r s' hr' => ?_) fun _ _ e => e
    obtain ⟨v, rfl, hq⟩ := hr'
    ksp_lk
    exact hq
  have L4 : Looks (model prog w) hh (fillsNumberSlot (.type T) nm') ((fo.isSome && !isSeqSlot fo) || (ro.isSome && !isSeqSlot ro)) := ksp_fillsT X h1 h2
  have L5 : Looks (model prog w) hh (isSubtype (.type T) (.ref C)) false := looks_subIn X hsub
  have L6 : Looks (model prog w) hh (numberSlotInPython (.ref C) nm') true := ksp_inPy X hs hr hp
  have L7 : Looks (model prog w) hh (numberSlotInPython (.type T) nm') false := Looks.of_pure rfl
  have L8 : Looks (model prog w) hh (typeLookup (.type T) (dunderR nm')) ro := looks_findIn X h2
  generalize ((fo.isSome && !isSeqSlot fo) || (ro.isSome && !isSeqSlot ro)) = right at L4
  have hne : (Value.ref C == Value.type T) = false := Bool.eq_false_iff.mpr fun q => by cases beq_iff_eq.mp q
  simp only [binaryOp, hi]
  refine wpAny_holding (wpAny_bind ?_)
  unfold binaryOp1
  refine wpAny_bind (L1.at (wpAny_bind (L2.at (wpAny_bind (L3.at ?_)))))
  simp only [hne, Bool.false_eq_true, if_false]
  cases right with
  | false =>
    ksp_lk
    refine wpAny_mono one (fun r s' hr' => ?_) fun _ _ e => e
    obtain ⟨v, rfl, hq⟩ := hr'
    ksp_lk
    exact hq
  | true =>
    ksp_lk
    refine wpAny_mono one (fun r s' hr' => ?_) fun _ _ e => e
    obtain ⟨v, rfl, hq⟩ := hr'
    ksp_lk
    exact hq
end
end PySem.W
namespace L2
open PySem PySem.Spec PyProof.Rows
section
variable {X : Cx} {CI : CXT} {f : Addr} {fd : FuncData} {ps : List Str} {sp : Sp} {EI : XK} {n : Nat}
/-- o + y, o an instance with its own __add__, which gives an object -/
def rAddO (K : PySem.W.Frag) (C : Addr) (sp : Sp) (E : XK) : R2 := fun x y H Q => ∃ a dx fs t, x = .ref a ∧ H a = some (.ins C dx fs) ∧ TyX K H y t ∧ PySem.W.AddT K C "add" t ∧ sp [.ref a, y] H (fun v H' => ∃ b, v = .ref b ∧ Q (.ref b) H') E
structure AddM (K : PySem.W.Frag) (C f : Addr) : Prop where
  m : OwnM K C "__add__" f
  r : PySem.W.findIn K (.ref C) "__radd__" = some none
  s : PySem.W.selfFirst K C = true
theorem op_addO {C : Addr} (hr : Room n X.A) (M : AddM X.K C f) (F : FnOk X.prog X.w X.K X.mg X.base CI n f fd ps sp) (hb : Binds X.K fd ps []) (hx : Passes CI X EI) : OpR X (binaryOp .Add) (rAddO X.K C sp EI) := by
  intro pins s σ H x y v u Q I rx ry h
  obtain ⟨a, dx, fs, t, rfl, ha, ty, at_, hsp⟩ := h
  cases rx
  obtain ⟨mA, J, _⟩ := ins_get I.hok ha
  obtain ⟨od, J, _⟩ := J.look
  obtain ⟨P, Z, p, hx'⟩ := kit_of I ry ty
  refine PySem.W.bin_own (op := .Add) (rc := none) I.kIn J (Z.ty _ _ I.kIn p) M.s M.m.at_ M.m.fn M.r (.inl rfl) at_ ?_
  refine wpAny_mono (run_sub ⟨hr, rfl⟩ F (envSub I ⟨hr, rfl⟩) hb hx I (rv2 a ry) hsp) (fun w s' hq => ?_) fun _ _ z => z
  obtain ⟨z, H', I', rz, b, rfl, q⟩ := hq
  cases rz
  exact ⟨.ref b, H', I', rfl, q⟩
/-- what the right operand may be, by a look -/
def addB (K : PySem.W.Frag) (C : Addr) (T : String) : Bool := (PySem.W.findIn K (.type T) "__add__").isSome && ((PySem.W.findIn K (.type T) "__radd__").isSome && decide (PySem.W.subIn K (.type T) (.ref C) = some false))
theorem addB_ok {K : PySem.W.Frag} {C : Addr} {T : String} (h : addB K C T = true) : PySem.W.AddT K C "add" (.type T) := by
  obtain ⟨h1, h2⟩ := Bool.and_eq_true_iff.mp h
  obtain ⟨h2, h3⟩ := Bool.and_eq_true_iff.mp h2
  obtain ⟨fo, e1⟩ := Option.isSome_iff_exists.mp h1
  obtain ⟨ro, e2⟩ := Option.isSome_iff_exists.mp h2
  exact .inr ⟨T, fo, ro, rfl, e1, e2, of_decide_eq_true h3⟩
end
/-! ### two tuples of one and the same things -/
def plainV : V → Bool
  | .flt _ | .byt _ => false
  | _ => true
theorem eqAt_self {A : Around} {s : Shared} {v : V} {u u' : Value} (r : RelV v u) (r' : RelV v u') (f : plainV v = true) : SeqAt.EqAt A s u u' true := by
  cases v with
  | non => cases r; cases r'; exact SeqAt.EqAt.same _
  | bl b => cases r; cases r'; exact SeqAt.EqAt.same _
  | int i =>
    obtain ⟨t, rfl⟩ := r
    obtain ⟨t', rfl⟩ := r'
    have h := SeqAt.EqAt.int_int (A := A) (s := s) i t i t'
    rw [beq_self_eq_true] at h
    exact h
  | str x =>
    obtain ⟨t, rfl⟩ := r
    obtain ⟨t', rfl⟩ := r'
    have h := SeqAt.EqAt.str_str (A := A) (s := s) x t x t'
    rw [beq_self_eq_true] at h
    exact h
  | byt b => cases f
  | flt b => cases f
  | ref a => cases r; cases r'; exact SeqAt.EqAt.same _
  | ty n => cases r; cases r'; exact SeqAt.EqAt.same _
theorem pair_at : ∀ {vs : List V} {us : List Value}, Vals vs us → ∀ {j : Nat} (h : j < vs.length) (h' : j < us.length), RelV vs[j] us[j]
  | _, _, .cons r _, 0, _, _ => r
  | _, _, .cons _ t, j + 1, h, h' => pair_at t (Nat.lt_of_succ_lt_succ h) (Nat.lt_of_succ_lt_succ h')
section
variable {X : Cx}
def rNeSelf (K : PySem.W.Frag) : R2 := fun x y H Q => ∃ t u vs, x = .ref t ∧ y = .ref u ∧ SqT K H t vs ∧ SqT K H u vs ∧ vs.all plainV = true ∧ Q (.bl false) H
theorem op_neSelf (hu : X.A.units < cLine) : OpR X (compareOp .NotEq) (rNeSelf X.K) := by
  intro pins s σ H x y v u Q I rx ry h
  obtain ⟨a, b, vs, rfl, rfl, ha, hb, fl, q⟩ := h
  cases rx
  cases ry
  obtain ⟨its, rv, h1, _⟩ := I.tuple ha
  obtain ⟨its2, rv2, h2, _⟩ := I.tuple hb
  have n1 := rv.length
  have n2 := rv2.length
  have he : ∀ j (j1 : j < its.toArray.size) (j2 : j < its2.toArray.size), SeqAt.EqAt X.A.in1 s its.toArray[j] its2.toArray[j] true := fun j j1 j2 => by
    have j1' : j < its.length := by simpa using j1
    have j2' : j < its2.length := by simpa using j2
    have jv : j < vs.length := by omega
    have r1 := pair_at rv jv j1'
    have r2 := pair_at rv2 jv j2'
    have fl' : plainV vs[j] = true := List.all_eq_true.mp fl _ (List.getElem_mem jv)
    have z := eqAt_self (A := X.A.in1) (s := s) r1 r2 fl'
    simpa using z
  have z := SeqAt.RcNeAt.tuples (A := X.A) h1 h2 hu (e := fun _ => true) he
  have e : (!((List.range (min its.toArray.size its2.toArray.size)).all (fun _ => true) && its.toArray.size == its2.toArray.size)) = false := by
    have e1 : its.toArray.size = its2.toArray.size := by simp; omega
    rw [e1]
    simp
  rw [e] at z
  exact z X.prog X.w X.xe _ ⟨.bl false, H, I, rfl, q⟩
end
end L2

namespace L2
open PySem PySem.Spec PyProof.Rows
/-- for .. in enumerate(list or tuple) -/
theorem for_enumS {K : PySem.W.Frag} {a : Addr} {xs : List V} {H : Hp} (sq : SqL K H a xs ∨ SqT K H a xs) {g : TG} {tb : TS} {D : Ends} {σ : St} (Pv : Nat → St → Hp → Prop) (h0 : Pv 0 σ H) (hG : ∀ i σ H', i ≤ xs.length → Pv i σ H' → ∀ b u, H b = some u → H' b = some u)
    (hs : ∀ i y σ H' T, i < xs.length → Pv i σ H' → xs[i]? = some y → H' T = none → g (.ref T) σ (upd H' T (.tup [.int (i : Nat), y])) fun σ2 H2 => tb { D with nx := Pv (i + 1), ct := Pv (i + 1), bk := D.nx } σ2 H2) (hd : ∀ σ H, Pv xs.length σ H → D.nx σ H) :
    (SqL K H a xs ∧ ∃ W : Nat → Nat → St → Hp → Prop, (∃ m, W 0 m σ H) ∧ ∀ i m σ H, W i m σ H →
      ((Ite K a).stop i H ∧ D.nx σ H) ∨ ((Ite K a).go i H ∧ ∃ N : St → Hp → Prop, (∀ σ' H', N σ' H' → ∃ m', m' < m ∧ W (i + 1) m' σ' H') ∧ ∀ x H', (Ite K a).yld i H x H' → g x σ H' fun σ2 H2 => tb { D with nx := N, ct := N, bk := D.nx } σ2 H2)) ∨
    (SqT K H a xs ∧ ∃ W : Nat → Nat → St → Hp → Prop, (∃ m, W 0 m σ H) ∧ ∀ i m σ H, W i m σ H →
      ((IteT K a).stop i H ∧ D.nx σ H) ∨ ((IteT K a).go i H ∧ ∃ N : St → Hp → Prop, (∀ σ' H', N σ' H' → ∃ m', m' < m ∧ W (i + 1) m' σ' H') ∧ ∀ x H', (IteT K a).yld i H x H' → g x σ H' fun σ2 H2 => tb { D with nx := N, ct := N, bk := D.nx } σ2 H2)) := by
  rcases sq with sq | sq
  · refine .inl ⟨sq, for_it (walk_enum (xs := xs)) Pv h0 (fun i σ H' hi p => SqL.ext sq (hG i σ H' hi p)) (fun i x σ H' H'' hi p y => ?_) hd⟩
    obtain ⟨T, y1, y2, rfl, hT, rfl, e1, e2⟩ := y
    cases e1
    exact hs i y2 σ H' T hi p e2 hT
  · refine .inr ⟨sq, for_it (walk_enumT (xs := xs)) Pv h0 (fun i σ H' hi p => SqT.ext sq (hG i σ H' hi p)) (fun i x σ H' H'' hi p y => ?_) hd⟩
    obtain ⟨T, y1, y2, rfl, hT, rfl, e1, e2⟩ := y
    cases e1
    exact hs i y2 σ H' T hi p e2 hT
/-- [.. for .. in enumerate(list or tuple) ..] -/
theorem lc_enumS {K : PySem.W.Frag} {a : Addr} {xs : List V} {H : Hp} (sq : SqL K H a xs ∨ SqT K H a xs) {g : TG} {tt : TT} {te : TE} {vs : List Nat} {σ : St} {D : Addr} {Qd : Hp → Prop} (hD : H D = none) (Pv : Nat → Hp → Prop) (h0 : Pv 0 (upd H D (.lst []))) (hG : ∀ i H', i ≤ xs.length → Pv i H' → ∀ b u, H b = some u → H' b = some u)
    (hs : ∀ i y H' T, i < xs.length → Pv i H' → xs[i]? = some y → H' T = none → g (.ref T) (wipe σ vs) (upd H' T (.tup [.int (i : Nat), y])) fun σ2 H2 => wipe σ2 vs = wipe σ vs ∧ tt σ2 H2 fun b H3 =>
      if b = true then te σ2 H3 fun y H4 => ∃ acc, H4 D = some (.lst acc) ∧ acc.length < sizeLine ∧ Pv (i + 1) (upd H4 D (.lst (acc ++ [y]))) else Pv (i + 1) H3) (hd : ∀ H, Pv xs.length H → Qd H) :
    (∃ W : Nat → Nat → Hp → Prop, (∃ m, W 0 m (upd H D (.lst []))) ∧ ∀ i m H, W i m H →
      ((Ite K a).stop i H ∧ Qd H) ∨ ((Ite K a).go i H ∧ ∃ Nx : Hp → Prop, (∀ H', Nx H' → ∃ m', m' < m ∧ W (i + 1) m' H') ∧ ∀ x H', (Ite K a).yld i H x H' → g x (wipe σ vs) H' fun σ2 H2 => wipe σ2 vs = wipe σ vs ∧ tt σ2 H2 fun b H3 =>
        if b = true then te σ2 H3 fun y H4 => ∃ acc, H4 D = some (.lst acc) ∧ acc.length < sizeLine ∧ Nx (upd H4 D (.lst (acc ++ [y]))) else Nx H3)) ∨
    (∃ W : Nat → Nat → Hp → Prop, (∃ m, W 0 m (upd H D (.lst []))) ∧ ∀ i m H, W i m H →
      ((IteT K a).stop i H ∧ Qd H) ∨ ((IteT K a).go i H ∧ ∃ Nx : Hp → Prop, (∀ H', Nx H' → ∃ m', m' < m ∧ W (i + 1) m' H') ∧ ∀ x H', (IteT K a).yld i H x H' → g x (wipe σ vs) H' fun σ2 H2 => wipe σ2 vs = wipe σ vs ∧ tt σ2 H2 fun b H3 =>
        if b = true then te σ2 H3 fun y H4 => ∃ acc, H4 D = some (.lst acc) ∧ acc.length < sizeLine ∧ Nx (upd H4 D (.lst (acc ++ [y]))) else Nx H3)) := by
  rcases sq with sq | sq
  · refine .inl (lc_it (walk_enum (xs := xs)) Pv h0 (fun i H' hi p => SqL.ext sq (hG i H' hi p)) (fun i x H' H'' hi p y => ?_) hd)
    obtain ⟨T, y1, y2, rfl, hT, rfl, e1, e2⟩ := y
    cases e1
    exact hs i y2 H' T hi p e2 hT
  · refine .inr (lc_it (walk_enumT (xs := xs)) Pv h0 (fun i H' hi p => SqT.ext sq (hG i H' hi p)) (fun i x H' H'' hi p y => ?_) hd)
    obtain ⟨T, y1, y2, rfl, hT, rfl, e1, e2⟩ := y
    cases e1
    exact hs i y2 H' T hi p e2 hT
end L2

namespace L2
open PySem PySem.Spec PyProof.Rows
theorem PG.or {X : Cx} {t : Expr} {g g' : TG} (h : PG X t g) (h' : PG X t g') : PG X t (fun v σ H Q => g v σ H Q ∨ g' v σ H Q) :=
  ⟨fun pins s σ H v u Q I rv q => q.elim (h.run pins s σ H v u Q I rv) (h'.run pins s σ H v u Q I rv)⟩
theorem opK {X : Cx} {f : Value → Value → Sem Value} {r : PySem.W.Frag → R2} {K : PySem.W.Frag} (e : X.K = K) (h : OpR X f (r X.K)) : OpR X f (r K) := e ▸ h
theorem ixK {X : Cx} {r : PySem.W.Frag → R2} {K : PySem.W.Frag} (e : X.K = K) (h : IxR X (r X.K)) : IxR X (r K) := e ▸ h
theorem caK {X : Cx} {v : Value} {r : PySem.W.Frag → List V → Hp → VK → Prop} {K : PySem.W.Frag} (e : X.K = K) (h : CallR X v (r X.K)) : CallR X v (r K) := e ▸ h
theorem peK {X : Cx} {x : Expr} {r : PySem.W.Frag → TE} {K : PySem.W.Frag} (e : X.K = K) (h : PE X x (r X.K)) : PE X x (r K) := e ▸ h
theorem u65 {k : Nat} {A : Around} (h : Room k A) : A.units + 65 < cLine := by
  have := h.un
  omega
theorem PI.or {X : Cx} {tg e : Expr} {w1 w2 : TI} (h : PI X tg e w1) (h' : PI X tg e w2) : PI X tg e (fun σ H R => w1 σ H R ∨ w2 σ H R) :=
  ⟨fun pins s σ H R I q => q.elim (h.run pins s σ H R I) (h'.run pins s σ H R I)⟩
theorem pi_seqS {X : Cx} {tg l : Expr} {tl : TE} (h : PE X l tl) : PI X tg l (fun σ H R => iList X.K tl σ H R ∨ iTup X.K tl σ H R) := PI.or (pi_list h) (pi_tup h)
end L2
namespace My
open PySem PySem.Spec PyProof.Rows L2
/-- an unpacking of a list or a tuple -/
def gSeq (K : PySem.W.Frag) (n : Nat) (t : TGs) : TG := fun v σ H Q => ∃ a xs, v = .ref a ∧ SeqAt2 K H a xs ∧ xs.length = n ∧ t xs σ H Q
theorem pg_seq {X : Cx} {pos : Pos} {es : List Expr} {k : Nat} {t : TGs} {n : Nat} (hc : X.calm = true) (h : PGs X es t) (h1 : (assignEach es X.env).length = n := by rfl) (h2 : List.findIdx? (fun x => x.fst) (assignEach es X.env) = none := by rfl) : PG X (Expr.Tuple es k pos) (gSeq X.K n t) :=
  ⟨fun pins s σ H v u Q I rv q => (PG.or (pg_tup hc h h1 h2) (pg_unl hc h h1 h2)).run pins s σ H v u Q I rv (by
    obtain ⟨a, xs, e, sq, l, q⟩ := q
    exact sq.elim (fun z => .inr ⟨a, xs, e, z, l, q⟩) fun z => .inl ⟨a, xs, e, z, l, q⟩)⟩
/-- what may stand in a fact: flat, or a list, a tuple, a dict -/
def Itm (K : PySem.W.Frag) (H : Hp) (x : V) : Prop := flatV x = true ∨ NoText K H x
theorem NoText.ext {K : PySem.W.Frag} {H H' : Hp} {x : V} (h : NoText K H x) (e : Ext H H') : NoText K H' x := by
  rcases h with ⟨a, xs, rfl, h | h⟩ | ⟨a, kvs, rfl, h⟩
  · exact .inl ⟨a, xs, rfl, .inl (h.ext e)⟩
  · exact .inl ⟨a, xs, rfl, .inr (h.ext e)⟩
  · exact .inr ⟨a, kvs, rfl, e _ _ h⟩
theorem Itm.ext {K : PySem.W.Frag} {H H' : Hp} {x : V} (h : Itm K H x) (e : Ext H H') : Itm K H' x := h.elim .inl fun z => .inr (NoText.ext z e)
def rLstS (K : PySem.W.Frag) : List V → Hp → VK → Prop := fun xs H Q => ∃ a zs, xs = [.ref a] ∧ SeqAt2 K H a zs ∧ ∀ l, H l = none → Q (.ref l) (L2.upd H l (.lst zs))
theorem call_lstS {X : Cx} : CallR X (.type "list") (rLstS X.K) := by
  intro pins s σ H xs us Q I rv h
  obtain ⟨a, zs, rfl, sq, q⟩ := h
  exact call_list_of pins s σ H _ us Q I rv ⟨a, zs, rfl, sq, q⟩
/-! ### dicts with text keys -/
abbrev Dic : Type := List (Str × V)
def kd (d : Dic) : List (Key × V) := d.map fun p => (Sum.inr p.1, p.2)
def getD (d : Dic) (z : Str) : Option V := (d.find? fun p => decide (p.1 = z)).map (·.2)
theorem val_kd (z : Str) : ∀ d : Dic, valV (kd d) (Sum.inr z) = getD d z
  | [] => rfl
  | (y, v) :: d => by
    have ih := val_kd z d
    unfold valV getD kd at *
    rw [List.map_cons, List.find?_cons, List.find?_cons]
    by_cases e : y = z
    · subst e
      simp
    · have e2 : ¬ ((Sum.inr y : Key) = Sum.inr z) := fun h => e (by injection h)
      simp only [e, e2, decide_false]
      exact ih
def setD (d : Dic) (z : Str) (v : V) : Dic := if (d.any fun p => decide (p.1 = z)) = true then d.map fun p => if p.1 = z then (p.1, v) else p else d ++ [(z, v)]
theorem any_kd (z : Str) (d : Dic) : ((kd d).any fun kv => decide (kv.1 = Sum.inr z)) = d.any fun p => decide (p.1 = z) := by
  unfold kd
  rw [List.any_map]
  congr 1
  funext p
  show decide ((Sum.inr p.1 : Key) = Sum.inr z) = decide (p.1 = z)
  by_cases e : p.1 = z
  · rw [decide_eq_true e, decide_eq_true (by rw [e])]
  · rw [decide_eq_false e, decide_eq_false fun h => e (by injection h)]
theorem put_kd (d : Dic) (z : Str) (v : V) : putK (kd d) (Sum.inr z) v = kd (setD d z v) := by
  unfold putK setD
  rw [any_kd]
  by_cases h : (d.any fun p => decide (p.1 = z)) = true
  · rw [if_pos h, if_pos h]
    unfold kd
    rw [List.map_map, List.map_map]
    refine List.map_congr_left fun p _ => ?_
    show (if (Sum.inr p.1 : Key) = Sum.inr z then ((Sum.inr p.1 : Key), v) else (Sum.inr p.1, p.2)) = _
    by_cases e : p.1 = z
    · rw [if_pos (by rw [e])]
      simp [e]
    · rw [if_neg fun h => e (by injection h)]
      simp [e]
  · rw [if_neg h, if_neg h]
    unfold kd
    rw [List.map_append]
    rfl
theorem setD_len (d : Dic) (z : Str) (v : V) : (setD d z v).length ≤ d.length + 1 := by
  unfold setD
  split
  · rw [List.length_map]
    exact Nat.le_succ _
  · rw [List.length_append]
    exact Nat.le_refl _
theorem setD_mem {d : Dic} {z : Str} {v : V} {p : Str × V} (h : p ∈ setD d z v) : p ∈ d ∨ p.2 = v := by
  unfold setD at h
  split at h
  · obtain ⟨q, hq, e⟩ := List.mem_map.mp h
    by_cases c : q.1 = z
    · rw [if_pos c] at e
      exact .inr (by rw [← e])
    · rw [if_neg c] at e
      exact .inl (e ▸ hq)
  · rcases List.mem_append.mp h with h | h
    · exact .inl h
    · rw [List.mem_singleton.mp h]
      exact .inr rfl
theorem getD_mem {d : Dic} {z : Str} {v : V} (h : getD d z = some v) : ∃ p, p ∈ d ∧ p.2 = v := by
  unfold getD at h
  cases e : d.find? fun p => decide (p.1 = z) with
  | none => rw [e] at h; cases h
  | some p =>
    rw [e] at h
    injection h with h
    exact ⟨p, List.mem_of_find?_eq_some e, h⟩
/-- the worths: None or folders -/
def DicOk (fo : List Str) (d : Dic) : Prop := ∀ p, p ∈ d → p.2 = .non ∨ ∃ z, z ∈ fo ∧ p.2 = .str z
def Opt (fo : List Str) (v : V) : Prop := v = .non ∨ ∃ z, z ∈ fo ∧ v = .str z
theorem getD_opt {fo : List Str} {d : Dic} (h : DicOk fo d) (z : Str) : Opt fo ((getD d z).getD .non) := by
  cases e : getD d z with
  | none => exact .inl rfl
  | some v =>
    obtain ⟨p, hp, e2⟩ := getD_mem e
    rw [← e2]
    exact h p hp
def stepV (d : Dic) : V → V
  | .str z => (getD d z).getD .non
  | v => v
theorem step_opt {fo : List Str} {d : Dic} (h : DicOk fo d) {v : V} (hv : Opt fo v) : Opt fo (stepV d v) := by
  rcases hv with rfl | ⟨z, _, rfl⟩
  · exact .inl rfl
  · exact getD_opt h z
/-! ### rows as data -/
theorem filter_all {α : Type} (p : α → Bool) : ∀ xs : List α, decide (xs.filter (fun x => !p x) = ([] : List α)) = xs.all p
  | [] => rfl
  | x :: xs => by
    have ih := filter_all p xs
    rw [List.filter_cons, List.all_cons]
    cases h : p x with
    | true => simpa using ih
    | false => simp
theorem kd_len (d : Dic) : (kd d).length = d.length := List.length_map _
theorem ext_none {H H' : Hp} {p : Addr} (e : Ext H H') (h : H' p = none) : H p = none := by
  cases hh : H p with
  | none => rfl
  | some u => exact absurd (e p u hh) (by rw [h]; exact fun z => nomatch z)
theorem strs_at {zs : List Str} {i : Nat} {v : V} (h : (zs.map V.str)[i]? = some v) : ∃ z, zs[i]? = some z ∧ v = .str z := by
  rw [List.getElem?_map] at h
  cases e : zs[i]? with
  | none => rw [e] at h; cases h
  | some z =>
    rw [e] at h
    injection h with h
    exact ⟨z, rfl, h.symm⟩
/-! ### lines in the order of the house -/
theorem eqV_strE {z : Str} {y : V} (h : eqV (.str z) y = true) : y = .str z := by
  cases y with
  | str w =>
    have e : z = w := eq_of_beq h
    rw [e]
  | _ => exact absurd (show false = true from h) Bool.false_ne_true
theorem flat_strs (zs : List Str) : (zs.map V.str).all flatV = true := by
  rw [List.all_map]
  exact List.all_eq_true.mpr fun _ _ => rfl
theorem strs_idx {ns : List Str} {j : Nat} {z : Str} (nd : ns.Nodup) (h : ns[j]? = some z) : ∀ (m : Nat) (z' : V), m < j → (ns.map V.str)[m]? = some z' → eqV z' (.str z) = false := fun m z' hm e => by
  obtain ⟨y, hy, rfl⟩ := strs_at e
  cases hh : eqV (.str y) (.str z) with
  | false => rfl
  | true =>
    have e2 : (V.str z) = .str y := eqV_strE hh
    injection e2 with e2
    subst e2
    obtain ⟨h1, e1⟩ := List.getElem?_eq_some_iff.mp h
    obtain ⟨h2, e3⟩ := List.getElem?_eq_some_iff.mp hy
    have := (List.getElem_inj nd).mp (e1.trans e3.symm)
    omega
theorem sqT_butL {K : PySem.W.Frag} {H H' : Hp} {p t : Addr} {ys xs : List V} (hp : H p = some (.lst ys)) (b : But H H' p) (h : SqT K H t xs) : SqT K H' t xs := by
  rcases h with (h | ⟨o, h⟩) | h
  · exact .inl (.inl (b _ _ (ne_of h hp (fun z => nomatch z)) h))
  · exact .inl (.inr ⟨o, b _ _ (ne_of h hp (fun z => nomatch z)) h⟩)
  · exact .inr h
theorem hou_butL {H H' : Hp} {K : PySem.W.Frag} {C h p : Addr} {fo th : List Str} {ys : List V} (hp : H p = some (.lst ys)) (b : But H H' p) (hh : Hou H K C h fo th) : Hou H' K C h fo th := by
  obtain ⟨⟨dx, fs, f, t, n, h1, h2, h3, h4, h5, h6, h7⟩, k⟩ := hh
  exact ⟨⟨dx, fs, f, t, n, b _ _ (ne_of h1 hp (fun z => nomatch z)) h1, h2, h3, h4, sqT_butL hp b h5, sqT_butL hp b h6, sqT_butL hp b h7⟩, k⟩
theorem Pool.lst {H : Hp} {p : Addr} {n : Int} (h : Pool H p n) : ∃ ys, H p = some (.lst ys) := by
  obtain ⟨g, m, c, h, _⟩ := h
  exact ⟨_, h⟩
theorem ext_but' {H H1 H2 : Hp} {p : Addr} (x : Ext H H1) (h : H p = none) (b : But H1 H2 p) : Ext H H2 := fun a u e => b a u (ne_of_none e h) (x a u e)
theorem cutV_takeA {xs : List V} {k : Nat} : cutV xs none (some ((k : Nat) : Int)) = xs.take k := by
  unfold cutV
  rw [HT.sIx_none, HT.sIx_nat, Nat.sub_zero, List.drop_zero]
  rcases Nat.le_total k xs.length with h | h
  · rw [Nat.min_eq_left h]
  · rw [Nat.min_eq_right h, List.take_of_length_le (Nat.le_refl _), List.take_of_length_le h]
/-! ### what is no fact -/
theorem inV_not {z : Str} {zs : List Str} (h : z ∉ zs) : inV (.str z) (zs.map V.str) = false := by
  rw [inV_str]
  exact decide_eq_false h
theorem inV_non (zs : List Str) : inV .non (zs.map V.str) = false := inV_no (fun _ => rfl) zs
end My

namespace L2
open PySem PySem.Spec PyProof.Rows
section
variable {X : Cx}
/-- *a, b, .. -/
theorem pgs_star {e : Expr} {es : List Expr} {t : TG} {u : TGs} {sp : Pos} (h1 : PG X e t) (h2 : PGs X es u)
    (hs : (assignEach (.Starred e sp :: es) X.env).map (·.2) = assign e X.env :: (assignEach es X.env).map (·.2) := by rfl) : PGs X (.Starred e sp :: es) (gCons t u) := by
  refine ⟨fun pins s σ H vs us Q I r h => ?_⟩
  obtain ⟨v, vr, e1, h⟩ := h
  subst e1
  cases r with
  | cons r rr =>
    rw [hs]
    refine assignInOrder_cons (thn (h1.run pins s σ H _ _ _ I r h) fun _ s1 ⟨σ1, H1, I1, q1⟩ => ?_)
    exact h2.run pins s1 σ1 H1 _ _ Q I1 rr q1
/-- a, *b, c = list -/
def gStar (K : PySem.W.Frag) (n i : Nat) (t : TGs) : TG := fun v σ H Q => ∃ a xs, v = .ref a ∧ SqL K H a xs ∧ n ≤ xs.length + 1 ∧ xs.length ≤ 16384 ∧
  ∀ D, H D = none → t (xs.take i ++ [.ref D] ++ (xs.drop i).drop (xs.length + 1 - n)) σ (upd H D (.lst ((xs.drop i).take (xs.length + 1 - n)))) Q
theorem pg_starL {es : List Expr} {k : Nat} {t : TGs} {n i : Nat} {pos : Pos} (hc : X.calm = true) (h : PGs X es t)
    (hn : (assignEach es X.env).length = n := by rfl) (hst : (assignEach es X.env).findIdx? (·.1) = some i := by rfl) (hi : i < n := by decide) : PG X (.Tuple es k pos) (gStar X.K n i t) := by
  refine ⟨fun pins s σ H v u Q I r hw => ?_⟩
  obtain ⟨a, xs, e1, hq, hl, hz', hw⟩ := hw
  subst e1
  cases r
  obtain ⟨its, rv, pl, hz⟩ := I.list hq
  have hlen := rv.length
  have hl' : s.heap.IsList a its.toArray := by
    obtain ⟨o, m, e, c, d, q⟩ := pl
    exact ⟨o, e, c, m, q⟩
  rw [PyProof.Rows.assign_Tuple]
  refine wpAny_bind (wpAny_standAt ?_)
  unfold unpack
  rw [hn, hst]
  have hlt : a ≠ s.heap.objs.size := by obtain ⟨o, ho, _⟩ := hl'; exact Nat.ne_of_lt (Heap.lt_size ho)
  have hll : a < s.heap.objs.size := by obtain ⟨o, ho, _⟩ := hl'; exact Heap.lt_size ho
  have hsz : its.toArray.size = xs.length := by simp [hlen]
  have hh := I.ok.hd hc
  refine wpAny_bind (wpAny_holding ?_)
  unfold unpackItems
  refine wpAny_bind ?_
  unfold notIterableAtAll
  refine wpAny_bind (wpAny_specialOf hl'.typeIs PySem.F.slot_list_iter.lookup ?_)
  refine wpAny_pure ?_
  simp only [Bool.false_eq_true, if_false]
  refine wpAny_bind (wpAny_holding (wpAny_pyIter_list hl' ?_))
  refine wpAny_bind (wpAny_holding (PySem.W.kun_draw hlt i 0 _ _ ⟨_, Heap.get?_push_size _ rfl, rfl, rfl⟩ (hl'.push _) (by omega) fun h₁ hit₁ hs₁ => ?_))
  have hl₁ : h₁.IsList a its.toArray := (hl'.push _).extBut hs₁.extBut hlt
  rw [Nat.zero_add] at hit₁
  have hit₁' := hit₁
  obtain ⟨oi, hoi, _⟩ := hit₁'
  have hl₁' := hl₁
  obtain ⟨ol, hol, _⟩ := hl₁'
  rw [List.drop_zero]
  have hfl : (its.toArray.toList.take i).length = i := by rw [List.length_take, Array.length_toList]; omega
  rw [if_neg (show ¬ ((its.toArray.toList.take i).length < i) by rw [hfl]; omega)]
  refine wpAny_bind (wpAny_holding (PySem.W.kun_collect (s := { s with heap := h₁ }) (T := "list_iterator") (.inr (.inr (.inl rfl))) (Walks.list (A := X.A.in1) hh s.heap.objs.size a hlt its.toArray) (fun j u st => st.1.typeIs) (k := i) (by omega) ⟨hit₁, hl₁⟩ (Heap.lt_size hoi) (Heap.lt_size hol) (fun h₂ tk hk => ?_) (by rw [sizeLine_eq]; omega)))
  have hrl : (its.toArray.toList.drop i).length = its.toArray.size - i := by rw [List.length_drop, Array.length_toList]
  have hmid : (its.toArray.toList.drop i).length - (n - 1 - i) = its.toArray.size + 1 - n := by rw [hrl]; omega
  show wpAny _ _ (if (its.toArray.toList.drop i).length < n - 1 - i then _ else _) _ _ _
  rw [if_neg (by rw [hrl]; omega)]
  show wpAny _ _ (newList ((its.toArray.toList.drop i).take ((its.toArray.toList.drop i).length - (n - 1 - i))) >>= fun d => pure (its.toArray.toList.take i ++ [d] ++ (its.toArray.toList.drop i).drop ((its.toArray.toList.drop i).length - (n - 1 - i)))) _ _ _
  rw [hmid]
  have he : ∀ b o, s.heap.get? b = some o → h₂.get? b = some o := fun b o e => by
    have hb := Nat.ne_of_lt (Heap.lt_size e)
    exact hk b o hb (hs₁.extBut b o hb (Heap.get?_push_of_some _ e))
  have I2 : Inv X pins σ H { s with heap := h₂, toks := tk } := I.kept (t' := tk) he
  refine wpAny_bind (wpAny_newList ?_ (by rw [List.length_take, hrl, sizeLine_eq]; omega))
  have hf : H h₂.objs.size = none := I2.hok.fresh (Nat.le_refl _)
  have et : its.toArray.toList = its := by simp
  have rmid : Vals ((xs.drop i).take (xs.length + 1 - n)) ((its.drop i).take (xs.length + 1 - n)) := (rv.drop i).take _
  have ml : ((xs.drop i).take (xs.length + 1 - n)).length ≤ sizeLine := by rw [List.length_take, List.length_drop, sizeLine_eq]; omega
  have I3 : Inv X pins σ (upd H h₂.objs.size (.lst ((xs.drop i).take (xs.length + 1 - n)))) { s with heap := h₂.push { cls := .type "list", data := .seq ((its.toArray.toList.drop i).take (its.toArray.size + 1 - n)).toArray }, toks := tk } := by
    refine I2.laid (t' := tk) (fun b u e => Heap.get?_push_of_some _ e) (Nat.le_refl _) ?_
    rw [hsz, et]
    exact ⟨ml, _, 0, rmid, Heap.get?_push_size _ rfl⟩
  refine wpAny_pure ?_
  refine h.run pins _ σ _ _ _ Q I3 ?_ (hw _ hf)
  rw [hsz, et]
  refine Vals.append (Vals.append (rv.take i) (.cons rfl .nil)) ?_
  exact (rv.drop i).drop _
end
end L2

namespace L2
open PySem PySem.Spec PyProof.Rows
/-! ### enumerate(list, k) -/
def IteF (K : PySem.W.Frag) (a : Addr) (k₀ : Int) : It :=
  ⟨fun i H => ∃ (xs : List V) (x : V), SqL K H a xs ∧ xs[i]? = some x, fun i H v H' => ∃ T x, v = .ref T ∧ H T = none ∧ H' = upd H T (.tup [.int (k₀ + (i : Nat)), x]) ∧ ∀ xs, SqL K H a xs → xs[i]? = some x, fun i H => ∃ xs : List V, SqL K H a xs ∧ xs.length = i⟩
theorem enumL_ne {h : Heap} {e it l : Addr} {i : Int} {old : Value} {items : Array Value} (he : IsEnum h e it i old) (hl : h.IsList l items) : l ≠ e := fun z => by
  obtain ⟨o, ho, _, n, hd⟩ := hl
  rw [z, he] at ho
  cases ho
  cases hd
theorem iterL_ne {h : Heap} {it l : Addr} {i : Nat} {items : Array Value} (hi : h.IsListIter it l i) (hl : h.IsList l items) : l ≠ it := fun z => by
  obtain ⟨o, ho, _, n, hd⟩ := hl
  obtain ⟨o2, ho2, _, hd2⟩ := hi
  rw [z, ho2] at ho
  cases ho
  rw [hd2] at hd
  cases hd
theorem turn_enumF {P : Program} {w : World} {K : PySem.W.Frag} {elts : List Expr} {kk : Nat} {tpos : Pos} (k₀ : Int) (a e it : Addr) :
    Turn P w K (.Tuple elts kk tpos) (IteF K a k₀) [e, it] e (fun i h => (∃ old, IsEnum h e it (k₀ + ((i : Nat) : Int)) old) ∧ h.IsListIter it a i ∧ e ≠ it) where
  mem := List.mem_cons_self
  obj := fun i h st b hb => by
    obtain ⟨⟨old, he⟩, ⟨o, ho, hc, hd⟩, _⟩ := st
    rcases List.mem_cons.mp hb with rfl | hb
    · exact ⟨_, he, fun v q => nomatch q⟩
    · rw [List.mem_singleton.mp hb]
      exact ⟨o, ho, fun v q => by rw [hd] at q; cases q⟩
  keep := fun i h h' st k => ⟨st.1.elim fun old z => ⟨old, k e List.mem_cons_self _ z⟩, st.2.1.at fun o q => k it (List.mem_cons_of_mem _ List.mem_cons_self) o q, st.2.2⟩
  item := by
    intro X hP hw hK hc i pins s σ H E I hf st hg
    subst hP hw hK
    obtain ⟨⟨old, he⟩, hit, hne⟩ := st
    obtain ⟨xs, x, hq, hx⟩ := hg
    obtain ⟨its, rv, p, hz⟩ := I.list hq
    obtain ⟨u, hu, ru⟩ := rv.get hx
    have pt : s.heap.IsList a its.toArray := p.isList
    have hel : e < s.heap.objs.size := Heap.lt_size he
    have hlen : i < its.toArray.size := by
      rw [List.size_toArray]
      exact (List.getElem?_eq_some_iff.mp hu).1
    refine wpAny_pyNext_enum_itemC (Draws.list (A := X.A.in1) (I.ok.hd hc) it a (iterL_ne hit pt) its.toArray) he ⟨hit, pt⟩ hlen hne (by
      intro z
      rcases List.mem_cons.mp z with z | z
      · exact hne z
      · exact enumL_ne he pt (List.mem_singleton.mp z).symm) fun y h' tk hy ho hit' hT hsz hk => ?_
    have ey : y = u := by
      rw [List.getElem?_toArray, hu] at hy
      exact (Option.some.inj hy).symm
    subst ey
    refine ⟨_, rfl, wpAny_letOwnedTupleGo_enum (s := { s with heap := h', toks := tk + 1 }) ho fun h'' he' sb => ?_⟩
    have hT2 : h''.get? s.heap.objs.size = some { cls := .type "tuple", data := .seq #[.int (k₀ + i) tk, y] } := (sb.2 _ (Nat.ne_of_gt hel)).trans hT
    have new : ObjOk X.prog X.w (upd H s.heap.objs.size (.tup [.int (k₀ + (i : Nat)), x])) h'' s.heap.objs.size (.tup [.int (k₀ + (i : Nat)), x]) :=
      ⟨Nat.le_of_ble_eq_true rfl, [.int (k₀ + i) tk, y], .cons ⟨_, rfl⟩ (.cons ru .nil), ⟨_, hT2, rfl, _, rfl⟩⟩
    have I1 : Inv X pins σ (upd H s.heap.objs.size (.tup [.int (k₀ + (i : Nat)), x])) { s with heap := h'', toks := tk + 1 } :=
      I.turnedNew (ch := [e, it]) (fun b ob hb q => (sb.2 b (fun z => hb (by simp [z]))).trans (hk b ob (fun z => hb (by simp [z])) (fun z => hb (by simp [z])) q)) hf (Nat.le_refl _) new
    have hfr : H s.heap.objs.size = none := I.hok.fresh (Nat.le_refl _)
    refine ⟨.ref s.heap.objs.size, _, I1, rfl, ⟨_, x, rfl, hfr, rfl, fun ys hy => by rw [I.list_inj hy hq]; exact hx⟩, ⟨⟨y, ?_⟩, hit'.1.at fun o q => (sb.2 it (Ne.symm hne)).trans q, hne⟩, fun b hb => ?_⟩
    · have e1 : k₀ + ((i + 1 : Nat) : Int) = k₀ + (i : Int) + 1 := by omega
      rw [e1]
      exact he'
    · have bl : b < s.heap.objs.size := by
        rcases List.mem_cons.mp hb with rfl | hb
        · exact hel
        · rw [List.mem_singleton.mp hb]
          obtain ⟨_, z, _⟩ := hit
          exact Heap.lt_size z
      rw [upd_ne (Nat.ne_of_lt bl)]
      exact (hf b hb).1
  done := by
    intro X hP hw hK hc i pins s σ H E I hf st hg
    subst hP hw hK
    obtain ⟨⟨old, he⟩, hit, hne⟩ := st
    obtain ⟨xs, hq, hx⟩ := hg
    obtain ⟨its, rv, p, hz⟩ := I.list hq
    obtain ⟨f0, f1, f2, f3, f4, f5⟩ := hf it (List.mem_cons_of_mem _ List.mem_cons_self)
    have pt : s.heap.IsList a its.toArray := p.isList
    have hn : its.toArray.size = i := by
      rw [List.size_toArray, ← rv.length]
      exact hx
    exact wpAny_pyNext_enum_endD (Draws.list (A := X.A.in1) (I.ok.hd hc) it a (iterL_ne hit pt) its.toArray) he (by rw [hn]; exact ⟨hit, pt⟩) fun h' eb => ⟨rfl, I.turned (t' := s.toks) (fun b o hb q => eb b o hb q) f0 f1 f3 f4 f5⟩
  self := fun A i s Q E st h => st.1.elim fun _ he => wpAny_pyIter_enum he h
def iEnumF (K : PySem.W.Frag) (ta : TA) : TI := fun σ H R => ta σ H fun vs H1 => ∃ (a : Addr) (xs : List V) (k₀ : Int), vs = [.ref a, .int k₀] ∧ -(2 ^ 63) ≤ k₀ ∧ k₀ < 2 ^ 63 ∧ SqL K H1 a xs ∧ R (IteF K a k₀) H1
theorem pi_enumF {X : Cx} {e1 e2 : Expr} {ta : TA} {p pos tpos : Pos} {elts : List Expr} {kk : Nat} (hg : Gl X "enumerate") (hm : X.mg "enumerate" = none) (ha : PA X [e1, e2] ta) (hs : starEach [e1, e2] X.env = [(false, eval e1 X.env), (false, eval e2 X.env)] := by rfl) (hs2 : starEach [e2] X.env = [(false, eval e2 X.env)] := by rfl) :
    PI X (.Tuple elts kk tpos) (.Call (.Name "enumerate" p) [e1, e2] [] pos) (iEnumF X.K ta) := by
  refine ⟨fun pins s σ H R I h => ?_⟩
  refine Call_ (ld_blt I hg hm boot_enumerate (PyProof.Rows.callWith_type1 (thn (ha.run pos pins s σ H _ I h) fun us s1 ⟨vs, H1, I1, r1, q1⟩ => ?_) (by rw [hs, hs2]) (by rw [hs2]; rfl)))
  obtain ⟨a, xs, k₀, rfl, k0, k1, hq, q⟩ := q1
  obtain ⟨u, v, rfl, ru, rv'⟩ := r1.two
  cases ru
  obtain ⟨tk, rfl⟩ := rv'
  have young : ∀ b, b ∈ [s1.heap.objs.size + 1, s1.heap.objs.size] → s1.heap.objs.size ≤ b := fun b hb => by
    rcases List.mem_cons.mp hb with z | z
    · rw [z]; exact Nat.le_add_right _ _
    · rw [List.mem_singleton.mp z]; exact Nat.le_refl _
  obtain ⟨its, rv, p', hz⟩ := I1.list hq
  refine enum_begins (begins_list a its.toArray) p'.isList k0 k1 fun h' he hit _ hk => wpAny_pyIter_enum he ?_
  exact ⟨s1.heap.objs.size + 1, [s1.heap.objs.size + 1, s1.heap.objs.size], _, _, H1, rfl, I1.kept (t' := s1.toks) hk, turn_enumF k₀ a (s1.heap.objs.size + 1) s1.heap.objs.size, ⟨⟨.none, by rw [show k₀ + ((0 : Nat) : Int) = k₀ by omega]; exact he⟩, ⟨_, hit, rfl, rfl⟩, Nat.succ_ne_self _⟩, fun b hb => I1.fpOk (young b hb) (I1.hok.fresh (young b hb)), q⟩
theorem walk_enumF {K : PySem.W.Frag} {a : Addr} {xs : List V} {k₀ : Int} : Walk (IteF K a k₀) xs.length (fun H => SqL K H a xs) (YPair (fun i => some (.int (k₀ + (i : Nat)))) (fun i => xs[i]?)) := by
  refine ⟨fun i _ hi q => ⟨xs, xs[i], q, by simp [hi]⟩, fun _ q => ⟨xs, q, rfl⟩, fun i H v H' _ q y => ?_⟩
  obtain ⟨T, x, h1, h2, h3, h4⟩ := y
  exact ⟨T, .int (k₀ + (i : Nat)), x, h1, h2, h3, rfl, h4 xs q⟩
end L2

namespace L2
open PySem PySem.Spec PyProof.Rows
section
variable {X : Cx}
/-- len of a dict that is read, maybe locked -/
theorem call_lenDR : CallR X (.builtin "len") (fun xs H Q => ∃ a kvs, xs = [V.ref a] ∧ Rd H a (.dK kvs) ∧ Q (.int kvs.length) H) := by
  intro pins s σ H xs us Q I r h
  obtain ⟨a, kvs, rfl, ha, q⟩ := h
  obtain ⟨u, rfl, ru⟩ := vals1 r
  cases ru
  exact d_len I ha fun t s' I' => ⟨.int kvs.length, H, I', ⟨t, rfl⟩, q⟩
/-- name = {..} on one line, the name a local -/
theorem ps_setDc {i : Nat} {y : Str} {py : Pos} {kx vx tg iter : Expr} {ifs : List Expr} {scope : Scope} {own : List (Str × Nat)} {pos spos : Pos} {wi : TI} {g : TG} {tt : TT} {tk tv : TE} (hc : X.calm = true) (hN : X.N.Nodup) (hy : X.N[i]? = some y) (hyl : X.env.scope.names.lookup y = some .local)
    (hsw : swapsWith (.DictComp kx vx [⟨tg, iter, ifs, 0⟩] scope pos) (some (.Name y py)) spos.line X.env = pure true) (hi : PI X tg iter wi) (ok : BlkOk X.N X.env.scope scope own)
    (hg : ∀ (s : Shared) (H : Hp) (C : Addr) (cl : List (Str × Addr)) (fp : List Addr), PG (X.blk s H scope (compEnvC scope cl C X.env) fp) tg g) (ht : ∀ (s : Shared) (H : Hp) (C : Addr) (cl : List (Str × Addr)) (fp : List Addr), PTs (X.blk s H scope (compEnvC scope cl C X.env) fp) ifs tt)
    (hk : ∀ (s : Shared) (H : Hp) (C : Addr) (cl : List (Str × Addr)) (fp : List Addr), PE (X.blk s H scope (compEnvC scope cl C X.env) fp) kx tk)
    (he : ∀ (s : Shared) (H : Hp) (C : Addr) (cl : List (Str × Addr)) (fp : List Addr), PE (X.blk s H scope (compEnvC scope cl C X.env) fp) vx tv) (hs : ∀ x, foldedSetIterable iter X.env x = pure x := by intro _; rfl) :
    PS X (.Assign [.Name y py] (.DictComp kx vx [⟨tg, iter, ifs, 0⟩] scope pos) spos) (tAsg (tDc wi g tt tk tv (own.map (·.2))) (gName i)) := by
  refine ⟨fun pins s σ H D I h => ?_⟩
  rw [exec_Assign_Name_used _ _ _ _ hsw]
  refine wpAny_bind (wpAny_standAt (wpAny_bind ?_))
  show wpAny _ X.A (do let _ ← comprehension (.DictComp kx vx [⟨tg, iter, ifs, 0⟩] scope pos) scope X.env (firstIterPos [⟨tg, iter, ifs, 0⟩] pos) newDict false (eval iter X.env) (some (assign (.Name y py) X.env))) _ _ s
  have h : tDc wi g tt tk tv (own.map (·.2)) σ H (fun x H1 => gName i x σ H1 D.nx) := h
  refine wpAny_bind (thn (dc_core (Qf := fun _ s' => SP X pins D .next s') hc hN I hi ok hg ht hk he hs h fun L C s' m H' I' q hn f => ?_) fun _ s' hq => wpAny_pure (wpAny_pure hq))
  show wpAny _ _ (assign (.Name y py) X.env (.ref L)) _ _ _
  refine wpAny_assign_Name (store_ok2 (v := V.ref L) I' hN hy (.inl hyl) rfl (fun s2 I2 ⟨a, sb, ha⟩ => ?_) (.inr hyl))
  obtain ⟨f0, f1, f2, f3, f4, f5⟩ := f
  have haC : C ≠ a := by
    rcases ha with z | z
    · rw [z]; exact f1
    · exact fun e => f4 y a z e.symm
  refine ⟨m, hn.sameBut sb haC, fun h3 sb3 => ?_⟩
  exact ⟨_, H', I2.turned (t' := s2.toks) (fun b o hb e => (sb3.2 b hb).trans e) f0 f1 f3 f4 f5, q⟩
theorem sw_trueD {kx vx : Expr} {gs : List Comprehension} {scope : Scope} {pos py : Pos} {y : Str} {l : Nat} {env : Env} (hk : env.scope.kind = .function) (hy : env.scope.names.lookup y = some .local) (hl : (py.line == pos.line) = true)
    (ha : (scope.names.any fun (n, k) => n == y && (k == .local || k == .cell)) = false) : swapsWith (.DictComp kx vx gs scope pos) (some (.Name y py)) l env = pure true := by
  have ky : env.kindOf y = some .local := hy
  have hb : env.blockKind = .function := by unfold Env.blockKind; rw [hk]; rfl
  unfold swapsWith
  simp only [hb, ky, ha, Expr.pos, hl]
  rfl
end
end L2

namespace My
open PySem PySem.Spec PyProof.Rows L2
/-! ### trees as the law keeps them -/
def Keys (ns : List Str) (d : Dic) : Prop := ∀ z, z ∈ ns → (getD d z).isSome = true
theorem getD_set (d : Dic) (z y : Str) (v : V) : getD (setD d z v) y = if y = z then some v else getD d y := by
  rw [← val_kd, ← put_kd, valV_put, val_kd]
  by_cases e : y = z
  · subst e
    rw [if_pos rfl, if_pos rfl]
  · rw [if_neg e, if_neg fun h => e (by injection h)]
theorem Keys.set {ns : List Str} {d : Dic} {z : Str} {v : V} (h : Keys ns d) : Keys (ns ++ [z]) (setD d z v) := fun y hy => by
  rw [getD_set]
  by_cases e : y = z
  · rw [if_pos e]; rfl
  · rw [if_neg e]
    rcases List.mem_append.mp hy with hy | hy
    · exact h y hy
    · exact absurd (List.mem_singleton.mp hy) e
def grN (d : Dic) (node : Str) : Nat → V → V
  | 0, h => h
  | n + 1, h => grN d node n (if h = .non ∨ h = .str node then h else stepV d h)
/-- whether a node would lie in itself -/
def grB (d : Dic) (node f : Str) : Bool := decide (grN d node (d.length + 1) (.str f) = .str node)
def abN (d : Dic) : Nat → V → List Str
  | 0, _ => []
  | n + 1, .str z => z :: abN d n ((getD d z).getD .non)
  | _ + 1, _ => []
/-- the folders above a node -/
def abv (d : Dic) (a : Str) : List Str := abN d d.length ((getD d a).getD .non)
theorem abN_fo {fo : List Str} {d : Dic} (h : DicOk fo d) : ∀ n v, Opt fo v → ∀ z, z ∈ abN d n v → z ∈ fo
  | 0, _, _, z, hz => by cases hz
  | n + 1, v, hv, z, hz => by
    rcases hv with rfl | ⟨y, hy, rfl⟩
    · cases hz
    · rcases List.mem_cons.mp hz with rfl | hz
      · exact hy
      · exact abN_fo h n _ (getD_opt h y) z hz
theorem abN_len (d : Dic) : ∀ n v, (abN d n v).length ≤ n
  | 0, _ => Nat.le_refl _
  | n + 1, v => by
    cases v with
    | str z => exact Nat.succ_le_succ (abN_len d n _)
    | _ => exact Nat.zero_le _
def liesA (d : Dic) (x y : Str) : Bool := decide (y ∈ abv d x)
theorem liesA_no {fo : List Str} {d : Dic} (h : DicOk fo d) (x y : Str) (hy : y ∉ fo) : liesA d x y = false := decide_eq_false fun m => hy (abN_fo h _ _ (getD_opt h x) y m)
/-- a tree of the nodes ns -/
structure Ups (fo ns : List Str) (d : Dic) : Prop where
  ok : DicOk fo d
  keys : Keys ns d
  len : d.length ≤ ns.length
  sub : ∀ z, z ∈ fo → z ∈ ns
theorem rd_ext {H H' : Hp} {p : Addr} {u : HO} (h : Rd H p u) (e : Ext H H') : Rd H' p u := h.elim (fun h => .inl (e _ _ h)) fun ⟨o, h⟩ => .inr ⟨o, e _ _ h⟩
def spGoes (K : PySem.W.Frag) : Sp := fun vs H Q _ => ∃ (p : Addr) (d : Dic) (fo : List Str) (node f : Str), vs = [.ref p, .str node, .str f] ∧ H p = some (.dK (kd d)) ∧ DicOk fo d ∧ f ∈ fo ∧ d.length ≤ 100 ∧ Q (.bl (grB d node f)) H
def spAbove (K : PySem.W.Frag) : Sp := fun vs H Q _ => ∃ (p : Addr) (d : Dic) (fo ns : List Str) (node : Str), vs = [.ref p, .str node] ∧ Rd H p (.dK (kd d)) ∧ Ups fo ns d ∧ ns.length ≤ 100 ∧ node ∈ ns ∧
  ∀ l H', Ext H H' → H l = none → H' l = some (.lst ((abv d node).map V.str)) → Q (.ref l) H'
abbrev nm__law_goes_round : List Str := ["_law_ups", "_law_node", "_law_folder", "_law_here", "_law_turn"]
theorem sc__law_goes_round : FnScope nm__law_goes_round ["_law_ups", "_law_node", "_law_folder"] (defScope s__law_goes_round) := ⟨rfl, rfl, rfl, by decide +kernel, rfl, by decide +kernel, by decide +kernel⟩
abbrev nm__law_above : List Str := ["_law_ups", "_law_node", "_law_found", "_law_here", "_law_turn"]
theorem sc__law_above : FnScope nm__law_above ["_law_ups", "_law_node"] (defScope s__law_above) := ⟨rfl, rfl, rfl, by decide +kernel, rfl, by decide +kernel, by decide +kernel⟩
section
variable {P : Program} {w : World} {K : PySem.W.Frag} {mg : Str → Option Value} {base : Heap} {f C CB : Addr} {fd : FuncData}
theorem ok_goes (Fn : FnP K "_law_goes_round" s__law_goes_round f fd) (gB_range : mg "range" = none) (gB_len : mg "len" = none) : FnOk P w K mg base CX0 1 f fd ["_law_ups", "_law_node", "_law_folder"] (spGoes K) := by
  refine Fn.ok sc__law_goes_round (fun vs H Q E h => ?_) (fun cdv A outer s H vs Q E hr h => ⟨_, PSs.nox
    (pss_cons (ps_set (i := 3) sc__law_goes_round.nd rfl (Or.inl rfl) (pv 2))
      (pss_cons (ps_for PassesOwn.never rfl (pi_range1 (by rfl) gB_range (pa_cons (pe_op op_add (pe_callB call_lenD (by rfl) gB_len boot_len (pa_cons (pv 0) pa_nil)) pe_int) pa_nil)) (pg_name (i := 4) sc__law_goes_round.nd rfl (Or.inl rfl))
      (pss_one (ps_if (PW.pt (pw_and (pt_cmpR op_notN (pv 3) pe_non (nomark _)) (pw_and1 (pt_cmpR op_ne (pv 3) (pv 1) (nomark _))))) (pss_one (ps_set (i := 3) sc__law_goes_round.nd rfl (Or.inl rfl) (pe_dget1 (hu_of hr) (pv 0) (pv 3) ⟨rfl, rfl, rfl, rfl⟩))) pss_nil)))
      (pss_one (ps_ret (pe_cmpR op_eq (pv 3) (pv 1) (nomark _)))))), ?_⟩)
  · obtain ⟨p, d, fo, node, f, rfl, _⟩ := h
    rfl
  · obtain ⟨p, d, fo, node, fs, rfl, hp, ok, hf, len, q⟩ := h
    have e1 : (((kd d).length : Nat) : Int) + 1 = ((d.length + 1 : Nat) : Int) := by rw [kd_len]; omega
    refine ⟨_, rfl, _, rfl, p, kd d, rfl, hp, _, _, rfl, rfl, _, rfl, by omega, by rw [e1]; omega, ?_⟩
    rw [e1]
    refine for_range (lo := 0) (n := d.length + 1) (fun k σ H' => H' = H ∧ ∃ v h, σ = [some (.ref p), some (.str node), some (.str fs), some h, v] ∧ Opt fo h ∧ grN d node (d.length + 1 - k) h = grN d node (d.length + 1) (.str fs)) ?_ ?_ ?_
    · exact ⟨rfl, none, _, rfl, .inr ⟨fs, hf, rfl⟩, rfl⟩
    · rintro k σ H1 hk ⟨rfl, v, h, rfl, oh, e⟩
      have e9 : d.length + 1 - k = (d.length + 1 - (k + 1)) + 1 := by omega
      rw [e9] at e
      unfold grN at e
      refine ⟨_, rfl, rfl, _, rfl, ?_⟩
      rcases oh with rfl | ⟨z, hz, rfl⟩
      · rw [if_pos (.inl rfl)] at e
        exact ⟨rfl, _, _, rfl, .inl rfl, e⟩
      · refine ⟨_, rfl, _, rfl, rfl, _, rfl, ?_⟩
        refine ite2 (fun c => ?_) fun c => ?_
        · have c' : ¬ (V.str z = .non ∨ V.str z = .str node) := fun h => by
            rcases h with h | h
            · cases h
            · rw [h] at c
              simp at c
          rw [if_neg c'] at e
          refine ⟨_, rfl, p, rfl, .inl ⟨_, .inl hp⟩, _, rfl, _, DGet.k (k := Sum.inr z) hp, ?_⟩
          rw [val_kd]
          exact ⟨rfl, _, _, rfl, getD_opt ok z, e⟩
        · have c' : V.str z = .str node := by simpa using c
          rw [if_pos (.inr c')] at e
          exact ⟨rfl, _, _, rfl, .inr ⟨z, hz, rfl⟩, e⟩
    · rintro σ H1 ⟨rfl, v, h, rfl, oh, e⟩
      rw [Nat.sub_self] at e
      have e : h = grN d node (d.length + 1) (.str fs) := e
      unfold grB at q
      rw [← e] at q
      refine ⟨_, rfl, _, rfl, ?_, q⟩
      rcases oh with rfl | ⟨z, _, rfl⟩ <;> rfl
theorem ok_above (Fn : FnP K "_law_above" s__law_above f fd) (gB_range : mg "range" = none) (gB_len : mg "len" = none) : FnOk P w K mg base CX0 1 f fd ["_law_ups", "_law_node"] (spAbove K) := by
  refine Fn.ok sc__law_above (fun vs H Q E h => ?_) (fun cdv A outer s H vs Q E hr h => ⟨_, PSs.nox
    (pss_cons (ps_set (i := 2) sc__law_above.nd rfl (Or.inl rfl) (pe_lst pa_nil))
      (pss_cons (ps_set (i := 3) sc__law_above.nd rfl (Or.inl rfl) (pe_dget (hu_of hr) (pv 0) (pv 1) (fun _ _ => rfl)))
      (pss_cons (ps_for PassesOwn.never rfl (pi_range1 (by rfl) gB_range (pa_cons (pe_callB call_lenDR (by rfl) gB_len boot_len (pa_cons (pv 0) pa_nil)) pa_nil)) (pg_name (i := 4) sc__law_above.nd rfl (Or.inl rfl))
      (pss_one (ps_if (pt_cmpR op_notN (pv 3) pe_non (nomark _)) (pss_cons (ps_expr (pe_bm PySem.F.plainAttrs_list PySem.F.slot_list_append PySem.F.type_list_append mt_append (pv 2) (pa_cons (pv 3) pa_nil)))
      (pss_one (ps_set (i := 3) sc__law_above.nd rfl (Or.inl rfl) (pe_dget (hu_of hr) (pv 0) (pv 3) (fun _ _ => rfl))))) pss_nil)))
      (pss_one (ps_ret (pv 2)))))), ?_⟩)
  · obtain ⟨p, d, fo, ns, node, rfl, _⟩ := h
    rfl
  · obtain ⟨p, d, fo, ns, node, rfl, hp, up, len, hn, q⟩ := h
    refine ⟨Nat.zero_le _, fun l hl => ?_⟩
    obtain ⟨H1, hH1⟩ : ∃ H1, H1 = upd H l (.lst []) := ⟨_, rfl⟩
    rw [← hH1]
    have x1 : Ext H H1 := by
      rw [hH1]
      exact Ext.upd hl
    have l1 : H1 l = some (.lst []) := by rw [hH1, upd_same]
    have hp1 := rd_ext hp x1
    have get : ∀ z, z ∈ ns → getD d z = some ((getD d z).getD .non) := fun z hz => by
      have := up.keys z hz
      cases e : getD d z with
      | none => rw [e] at this; cases this
      | some v => rfl
    have dl := up.len
    refine ⟨_, rfl, _, rfl, p, _, rfl, .inl ⟨kd d, Sum.inr node, hp1, rfl, (by rw [val_kd]; exact (get node hn).symm)⟩, ?_⟩
    refine ⟨_, rfl, p, kd d, rfl, hp1, _, rfl, by omega, by rw [kd_len]; omega, ?_⟩
    have e1 : (((kd d).length : Nat) : Int).toNat = d.length := by rw [kd_len]; rfl
    rw [e1]
    refine for_range (lo := 0) (n := d.length) (fun k σ H' => Ext H H' ∧ ∃ acc v h, σ = [some (.ref p), some (.str node), some (.ref l), some h, v] ∧ Opt fo h ∧ H' l = some (.lst (acc.map V.str)) ∧ acc.length ≤ k ∧ acc ++ abN d (d.length - k) h = abv d node) ?_ ?_ ?_
    · exact ⟨x1, [], none, _, rfl, getD_opt up.ok node, l1, Nat.zero_le _, rfl⟩
    · rintro k σ H2 hk ⟨x2, acc, v, h, rfl, oh, l2, len2, e⟩
      have e9 : d.length - k = (d.length - (k + 1)) + 1 := by omega
      rw [e9] at e
      refine ⟨_, rfl, rfl, _, rfl, ?_⟩
      rcases oh with rfl | ⟨z, hz, rfl⟩
      · refine ⟨x2, acc, _, _, rfl, .inl rfl, l2, by omega, ?_⟩
        have : ∀ n, abN d n .non = [] := fun n => by cases n <;> rfl
        rw [this] at e ⊢
        exact e
      · refine ⟨_, rfl, .inl ⟨rfl, _, .inl (.inl l2)⟩, _, rfl, l, _, _, rfl, rfl, l2, by rw [List.length_map, sizeLine_eq]; omega, ?_⟩
        have x3 := x2.over (o := .lst (acc.map V.str ++ [.str z])) hl
        refine ⟨_, rfl, _, rfl, p, _, rfl, .inl ⟨kd d, Sum.inr z, rd_ext hp x3, rfl, (by rw [val_kd]; exact (get z (up.sub z hz)).symm)⟩, ?_⟩
        refine ⟨x3, acc ++ [z], _, _, rfl, getD_opt up.ok z, by rw [upd_same, List.map_append]; rfl, by rw [List.length_append]; exact Nat.succ_le_succ len2, ?_⟩
        rw [List.append_assoc]
        exact e
    · rintro σ H2 ⟨x2, acc, v, h, rfl, oh, l2, len2, e⟩
      rw [Nat.sub_self] at e
      have e : acc ++ [] = abv d node := e
      rw [List.append_nil] at e
      rw [e] at l2
      exact ⟨_, rfl, q l H2 x2 hl l2⟩
end
end My

namespace My
open PySem PySem.Spec PyProof.Rows L2
/-! ### ways up -/
def itV (d : Dic) : Nat → V → V
  | 0, v => v
  | n + 1, v => itV d n (stepV d v)
theorem it_non (d : Dic) : ∀ n, itV d n .non = .non
  | 0 => rfl
  | n + 1 => it_non d n
theorem it_add (d : Dic) : ∀ m n v, itV d (m + n) v = itV d n (itV d m v)
  | 0, n, v => by rw [Nat.zero_add]; rfl
  | m + 1, n, v => by
    rw [Nat.succ_add]
    exact it_add d m n (stepV d v)
theorem it_succ (d : Dic) (n : Nat) (v : V) : itV d (n + 1) v = stepV d (itV d n v) := it_add d n 1 v
theorem it_opt {fo : List Str} {d : Dic} (ok : DicOk fo d) : ∀ n v, Opt fo v → Opt fo (itV d n v)
  | 0, _, h => h
  | n + 1, v, h => it_opt ok n _ (step_opt ok h)
theorem it_stay {d : Dic} {n m : Nat} {v : V} (h : itV d n v = .non) (hm : n ≤ m) : itV d m v = .non := by
  obtain ⟨k, rfl⟩ := Nat.le.dest hm
  rw [it_add, h, it_non]
theorem step_str {fo : List Str} {d : Dic} (ok : DicOk fo d) (z : Str) : Opt fo (stepV d (.str z)) := getD_opt ok z
def strOf : V → Option Str
  | .str z => some z
  | _ => none
theorem ab_get (d : Dic) : ∀ n v i, (abN d n v)[i]? = if i < n then strOf (itV d i v) else none
  | 0, v, i => by
    rw [if_neg (Nat.not_lt_zero i)]
    rfl
  | n + 1, .str z, 0 => rfl
  | n + 1, .str z, i + 1 => by
    have h := ab_get d n ((getD d z).getD .non) i
    show (abN d n ((getD d z).getD .non))[i]? = _
    rw [h]
    by_cases c : i < n
    · rw [if_pos c, if_pos (Nat.succ_lt_succ c)]
      rfl
    · rw [if_neg c, if_neg fun z => c (Nat.lt_of_succ_lt_succ z)]
  | n + 1, .non, i => by
    show (none : Option Str) = _
    rw [it_non]
    split <;> rfl
  | n + 1, .bl b, i => by
    have : ∀ i, itV d i (.bl b) = .bl b := fun i => by induction i with | zero => rfl | succ i ih => exact ih
    rw [this]
    show (none : Option Str) = _
    split <;> rfl
  | n + 1, .int b, i => by
    have : ∀ i, itV d i (.int b) = .int b := fun i => by induction i with | zero => rfl | succ i ih => exact ih
    rw [this]
    show (none : Option Str) = _
    split <;> rfl
  | n + 1, .byt b, i => by
    have : ∀ i, itV d i (.byt b) = .byt b := fun i => by induction i with | zero => rfl | succ i ih => exact ih
    rw [this]
    show (none : Option Str) = _
    split <;> rfl
  | n + 1, .flt b, i => by
    have : ∀ i, itV d i (.flt b) = .flt b := fun i => by induction i with | zero => rfl | succ i ih => exact ih
    rw [this]
    show (none : Option Str) = _
    split <;> rfl
  | n + 1, .ref b, i => by
    have : ∀ i, itV d i (.ref b) = .ref b := fun i => by induction i with | zero => rfl | succ i ih => exact ih
    rw [this]
    show (none : Option Str) = _
    split <;> rfl
  | n + 1, .ty b, i => by
    have : ∀ i, itV d i (.ty b) = .ty b := fun i => by induction i with | zero => rfl | succ i ih => exact ih
    rw [this]
    show (none : Option Str) = _
    split <;> rfl
theorem it_other {d : Dic} {v : V} (h : ∀ z, v ≠ .str z) : ∀ n, itV d n v = v
  | 0 => rfl
  | n + 1 => by
    show itV d n (stepV d v) = v
    have e : stepV d v = v := by cases v <;> first | rfl | exact absurd rfl (h _)
    rw [e, it_other h n]
theorem ab_snoc {d : Dic} : ∀ n v y, itV d n v = .str y → abN d (n + 1) v = abN d n v ++ [y]
  | 0, v, y, h => by
    have h : v = .str y := h
    subst h
    rfl
  | n + 1, .str x, y, h => by
    show x :: abN d (n + 1) (stepV d (.str x)) = x :: (abN d n (stepV d (.str x)) ++ [y])
    rw [ab_snoc n _ y h]
  | n + 1, .non, y, h | n + 1, .bl _, y, h | n + 1, .int _, y, h | n + 1, .byt _, y, h | n + 1, .flt _, y, h | n + 1, .ref _, y, h | n + 1, .ty _, y, h => by
    rw [it_other (by intro z e; cases e)] at h
    cases h
/-- each way ends -/
def Acy (d : Dic) : Prop := ∀ z : Str, ∃ n, itV d n (.str z) = .non
def Cyc (d : Dic) (c : Str) : Prop := ∃ n, 0 < n ∧ itV d n (.str c) = .str c
theorem cyc_mul {d : Dic} {c : Str} {n : Nat} (h : itV d n (.str c) = .str c) : ∀ k, itV d (n * k) (.str c) = .str c
  | 0 => rfl
  | k + 1 => by
    rw [Nat.mul_succ, it_add, cyc_mul h k, h]
theorem acy_nocyc {d : Dic} (h : Acy d) (c : Str) : ¬ Cyc d c := fun ⟨n, hn, e⟩ => by
  obtain ⟨m, hm⟩ := h c
  have e1 := cyc_mul e m
  have le : m ≤ n * m := Nat.le_mul_of_pos_left m hn
  rw [it_stay hm le] at e1
  cases e1
/-- no two stations of a way are alike -/
theorem way_ne {fo : List Str} {d : Dic} (ok : DicOk fo d) {z : Str} {i j : Nat} (hij : i < j) (nc : ∀ c, ¬ Cyc d c) (e : itV d i (.str z) = itV d j (.str z)) : itV d i (.str z) = .non := by
  have o : itV d i (.str z) = .non ∨ ∃ y, itV d i (.str z) = .str y := by
    cases i with
    | zero => exact .inr ⟨z, rfl⟩
    | succ i =>
      rcases it_opt ok i _ (step_str ok z) with h | ⟨y, _, h⟩
      · exact .inl h
      · exact .inr ⟨y, h⟩
  rcases o with h | ⟨y, h⟩
  · exact h
  · exfalso
    refine nc y ⟨j - i, by omega, ?_⟩
    have e2 := it_add d i (j - i) (.str z)
    rw [show i + (j - i) = j by omega, ← e, h] at e2
    exact e2.symm
/-- a way that has not ended has as many unlike stations -/
theorem way_nodup {fo : List Str} {d : Dic} (ok : DicOk fo d) (nc : ∀ c, ¬ Cyc d c) (n : Nat) (z : Str) : (abN d n (.str z)).Nodup := by
  refine List.pairwise_iff_getElem.mpr fun i j hi hj hij e' => ?_
  have e : (abN d n (.str z))[i]? = (abN d n (.str z))[j]? := by rw [List.getElem?_eq_getElem hi, List.getElem?_eq_getElem hj, e']
  have hl := abN_len d n (.str z)
  have hj' : j < n := by omega
  have gi := ab_get d n (.str z) i
  have gj := ab_get d n (.str z) j
  rw [if_pos (by omega)] at gi
  rw [if_pos hj'] at gj
  obtain ⟨x, hx⟩ : ∃ x, (abN d n (.str z))[j]? = some x := ⟨_, List.getElem?_eq_getElem hj⟩
  rw [hx] at gj
  rw [e, hx] at gi
  have s1 : itV d j (.str z) = .str x := by
    cases h : itV d j (.str z) <;> rw [h] at gj <;> first | cases gj | skip
    rfl
  have s2 : itV d i (.str z) = .str x := by
    cases h : itV d i (.str z) <;> rw [h] at gi <;> first | cases gi | skip
    rfl
  have := way_ne ok hij nc (s2.trans s1.symm)
  rw [s2] at this
  cases this
theorem getD_key {d : Dic} {z : Str} {v : V} (h : getD d z = some v) : z ∈ d.map (·.1) := by
  unfold getD at h
  cases e : d.find? fun p => decide (p.1 = z) with
  | none => rw [e] at h; cases h
  | some p =>
    have h1 := List.find?_some e
    have h2 := List.mem_of_find?_eq_some e
    rw [← of_decide_eq_true h1]
    exact List.mem_map.mpr ⟨p, h2, rfl⟩
/-- a way that is longer than there are keys has ended -/
theorem way_end {fo : List Str} {d : Dic} (ok : DicOk fo d) (nc : ∀ c, ¬ Cyc d c) (z : Str) : itV d (d.length + 1) (.str z) = .non := by
  have o : ∀ i, itV d (i + 1) (.str z) = .non ∨ ∃ y, y ∈ fo ∧ itV d (i + 1) (.str z) = .str y := fun i => it_opt ok i _ (step_str ok z)
  rcases o d.length with h | ⟨y, _, h⟩
  · exact h
  · exfalso
    have all : ∀ i, i ≤ d.length → ∃ x, itV d i (.str z) = .str x ∧ x ∈ d.map (·.1) := fun i hi => by
      have ne : itV d (i + 1) (.str z) ≠ .non := fun e => by
        have := it_stay e (show i + 1 ≤ d.length + 1 by omega)
        rw [h] at this
        cases this
      have ox : ∃ x, itV d i (.str z) = .str x := by
        cases i with
        | zero => exact ⟨z, rfl⟩
        | succ i =>
          rcases o i with h' | ⟨x, _, h'⟩
          · rw [it_succ, h'] at ne
            exact absurd rfl ne
          · exact ⟨x, h'⟩
      obtain ⟨x, hx⟩ := ox
      refine ⟨x, hx, ?_⟩
      rw [it_succ, hx] at ne
      cases e : getD d x with
      | none =>
        have : stepV d (.str x) = .non := by show (getD d x).getD .non = .non; rw [e]; rfl
        exact absurd this ne
      | some v => exact getD_key e
    have len : (abN d (d.length + 1) (.str z)).length = d.length + 1 := by
      rcases Nat.lt_or_ge (abN d (d.length + 1) (.str z)).length (d.length + 1) with lt | ge
      · exfalso
        have g := ab_get d (d.length + 1) (.str z) (abN d (d.length + 1) (.str z)).length
        rw [if_pos lt, List.getElem?_eq_none (Nat.le_refl _)] at g
        obtain ⟨x, hx, _⟩ := all _ (Nat.le_of_lt_succ lt)
        rw [hx] at g
        cases g
      · exact Nat.le_antisymm (abN_len d _ _) ge
    have sub : abN d (d.length + 1) (.str z) ⊆ d.map (·.1) := fun x hx => by
      obtain ⟨i, hi⟩ := List.mem_iff_getElem?.mp hx
      have hil := (List.getElem?_eq_some_iff.mp hi).1
      have g := ab_get d (d.length + 1) (.str z) i
      rw [if_pos (by omega), hi] at g
      obtain ⟨y, hy, hm⟩ := all i (by omega)
      rw [hy] at g
      cases g
      exact hm
    have := (way_nodup ok nc (d.length + 1) z).length_le_of_subset sub
    rw [len, List.length_map] at this
    omega
theorem acy_of {fo : List Str} {d : Dic} (ok : DicOk fo d) (nc : ∀ c, ¬ Cyc d c) : Acy d := fun z => ⟨_, way_end ok nc z⟩
theorem acy_end {fo : List Str} {d : Dic} (ok : DicOk fo d) (h : Acy d) (z : Str) : itV d (d.length + 1) (.str z) = .non := way_end ok (acy_nocyc h) z
end My

namespace My
open PySem PySem.Spec PyProof.Rows L2
/-! ### rings -/
structure RingOk (fo : List Str) (d : Dic) (way : List Str) : Prop where
  ne : way ≠ []
  nd : way.Nodup
  sub : ∀ z, z ∈ way → z ∈ fo
  up : way.map (fun z => (getD d z).getD .non) = (way.drop 1 ++ way.take 1).map V.str
  cyc : ∃ c, Cyc d c
theorem ring_ok {fo : List Str} {d : Dic} {c : Str} {n : Nat} (hl : (abN d (n + 1) (.str c)).length = n + 1) (nd : (abN d (n + 1) (.str c)).Nodup) (sub : ∀ z, z ∈ abN d (n + 1) (.str c) → z ∈ fo) (h : itV d (n + 1) (.str c) = .str c) : RingOk fo d (abN d (n + 1) (.str c)) := by
  refine ⟨(fun e => by rw [e] at hl; cases hl), nd, sub, ?_, ⟨c, n + 1, Nat.succ_pos n, h⟩⟩
  obtain ⟨way, hway⟩ : ∃ way, way = abN d (n + 1) (.str c) := ⟨_, rfl⟩
  rw [← hway] at hl ⊢
  have at_ : ∀ i, i < n + 1 → ∃ z, way[i]? = some z ∧ itV d i (.str c) = .str z := fun i hi => by
    have g := ab_get d (n + 1) (.str c) i
    rw [if_pos hi, ← hway] at g
    obtain ⟨z, hz⟩ : ∃ z, way[i]? = some z := ⟨_, List.getElem?_eq_getElem (by omega)⟩
    rw [hz] at g
    refine ⟨z, hz, ?_⟩
    cases e : itV d i (.str c) <;> rw [e] at g <;> first | cases g | skip
    rfl
  refine List.ext_getElem? fun i => ?_
  rw [List.getElem?_map, List.getElem?_map]
  by_cases hi : i < n + 1
  · obtain ⟨z, hz, ez⟩ := at_ i hi
    rw [hz]
    have up : (getD d z).getD .non = itV d (i + 1) (.str c) := by rw [it_succ, ez]; rfl
    show some ((getD d z).getD .non) = _
    rw [up]
    by_cases hi2 : i + 1 < n + 1
    · obtain ⟨y, hy, ey⟩ := at_ (i + 1) hi2
      rw [List.getElem?_append_left (by rw [List.length_drop]; omega), List.getElem?_drop, Nat.add_comm 1 i, hy, ey]
      rfl
    · have e : i = n := by omega
      subst e
      obtain ⟨y, hy, ey⟩ := at_ 0 (Nat.succ_pos _)
      have ey : V.str c = .str y := ey
      rw [List.getElem?_append_right (by rw [List.length_drop]; omega), List.length_drop, hl, Nat.add_sub_cancel, Nat.sub_self, List.getElem?_take_of_lt Nat.one_pos, hy, h, ey]
      rfl
  · rw [List.getElem?_eq_none (by omega), List.getElem?_eq_none (by rw [List.length_append, List.length_drop, List.length_take]; omega)]
    rfl
/-! ### a node's place changed -/
theorem step_set {d : Dic} {z : Str} {v : V} : ∀ u, u ≠ .str z → stepV (setD d z v) u = stepV d u
  | .str y, h => by
    show (getD (setD d z v) y).getD .non = (getD d y).getD .non
    rw [getD_set, if_neg fun e => h (by rw [e])]
  | .non, _ | .bl _, _ | .int _, _ | .byt _, _ | .flt _, _ | .ref _, _ | .ty _, _ => rfl
theorem step_new {d : Dic} {z : Str} {v : V} : stepV (setD d z v) (.str z) = v := by
  show (getD (setD d z v) z).getD .non = v
  rw [getD_set, if_pos rfl]
  rfl
theorem it_set {d : Dic} {z : Str} {v : V} : ∀ n u, (∀ i, i ≤ n → itV d i u ≠ .str z) → itV (setD d z v) n u = itV d n u
  | 0, _, _ => rfl
  | n + 1, u, h => by
    show itV (setD d z v) n (stepV (setD d z v) u) = itV d n (stepV d u)
    rw [step_set u (h 0 (Nat.zero_le _))]
    exact it_set n _ fun i hi => h (i + 1) (Nat.succ_le_succ hi)
theorem ends_set {d : Dic} {z : Str} {v : V} (hz : ∃ n, itV (setD d z v) n (.str z) = .non) : ∀ n u, itV d n u = .non → ∃ m, itV (setD d z v) m u = .non
  | 0, u, h => ⟨0, h⟩
  | n + 1, u, h => by
    by_cases c : u = .str z
    · subst c
      exact hz
    · obtain ⟨m, hm⟩ := ends_set hz n (stepV d u) h
      refine ⟨m + 1, ?_⟩
      show itV (setD d z v) m (stepV (setD d z v) u) = .non
      rw [step_set u c]
      exact hm
theorem acy_setN {d : Dic} {z : Str} (h : Acy d) : Acy (setD d z .non) := fun y => by
  obtain ⟨n, hn⟩ := h y
  refine ends_set ⟨1, ?_⟩ n _ hn
  show stepV (setD d z .non) (.str z) = .non
  exact step_new
theorem acy_setS {d : Dic} {z f : Str} (h : Acy d) (hf : ∀ n, itV d n (.str f) ≠ .str z) : Acy (setD d z (.str f)) := fun y => by
  obtain ⟨n, hn⟩ := h y
  obtain ⟨m, hm⟩ := h f
  refine ends_set ⟨m + 1, ?_⟩ n _ hn
  show itV (setD d z (.str f)) m (stepV (setD d z (.str f)) (.str z)) = .non
  rw [step_new, it_set m _ fun i _ => hf i]
  exact hm
theorem hits_set {d : Dic} {z : Str} {v : V} : ∀ n u, itV d n u = .str z → ∃ m, itV (setD d z v) m u = .str z
  | 0, u, h => ⟨0, h⟩
  | n + 1, u, h => by
    by_cases c : u = .str z
    · exact ⟨0, c⟩
    · obtain ⟨m, hm⟩ := hits_set n (stepV d u) h
      refine ⟨m + 1, ?_⟩
      show itV (setD d z v) m (stepV (setD d z v) u) = .str z
      rw [step_set u c]
      exact hm
theorem cyc_set {d : Dic} {z f : Str} {n : Nat} (h : itV d n (.str f) = .str z) : Cyc (setD d z (.str f)) z := by
  obtain ⟨m, hm⟩ := hits_set (v := .str f) n _ h
  refine ⟨m + 1, Nat.succ_pos m, ?_⟩
  show itV (setD d z (.str f)) m (stepV (setD d z (.str f)) (.str z)) = .str z
  rw [step_new]
  exact hm
/-- whether a node stands on a way -/
theorem hit_abv {fo : List Str} {d : Dic} (ok : DicOk fo d) (h : Acy d) {f z : Str} : (∃ n, itV d n (.str f) = .str z) ↔ f = z ∨ z ∈ abv d f := by
  constructor
  · rintro ⟨n, hn⟩
    cases n with
    | zero =>
      have e : V.str f = .str z := hn
      exact .inl (by injection e)
    | succ i =>
      refine .inr ?_
      have lt : i < d.length := by
        rcases Nat.lt_or_ge i d.length with l | g
        · exact l
        · have := it_stay (acy_end ok h f) (show d.length + 1 ≤ i + 1 by omega)
          rw [hn] at this
          cases this
      have g := ab_get d d.length ((getD d f).getD .non) i
      have hn : itV d i ((getD d f).getD .non) = .str z := hn
      rw [if_pos lt, hn] at g
      exact List.mem_of_getElem? g
  · rintro (rfl | hz)
    · exact ⟨0, rfl⟩
    · obtain ⟨i, hi⟩ := List.mem_iff_getElem?.mp hz
      have g := ab_get d d.length ((getD d f).getD .non) i
      have hi : (abN d d.length ((getD d f).getD .non))[i]? = some z := hi
      rw [hi] at g
      refine ⟨i + 1, ?_⟩
      show itV d i ((getD d f).getD .non) = .str z
      split at g
      · cases e : itV d i ((getD d f).getD .non) <;> rw [e] at g <;> first | cases g | skip
        rfl
      · cases g
theorem gr_stay (d : Dic) (z : Str) : ∀ n, grN d z n (.str z) = .str z
  | 0 => rfl
  | n + 1 => by
    unfold grN
    rw [if_pos (.inr rfl)]
    exact gr_stay d z n
theorem gr_hit {d : Dic} {z : Str} : ∀ n u i, i ≤ n → itV d i u = .str z → grN d z n u = .str z
  | 0, u, i, hi, h => by
    have : i = 0 := by omega
    subst this
    exact h
  | n + 1, u, i, hi, h => by
    unfold grN
    by_cases c : u = .non ∨ u = .str z
    · rw [if_pos c]
      rcases c with rfl | rfl
      · rw [it_non] at h
        cases h
      · exact gr_stay d z n
    · rw [if_neg c]
      cases i with
      | zero => exact absurd (.inr h) c
      | succ i => exact gr_hit n _ i (Nat.le_of_succ_le_succ hi) h
theorem gr_no {fo : List Str} {d : Dic} (ok : DicOk fo d) (h : Acy d) {f z : Str} (g : grB d z f = false) : ∀ n, itV d n (.str f) ≠ .str z := fun n hn => by
  have le : n ≤ d.length + 1 := by
    rcases Nat.lt_or_ge (d.length + 1) n with l | l
    · have := it_stay (acy_end ok h f) (Nat.le_of_lt l)
      rw [hn] at this
      cases this
    · exact l
  have e := gr_hit (d.length + 1) (.str f) n le hn
  unfold grB at g
  rw [e, decide_eq_true rfl] at g
  cases g
/-! ### dicts with the same keys -/
theorem getD_cons (z : Str) (p : Str × V) (d : Dic) : getD (p :: d) z = if p.1 = z then some p.2 else getD d z := by
  unfold getD
  rw [List.find?_cons]
  by_cases c : p.1 = z
  · rw [decide_eq_true c, if_pos c]
    rfl
  · rw [decide_eq_false c, if_neg c]
theorem dic_ext : ∀ {d e : Dic}, d.map (·.1) = e.map (·.1) → (d.map (·.1)).Nodup → (∀ z, z ∈ d.map (·.1) → getD d z = getD e z) → d = e
  | [], [], _, _, _ => rfl
  | p :: d, q :: e, hk, nd, h => by
    rw [List.map_cons, List.map_cons] at hk
    injection hk with h1 h2
    rw [List.map_cons] at nd h
    obtain ⟨n1, n2⟩ := List.nodup_cons.mp nd
    have h0 := h p.1 List.mem_cons_self
    rw [getD_cons, getD_cons, if_pos rfl, if_pos h1.symm] at h0
    have ep : p = q := Prod.ext h1 (by injection h0)
    rw [ep, dic_ext h2 n2 fun z hz => ?_]
    have hz' := h z (List.mem_cons_of_mem _ hz)
    rw [getD_cons, getD_cons, if_neg (fun e : p.1 = z => n1 (by rw [e]; exact hz)), if_neg (fun e : q.1 = z => n1 (by rw [h1, e]; exact hz))] at hz'
    exact hz'
  | [], _ :: _, hk, _, _ => by cases hk
  | _ :: _, [], hk, _, _ => by cases hk
theorem getD_some {d : Dic} {z : Str} (h : z ∈ d.map (·.1)) : ∃ v, getD d z = some v := by
  induction d with
  | nil => cases h
  | cons p d ih =>
    rw [getD_cons]
    by_cases c : p.1 = z
    · exact ⟨_, if_pos c⟩
    · rw [if_neg c]
      rcases List.mem_cons.mp h with e | h
      · exact absurd e.symm c
      · exact ih h
/-- what lies over each node -/
def lyD (ns : List Str) (o : Dic) : Dic := ns.map fun z => (z, (getD o z).getD .non)
theorem ly_keys (ns : List Str) (o : Dic) : (lyD ns o).map (·.1) = ns := by
  unfold lyD
  rw [List.map_map]
  conv => rhs; rw [← List.map_id ns]
  rfl
theorem ly_get {o : Dic} {z : Str} : ∀ {ns : List Str}, z ∈ ns → getD (lyD ns o) z = some ((getD o z).getD .non)
  | y :: ns, h => by
    show getD ((y, (getD o y).getD .non) :: lyD ns o) z = _
    rw [getD_cons]
    by_cases c : y = z
    · subst c
      rw [if_pos rfl]
    · rw [if_neg c]
      rcases List.mem_cons.mp h with e | h
      · exact absurd e.symm c
      · exact ly_get h
theorem set_keys {d : Dic} {z : Str} {v : V} (h : z ∈ d.map (·.1)) : (setD d z v).map (·.1) = d.map (·.1) := by
  unfold setD
  have e : (d.any fun p => decide (p.1 = z)) = true := by
    obtain ⟨p, hp, e⟩ := List.mem_map.mp h
    exact List.any_eq_true.mpr ⟨p, hp, decide_eq_true e⟩
  rw [if_pos e, List.map_map]
  refine List.map_congr_left fun p _ => ?_
  show (if p.1 = z then (p.1, v) else p).1 = p.1
  split <;> rfl
theorem set_new {d : Dic} {z : Str} {v : V} (h : z ∉ d.map (·.1)) : setD d z v = d ++ [(z, v)] := by
  unfold setD
  have e : ¬ (d.any fun p => decide (p.1 = z)) = true := fun e => by
    obtain ⟨p, hp, e⟩ := List.any_eq_true.mp e
    exact h (List.mem_map.mpr ⟨p, hp, of_decide_eq_true e⟩)
  rw [if_neg e]
theorem set_ok {fo : List Str} {d : Dic} {z : Str} {v : V} (h : DicOk fo d) (hv : Opt fo v) : DicOk fo (setD d z v) := fun p hp => by
  rcases setD_mem hp with hp | hp
  · exact h p hp
  · rcases hv with rfl | ⟨y, hy, rfl⟩
    · exact .inl hp
    · exact .inr ⟨y, hy, hp⟩
end My

namespace My
open PySem PySem.Spec PyProof.Rows L2
theorem iteT' {c : Bool} {p q : Prop} (e : c = true) (h : p) : if c = true then p else q := by rw [if_pos e]; exact h
theorem iteF' {c : Bool} {p q : Prop} (e : c = false) (h : q) : if c = true then p else q := by rw [if_neg (by rw [e]; exact Bool.false_ne_true)]; exact h
theorem raise_at {f : Str} {CI : Addr} {i : Nat} {σ : L2.St} {H H3 : Hp} {y : V} {E : XK} (hy : σ[i]? = some (some y)) (x3 : Ext H H3) (q : ∀ d H', Ext H H' → H d = none → H' d = some (.xd [(f, y)]) → E (.ref CI) (some d) H') :
    tMkO CI (spInit CI f) [] (tCons (tVar i) tNil) σ H3 fun cls d H' => E cls d H' := by
  refine ⟨_, hy, Nat.le_of_ble_eq_true rfl, fun e he => ?_⟩
  refine ⟨e, _, rfl, upd_same, fun d hd ne => ⟨rfl, d, [(f, y)], upd_same, ?_, ?_, ?_⟩⟩
  · rw [upd_ne ne, upd_same]
  · rw [upd_ne ne] at hd
    exact hd
  · rw [upd_ne ne] at hd
    refine q d _ (fun b u k => ?_) ?_ upd_same
    · have k1 := x3 b u k
      rw [upd_ne (ne_of_none k1 hd), del_ne (ne_of_none k1 he), upd_ne (ne_of_none k1 he), upd_ne (ne_of_none k1 hd), upd_ne (ne_of_none k1 he)]
      exact k1
    · exact ext_none x3 hd
/-- no text of these -/
def NotIn (K : PySem.W.Frag) (H : Hp) (ns : List Str) (y : V) : Prop := (flatV y = true ∧ inV y (ns.map V.str) = false) ∨ NoText K H y
theorem NotIn.ext {K : PySem.W.Frag} {H H' : Hp} {ns : List Str} {y : V} (h : NotIn K H ns y) (e : Ext H H') : NotIn K H' ns y := h.elim .inl fun z => .inr (NoText.ext z e)
def spMustNode (K : PySem.W.Frag) (C CN : Addr) : Sp := fun vs H Q E => ∃ h y fo th, vs = [.ref h, y] ∧ Hou H K C h fo th ∧ ((∃ z, y = .str z ∧ z ∈ fo ++ th ∧ Q .non H) ∨ (NotIn K H (fo ++ th) y ∧ ∀ d H', Ext H H' → H d = none → H' d = some (.xd [("node", y)]) → E (.ref CN) (some d) H'))
def spMustFolder (K : PySem.W.Frag) (C CF : Addr) : Sp := fun vs H Q E => ∃ h y fo th, vs = [.ref h, y] ∧ Hou H K C h fo th ∧ ((∃ z, y = .str z ∧ z ∈ fo ∧ Q .non H) ∨ (NotIn K H fo y ∧ ∀ d H', Ext H H' → H d = none → H' d = some (.xd [("folder", y)]) → E (.ref CF) (some d) H'))
/-- what lies over the nodes of a house -/
structure LyD (fo th : List Str) (d : Dic) : Prop where
  keys : d.map (·.1) = fo ++ th
  ok : DicOk fo d
def spRing (K : PySem.W.Frag) (C : Addr) : Sp := fun vs H Q _ => ∃ (h p : Addr) (fo th : List Str) (d : Dic), vs = [.ref h, .ref p] ∧ Hou H K C h fo th ∧ fo.length ≤ 1000 ∧ H p = some (.dK (kd d)) ∧ LyD fo th d ∧
  ((∀ c, c ∈ fo → ¬ Cyc d c) → ∀ H', Ext H H' → Q .non H') ∧ ∀ t way H', Ext H H' → SqT K H' t (way.map V.str) → RingOk fo d way → Q (.ref t) H'
abbrev nm_must_be_node : List Str := ["house", "thing"]
theorem sc_must_be_node : FnScope nm_must_be_node ["house", "thing"] (defScope s_must_be_node) := ⟨rfl, rfl, rfl, by decide +kernel, rfl, by decide +kernel, by decide +kernel⟩
abbrev nm_must_be_folder : List Str := ["house", "thing"]
theorem sc_must_be_folder : FnScope nm_must_be_folder ["house", "thing"] (defScope s_must_be_folder) := ⟨rfl, rfl, rfl, by decide +kernel, rfl, by decide +kernel, by decide +kernel⟩
abbrev nm_ring : List Str := ["house", "lying", "folder", "way"]
theorem sc_ring : FnScope nm_ring ["house", "lying"] (defScope s_ring) := ⟨rfl, rfl, rfl, by decide +kernel, rfl, by decide +kernel, by decide +kernel⟩
section
variable {P : Program} {w : World} {K : PySem.W.Frag} {mg : Str → Option Value} {base : Heap} {f C CB CN CF : Addr} {fd : FuncData}
theorem ok_mustNode (Fn : FnP K "must_be_node" s_must_be_node f fd) (Z : HouseTxt P w K mg C CB) (EB : Er P w K mg base "NoNode" "node" CN) : FnOk P w K mg base (L2.CX P w) 4 f fd ["house", "thing"] (spMustNode K C CN) := by
  obtain ⟨fI, fdI, TB, FB, bB, _⟩ := EB
  refine Fn.ok sc_must_be_node (fun vs H Q E h => ?_) (fun cdv A outer s H vs Q E hr h => ⟨_,
    (pss_one (ps_if (pt_cmpR (OpR.notIn (op_inO (EI := E0) (hr.mono (by decide)) Z.mS (Z.S _) Z.bS pass0)) (pv 1) (pv 0) (by rfl)) (pss_one (ps_raise rfl (takes_of rfl rfl rfl rfl) (pmk_oex TB.oex TB.iC TB.tI FB (hr.mono (by decide)) bB .nil pass0 (by rfl) TB.gl (pa_cons (pv 1) pa_nil)))) pss_nil)), ?_⟩)
  · obtain ⟨h, y, fo, th, rfl, _⟩ := h
    rfl
  · obtain ⟨h, y, fo, th, rfl, hou, hh⟩ := h
    obtain ⟨hx, hfs, hins⟩ := hou.ins
    refine ⟨_, rfl, _, rfl, h, hx, hfs, rfl, hins, h, fo, th, y, rfl, hou, ?_⟩
    rcases hh with ⟨z, rfl, hz, q⟩ | ⟨nn | nn, q⟩
    · refine .inl ⟨rfl, ?_⟩
      rw [inV_str, decide_eq_true hz]
      exact ⟨_, rfl, _, rfl, _, rfl, q⟩
    · refine .inl ⟨nn.1, ?_⟩
      rw [nn.2]
      exact ⟨_, rfl, _, rfl, _, rfl, raise_at rfl Ext.rfl' q⟩
    · exact .inr (.inl ⟨nn, _, rfl, _, rfl, _, rfl, raise_at rfl Ext.rfl' q⟩)
theorem ok_mustFolder (Fn : FnP K "must_be_folder" s_must_be_folder f fd) (Z : HouseTxt P w K mg C CB) (EB : Er P w K mg base "NoFolder" "folder" CF) : FnOk P w K mg base (L2.CX P w) 4 f fd ["house", "thing"] (spMustFolder K C CF) := by
  obtain ⟨fI, fdI, TB, FB, bB, _⟩ := EB
  refine Fn.ok sc_must_be_folder (fun vs H Q E h => ?_) (fun cdv A outer s H vs Q E hr h => ⟨_,
    (pss_one (ps_if (pt_cmpR (OpR.notIn (OpR.or op_in_seq (op_inN (hu_of hr)))) (pv 1) (pe_fld (pv 0) rfl) (by rfl)) (pss_one (ps_raise rfl (takes_of rfl rfl rfl rfl) (pmk_oex TB.oex TB.iC TB.tI FB (hr.mono (by decide)) bB .nil pass0 (by rfl) TB.gl (pa_cons (pv 1) pa_nil)))) pss_nil)), ?_⟩)
  · obtain ⟨h, y, fo, th, rfl, _⟩ := h
    rfl
  · obtain ⟨h, y, fo, th, rfl, hou, hh⟩ := h
    obtain ⟨⟨dx, fs, fa, ta, na, h1, h2, h3, h4, h5, h6, h7⟩, hok⟩ := id hou
    refine ⟨_, rfl, _, rfl, h, C, dx, fs, _, rfl, h1, Z.T.cl, Z.T.nf, h2, ?_⟩
    rcases hh with ⟨z, rfl, hz, q⟩ | ⟨nn | nn, q⟩
    · refine .inl ⟨fa, _, rfl, .inr h5, rfl, flat_strs fo, ?_⟩
      show ∃ b, V.bl (inV (.str z) (fo.map V.str)) = .bl b ∧ _
      rw [inV_str, decide_eq_true hz]
      exact ⟨_, rfl, _, rfl, q⟩
    · refine .inl ⟨fa, _, rfl, .inr h5, nn.1, flat_strs fo, ?_⟩
      show ∃ b, V.bl (inV y (fo.map V.str)) = .bl b ∧ _
      rw [nn.2]
      exact ⟨_, rfl, _, rfl, raise_at rfl Ext.rfl' q⟩
    · exact .inr ⟨fa, fo, rfl, h5, nn, _, rfl, _, rfl, raise_at rfl Ext.rfl' q⟩
theorem ok_ring (Fn : FnP K "ring" s_ring f fd) (Z : HouseTxt P w K mg C CB) (gB_tuple : mg "tuple" = none) : FnOk P w K mg base CX0 2 f fd ["house", "lying"] (spRing K C) := by
  refine Fn.ok sc_ring (fun vs H Q E h => ?_) (fun cdv A outer s H vs Q E hr h => ⟨_, PSs.nox
    (pss_cons (ps_for PassesOwn.never rfl (pi_tup (pe_fld (pv 0) rfl)) (pg_name (i := 2) sc_ring.nd rfl (Or.inl rfl))
      (pss_cons (ps_set (i := 3) sc_ring.nd rfl (Or.inl rfl) (pe_lst (pa_cons (pv 2) pa_nil)))
      (pss_cons (ps_while PassesOwn.never (PW.pt (pw_and (pt_cmpR op_notN (pe_dget (hu_of hr) (pv 1) (pe_ix ix_list (pv 3) (pe_un un_neg pe_int) (fun _ _ => rfl)) (fun _ _ => rfl)) pe_non (nomark _)) (pw_and1 (pt_cmpR op_notIn_seq (pe_dget (hu_of hr) (pv 1) (pe_ix ix_list (pv 3) (pe_un un_neg pe_int) (fun _ _ => rfl)) (fun _ _ => rfl)) (pv 3) (by rfl))))) (pss_one (ps_expr (pe_bm PySem.F.plainAttrs_list PySem.F.slot_list_append PySem.F.type_list_append mt_append (pv 3) (pa_cons (pe_dget (hu_of hr) (pv 1) (pe_ix ix_list (pv 3) (pe_un un_neg pe_int) (fun _ _ => rfl)) (fun _ _ => rfl)) pa_nil)))))
      (pss_one (ps_if (pt_cmpR op_eq (pe_dget (hu_of hr) (pv 1) (pe_ix ix_list (pv 3) (pe_un un_neg pe_int) (fun _ _ => rfl)) (fun _ _ => rfl)) (pv 2) (nomark _)) (pss_one (ps_ret (pe_callTy call_tup (by rfl) gB_tuple (by decide +kernel) (pa_cons (pv 3) pa_nil)))) pss_nil)))))
      (pss_one (ps_ret pe_non))), ?_⟩)
  · obtain ⟨h, p, fo, th, d, rfl, _⟩ := h
    rfl
  · obtain ⟨h, p, fo, th, d, rfl, hou, fl, hp, ly, qN, qR⟩ := h
    obtain ⟨⟨dx, fs, fa, ta, na, h1, h2, h3, h4, h5, h6, h7⟩, hok⟩ := id hou
    have keyOf : ∀ z, z ∈ fo → ∃ v, getD d z = some v := fun z hz => getD_some (by rw [ly.keys]; exact List.mem_append_left _ hz)
    have dget : ∀ {H' : Hp} {z : Str}, Ext H H' → z ∈ fo → DGet H' p (.str z) (some (itV d 1 (.str z))) := fun {H' z} e hz => by
      obtain ⟨v, hv⟩ := keyOf z hz
      refine .inl ⟨kd d, Sum.inr z, .inl (e _ _ hp), rfl, ?_⟩
      rw [val_kd, hv]
      show some ((getD d z).getD .non) = some v
      rw [hv]
      rfl
    refine ⟨_, rfl, h, C, dx, fs, _, rfl, h1, Z.T.cl, Z.T.nf, h2, fa, rfl, ⟨_, h5⟩, for_tup (K := K) (a := fa) (xs := fo.map V.str) (fun i σ H' => ∃ u w, σ = [some (.ref h), some (.ref p), u, w] ∧ Ext H H' ∧ ∀ c, c ∈ fo.take i → ¬ Cyc d c) ⟨none, none, rfl, Ext.rfl', fun c hc => by cases hc⟩ (fun i σ H' _ ⟨u, w, _, x, _⟩ => h5.ext x) ?_ ?_⟩
    · rintro i v σ H1 hv ⟨u, w, rfl, x1, nc⟩
      obtain ⟨c, hc, rfl⟩ := strs_at hv
      have mc : c ∈ fo := List.mem_of_getElem? hc
      refine ⟨_, rfl, Nat.le_of_ble_eq_true rfl, fun l hl => ?_⟩
      have xl := Ext.upd (o := .lst [.str c]) hl
      -- the way: n + 1 stations from c
      refine ⟨fun m σ H' => ∃ n, m = fo.length + 1 - n ∧ n + 1 ≤ fo.length ∧ σ = [some (.ref h), some (.ref p), some (.str c), some (.ref l)] ∧ Ext H1 H' ∧ H' l = some (.lst ((abN d (n + 1) (.str c)).map V.str)) ∧ (abN d (n + 1) (.str c)).length = n + 1 ∧ (abN d (n + 1) (.str c)).Nodup ∧ ∀ z, z ∈ abN d (n + 1) (.str c) → z ∈ fo, ⟨_, 0, rfl, ?_, rfl, xl, upd_same, rfl, ?_, ?_⟩, ?_⟩
      · exact List.length_pos_of_mem mc
      · exact (by simp : [c].Nodup)
      · intro z hz
        rw [List.mem_singleton.mp hz]
        exact mc
      rintro m σ H2 ⟨n, rfl, hn, rfl, x2, l2, wl, wnd, wsub⟩
      have x02 := x1.trans x2
      obtain ⟨way, hway⟩ : ∃ way, way = abN d (n + 1) (.str c) := ⟨_, rfl⟩
      rw [← hway] at l2 wl wnd wsub
      -- the last station
      obtain ⟨init, z, ez⟩ : ∃ init z, way = init ++ [z] := by
        have ne : way ≠ [] := fun e => by rw [e] at wl; cases wl
        exact ⟨way.dropLast, way.getLast ne, (List.dropLast_concat_getLast ne).symm⟩
      have zn : itV d n (.str c) = .str z := by
        have g := ab_get d (n + 1) (.str c) n
        have il : init.length = n := by
          have := congrArg List.length ez
          rw [wl, List.length_append, List.length_singleton] at this
          omega
        rw [if_pos (Nat.lt_succ_self n), ← hway, ez, List.getElem?_append_right (by omega), il, Nat.sub_self] at g
        have g : some z = strOf (itV d n (.str c)) := g
        cases e : itV d n (.str c) <;> rw [e] at g <;> first | cases g | skip
        rfl
      have zfo : z ∈ fo := wsub z (by rw [ez]; exact List.mem_append_right _ List.mem_cons_self)
      have up : itV d 1 (.str z) = itV d (n + 1) (.str c) := by
        rw [it_succ d n, zn]
        rfl
      have lst2 : ∀ {H' : Hp}, Ext H2 H' → SqL K H' l (way.map V.str) := fun e => SqL.of (e _ _ l2)
      have last : atI (way.map V.str) (-1) = some (.str z) := by
        rw [ez, List.map_append]
        exact atI_last _ _
      refine ⟨_, rfl, _, rfl, _, rfl, l, _, _, .str z, rfl, rfl, lst2 Ext.rfl', last, p, _, rfl, dget x02 zfo, rfl, _, rfl, ?_⟩
      rw [up]
      -- behind the loop
      have eqz : ∀ x y : Str, decide (V.str x = V.str y) = decide (x = y) := fun x y => by
        by_cases e : x = y
        · rw [e, decide_eq_true rfl, decide_eq_true rfl]
        · rw [decide_eq_false e, decide_eq_false fun h => e (by injection h)]
      have tkc : fo.take (i + 1) = fo.take i ++ [c] := by
        rw [List.take_add_one, hc]
        rfl
      have go : ∀ x, x ∈ fo.take (i + 1) → (¬ Cyc d c) → ¬ Cyc d x := fun x hx n => by
        rw [tkc] at hx
        rcases List.mem_append.mp hx with hx | hx
        · exact nc x hx
        · rw [List.mem_singleton.mp hx]
          exact n
      have stat : ∀ k, k ≤ n → ∃ y, itV d k (.str c) = .str y ∧ way[k]? = some y := fun k hk => by
        have g := ab_get d (n + 1) (.str c) k
        rw [if_pos (by omega), ← hway] at g
        obtain ⟨y, hy⟩ : ∃ y, way[k]? = some y := ⟨_, List.getElem?_eq_getElem (by omega)⟩
        rw [hy] at g
        refine ⟨y, ?_, hy⟩
        cases e : itV d k (.str c) <;> rw [e] at g <;> first | cases g | skip
        rfl
      rcases it_opt ly.ok (n + 1) _ (.inr ⟨c, mc, rfl⟩) with e | ⟨y, hy, e⟩
      · rw [e]
        refine iteF ?_
        refine ⟨_, rfl, _, rfl, _, rfl, l, _, _, .str z, rfl, rfl, lst2 Ext.rfl', last, p, _, rfl, dget x02 zfo, _, rfl, ?_⟩
        rw [up, e]
        refine ⟨rfl, _, rfl, ?_⟩
        refine iteF' (decide_eq_false (by intro z; cases z)) ?_
        refine ⟨_, _, rfl, x02, fun x hx => go x hx fun ⟨m, m0, em⟩ => ?_⟩
        rcases Nat.lt_or_ge n m with l' | g
        · rw [it_stay e l'] at em
          cases em
        · obtain ⟨y0, e0, w0⟩ := stat 0 (Nat.zero_le _)
          obtain ⟨ym, e1, w1⟩ := stat m g
          rw [em] at e1
          have e0 : V.str c = .str y0 := e0
          have : y0 = ym := by
            injection e0 with e0
            injection e1 with e1
            rw [← e0, e1]
          rw [this] at w0
          have := (List.getElem?_inj (by omega) wnd).mp (w0.trans w1.symm)
          omega
      · have dg : ∀ {H' : Hp}, Ext H2 H' → DGet H' p (.str z) (some (.str y)) := fun x => by
          have g := dget (x02.trans x) zfo
          rw [up, e] at g
          exact g
        rw [e]
        refine iteT ?_
        refine ⟨_, rfl, _, rfl, _, rfl, l, _, _, .str z, rfl, rfl, lst2 Ext.rfl', last, p, _, rfl, dg Ext.rfl', _, rfl, l, _, rfl, .inl (lst2 Ext.rfl'), rfl, flat_strs way, _, rfl, ?_⟩
        rw [inV_str]
        refine ite2 (fun c1 => ?_) fun c1 => ?_
        · have yn : y ∉ way := by
            have c2 : (!decide (y ∈ way)) = true := c1
            simpa using c2
          have sn : abN d (n + 2) (.str c) = way ++ [y] := by rw [hway]; exact ab_snoc (n + 1) _ y e
          have nd2 : (way ++ [y]).Nodup := List.nodup_append.mpr ⟨wnd, (by simp : [y].Nodup), fun a ha b hb ee => yn (by rw [List.mem_singleton.mp hb] at ee; rw [← ee]; exact ha)⟩
          have sb2 : ∀ x, x ∈ way ++ [y] → x ∈ fo := fun x hx => (List.mem_append.mp hx).elim (wsub x) fun h => by rw [List.mem_singleton.mp h]; exact hy
          have le2 := nd2.length_le_of_subset sb2
          rw [List.length_append, wl, List.length_singleton] at le2
          refine ⟨_, fun σ' H' hN => ⟨fo.length + 1 - (n + 1), by omega, hN⟩, ?_⟩
          refine ⟨_, rfl, .inl ⟨rfl, _, .inl (.inl l2)⟩, _, rfl, _, rfl, _, rfl, l, _, _, .str z, rfl, rfl, lst2 Ext.rfl', last, p, _, rfl, dg Ext.rfl', l, _, _, rfl, rfl, l2, by rw [List.length_map, wl, sizeLine_eq]; omega, ?_⟩
          refine ⟨n + 1, rfl, le2, rfl, x2.over hl, ?_, ?_, ?_, ?_⟩
          · rw [sn, upd_same, List.map_append]
            rfl
          · rw [sn, List.length_append, wl]
            rfl
          · rw [sn]
            exact nd2
          · rw [sn]
            exact sb2
        · have ym : y ∈ way := by
            have c2 : ¬ (!decide (y ∈ way)) = true := c1
            simpa using c2
          refine ⟨_, rfl, _, rfl, _, rfl, l, _, _, .str z, rfl, rfl, lst2 Ext.rfl', last, p, _, rfl, dg Ext.rfl', _, rfl, rfl, _, rfl, ?_⟩
          refine ite2 (fun c2 => ?_) fun c2 => ?_
          · have yc : y = c := by
              have := of_decide_eq_true c2
              injection this
            subst yc
            refine ⟨_, rfl, l, _, rfl, .inl (lst2 Ext.rfl'), fun t H3 x3 st => qR t way H3 (x02.trans x3) st ?_⟩
            rw [hway]
            rw [hway] at wl wnd wsub
            exact ring_ok wl wnd wsub e
          · have yc : y ≠ c := fun ee => c2 (by rw [ee, decide_eq_true rfl])
            refine ⟨_, _, rfl, x02, fun x hx => go x hx fun ⟨m, m0, em⟩ => ?_⟩
            obtain ⟨j, hj⟩ := List.mem_iff_getElem?.mp ym
            have hjl := (List.getElem?_eq_some_iff.mp hj).1
            obtain ⟨y0, e0, w0⟩ := stat 0 (Nat.zero_le _)
            have e0 : V.str c = .str y0 := e0
            injection e0 with e0
            subst e0
            have j1 : 1 ≤ j := by
              rcases Nat.eq_zero_or_pos j with z0 | z0
              · subst z0
                rw [hj] at w0
                exact absurd (Option.some.inj w0) yc
              · exact z0
            obtain ⟨yj, ej, wj⟩ := stat j (by omega)
            have eyj : yj = y := by
              rw [hj] at wj
              exact (Option.some.inj wj).symm
            subst eyj
            have clo : ∀ m, 1 ≤ m → ∃ k, 1 ≤ k ∧ k ≤ n ∧ itV d m (.str c) = itV d k (.str c) := fun m => by
              induction m with
              | zero => intro h; omega
              | succ m ih =>
                intro _
                rcases Nat.eq_zero_or_pos m with z0 | z0
                · subst z0
                  exact ⟨1, Nat.le_refl _, by omega, rfl⟩
                · obtain ⟨k, k1, kn, ek⟩ := ih z0
                  rcases Nat.lt_or_ge k n with lt | ge
                  · refine ⟨k + 1, by omega, lt, ?_⟩
                    rw [it_succ, it_succ, ek]
                  · have : k = n := by omega
                    subst this
                    refine ⟨j, j1, by omega, ?_⟩
                    rw [it_succ, ek, ← it_succ, e, ej]
            obtain ⟨k, k1, kn, ek⟩ := clo m m0
            obtain ⟨yk, ek2, wk⟩ := stat k kn
            rw [em, ek2] at ek
            injection ek with ek
            subst ek
            have := (List.getElem?_inj (by omega) wnd).mp (w0.trans wk.symm)
            omega
    · rintro σ H1 ⟨u, w, rfl, x1, nc⟩
      rw [List.length_map, List.take_length] at nc
      exact qN nc H1 x1
end
end My

namespace My
open PySem PySem.Spec PyProof.Rows L2
/-! ### the class Tree -/
structure TreC (K : PySem.W.Frag) (C : Addr) : Prop where
  cl : Cls K C
  nh : NoAttr K C "house"
  nl : NoAttr K C "lying"
  ha : PySem.W.findIn K (.ref C) "__class__" = some (some (.builtin "object.__class__"))
  hn : PySem.W.specialIn K (.builtin "object.__class__") "__get__" = some (some (.builtin "getset_descriptor.__get__"))
  htk : PySem.W.takesIn K (.builtin "object.__class__") = some true
  hm : PySem.W.mroIn K C (.type "object") = some true
/-- the methods that are no fields -/
def treM : List Str := ["over", "above", "below", "lies", "moved", "holds", "keeps"]
/-- a tree stands at a, what lies over its nodes at q -/
def TreeAt (H : Hp) (K : PySem.W.Frag) (CT C a q : Addr) (fo th : List Str) (d : Dic) : Prop := ∃ dx fs h, H a = some (.ins CT dx fs) ∧ fs.lookup ("house" : Str) = some (V.ref h) ∧ fs.lookup ("lying" : Str) = some (V.ref q) ∧
  Hou H K C h fo th ∧ H q = some (.dK (kd d)) ∧ LyD fo th d ∧ Acy d ∧ (fo ++ th).length ≤ 1000 ∧ (fo ++ th).Nodup ∧ ∀ m, m ∈ treM → fs.lookup m = none
theorem TreeAt.ext {H H' : Hp} {K : PySem.W.Frag} {CT C a q : Addr} {fo th : List Str} {d : Dic} (h : TreeAt H K CT C a q fo th d) (e : Ext H H') : TreeAt H' K CT C a q fo th d := by
  obtain ⟨dx, fs, ho, h1, h2, h3, h4, h5, h6⟩ := h
  exact ⟨dx, fs, ho, e _ _ h1, h2, h3, h4.ext e, e _ _ h5, h6⟩
theorem TreeAt.ins {H : Hp} {K : PySem.W.Frag} {CT C a q : Addr} {fo th : List Str} {d : Dic} (h : TreeAt H K CT C a q fo th d) : ∃ dx fs, H a = some (.ins CT dx fs) := by
  obtain ⟨dx, fs, ho, h1, _⟩ := h
  exact ⟨dx, fs, h1⟩
theorem tyT {K : PySem.W.Frag} {H : Hp} {CT C a q : Addr} {fo th : List Str} {d : Dic} (T : TreC K CT) (h : TreeAt H K CT C a q fo th d) : TyX K H (.ref a) (.ref CT) := by
  obtain ⟨dx, fs, e⟩ := h.ins
  exact .base (.ins e T.cl T.ha T.hn T.htk T.hm)
/-! ### a dict locked, and let go -/
theorem ext_unlock {H H' : Hp} {p : Addr} {u z : HO} (hp : H p = some u) (e : Ext (L2.upd H p z) H') : Ext H (L2.upd H' p u) := fun b v k => by
  by_cases c : b = p
  · rw [c, upd_same, ← hp, ← c, k]
  · rw [upd_ne c]
    exact e b v (by rw [upd_ne c]; exact k)
theorem seqT_dk {K : PySem.W.Frag} {H : Hp} {a p : Addr} {xs : List V} {kvs : List (Key × V)} {z : HO} (h : SqT K H a xs) (hp : H p = some (.dK kvs)) : SqT K (L2.upd H p z) a xs := by
  rcases h with (h | ⟨o, h⟩) | h
  · exact .inl (.inl (by rw [upd_ne (ne_of h hp (fun z => nomatch z))]; exact h))
  · exact .inl (.inr ⟨o, by rw [upd_ne (ne_of h hp (fun z => nomatch z))]; exact h⟩)
  · exact .inr h
theorem hou_dk {H : Hp} {K : PySem.W.Frag} {C b p : Addr} {fo th : List Str} {kvs : List (Key × V)} {z : HO} (h : Hou H K C b fo th) (hp : H p = some (.dK kvs)) : Hou (L2.upd H p z) K C b fo th := by
  obtain ⟨⟨dx, fs, f, t, n, h1, h2, h3, h4, h5, h6, h7⟩, ok⟩ := h
  exact ⟨⟨dx, fs, f, t, n, by rw [upd_ne (ne_of h1 hp (fun z => nomatch z))]; exact h1, h2, h3, h4, seqT_dk h5 hp, seqT_dk h6 hp, seqT_dk h7 hp⟩, ok⟩
/-- the house stays when an instance is written -/
theorem hou_butI {K : PySem.W.Frag} {H H' : Hp} {a C CF dx h : Addr} {fs : List (Str × V)} {fo th : List Str} (hh : Hou H K C h fo th) (b : But H H' a) (ha : H a = some (.ins CF dx fs)) (ne : h ≠ a) : Hou H' K C h fo th := by
  obtain ⟨⟨dx', fs', f, t, n, h1, h2, h3, h4, h5, h6, h7⟩, k⟩ := hh
  exact ⟨⟨dx', fs', f, t, n, b _ _ ne h1, h2, h3, h4, sqT_but h5 b ha, sqT_but h6 b ha, sqT_but h7 b ha⟩, k⟩
theorem cyc_fo {fo : List Str} {d : Dic} (ok : DicOk fo d) {c : Str} (h : Cyc d c) : c ∈ fo := by
  obtain ⟨n, n0, e⟩ := h
  cases n with
  | zero => exact absurd n0 (Nat.lt_irrefl 0)
  | succ n =>
    rcases it_opt ok n _ (step_str ok c) with h | ⟨y, hy, h⟩
    · have e : itV d n (stepV d (.str c)) = .str c := e
      rw [h] at e
      cases e
    · have e : itV d n (stepV d (.str c)) = .str c := e
      rw [h] at e
      injection e with e
      rw [← e]
      exact hy
def spTInit (K : PySem.W.Frag) (CT C CF CR : Addr) : Sp := fun vs H Q E => ∃ a dx h p fo th o, vs = [.ref a, .ref h, .ref p] ∧ H a = some (.ins CT dx []) ∧ h ≠ a ∧ Hou H K C h fo th ∧ (fo ++ th).length ≤ 1000 ∧ (fo ++ th).Nodup ∧ H p = some (.dK (kd o)) ∧ (∀ z, z ∈ o.map (·.1) → z ∈ fo ++ th) ∧
  ((∃ (i : Nat) (y : V), (o.map (·.2))[i]? = some y ∧ (∀ j z, j < i → (o.map (·.2))[j]? = some z → ∃ s, z = .str s ∧ s ∈ fo) ∧ (∀ od, NotIn K (L2.upd H p (.frz od (.dK (kd o)))) fo y) ∧ ∀ d H' od, Ext (L2.upd H p (.frz od (.dK (kd o)))) H' → H d = none → H' d = some (.xd [("folder", y)]) → E (.ref CF) (some d) H') ∨
  ((∀ z, z ∈ o.map (·.2) → ∃ s, z = .str s ∧ s ∈ fo) ∧ ((∀ c, c ∈ fo → ¬ Cyc (lyD (fo ++ th) o) c) → ∀ q H', But H H' a → H q = none → TreeAt H' K CT C a q fo th (lyD (fo ++ th) o) → Q .non H') ∧
    ∀ d t way H', Ext H H' → H d = none → SqT K H' t (way.map V.str) → H' d = some (.xd [("folders", .ref t)]) → RingOk fo (lyD (fo ++ th) o) way → E (.ref CR) (some d) H'))
/-- a def that may raise -/
def HasX (P : Program) (w : World) (K : PySem.W.Frag) (mg : Str → Option Value) (base : Heap) (k : Nat) (x : Str) (ps : List Str) (sp : Sp) : Prop :=
  ∃ (f : Addr) (fd : FuncData), FnOk P w K mg base (L2.CX P w) k f fd ps sp ∧ mg x = some (.ref f) ∧ PySem.W.keepIn K (.ref f) = true ∧ Binds K fd ps []
theorem pe_hasX {X : Cx} {k : Nat} {x : Str} {ps : List Str} {sp : Sp} {E : XK} {e : Expr} {es : List Expr} {t : TA} {p pos : Pos} (h : HasX X.prog X.w X.K X.mg X.base k x ps sp) (hr : Room k X.A) (ha : PA X (e :: es) t) (hx : Passes (L2.CX X.prog X.w) X E) (hg : Gl X x := by rfl)
    (hdb : (x == ("__debug__" : Str)) = false := by decide) (h1 : starEach (e :: es) X.env = (false, eval e X.env) :: starEach es X.env := by rfl) (h2 : (backTo pos (starEach es X.env)).any (·.1) = false := by rfl) :
    PE X (.Call (.Name x p) (e :: es) [] pos) (tCall sp [] E t) := by
  obtain ⟨f, fd, F, m, kp, b⟩ := h
  exact pe_call F hr hg m kp b .nil hx ha hdb h1 h2
abbrev nm_Tree_init : List Str := ["self", "house", "over", "node", "folder", "lying", "folders"]
theorem sc_Tree_init : FnScope nm_Tree_init ["self", "house", "over"] (defScope s_Tree_init) := ⟨rfl, rfl, rfl, by decide +kernel, rfl, by decide +kernel, by decide +kernel⟩
section
variable {P : Program} {w : World} {K : PySem.W.Frag} {mg : Str → Option Value} {base : Heap} {f C CT CN CF CR CB : Addr} {fd : FuncData}
theorem ok_tInit (Fn : FunD K "__init__" "Tree.__init__" (defArgs s_Tree_init) (defBody s_Tree_init) (defScope s_Tree_init) [] [] f fd) (Z : HouseTxt P w K mg C CB) (T : TreC K CT) (hmust_be_node : HasX P w K mg base 4 "must_be_node" ["house", "thing"] (spMustNode K C CN)) (hmust_be_folder : HasX P w K mg base 4 "must_be_folder" ["house", "thing"] (spMustFolder K C CF))
    (hring : Has P w K mg base 2 "ring" ["house", "lying"] (spRing K C)) (EB : Er P w K mg base "Ringed" "folders" CR) :
    FnOk P w K mg base (L2.CX P w) 6 f fd ["self", "house", "over"] (spTInit K CT C CF CR) := by
  obtain ⟨fI, fdI, TB, FB, bB, _⟩ := EB
  refine Fn.ok sc_Tree_init (fun vs H Q E h => ?_) (fun cdv A outer s H vs Q E hr h => ⟨_,
    (pss_cons (ps_lock (ps_for (passes_of rfl) rfl (pi_keys (pv 2)) (pg_name (i := 3) sc_Tree_init.nd rfl (Or.inl rfl))
      (pss_one (ps_expr (pe_hasX hmust_be_node (hr.mono (by decide)) (pa_cons (pv 1) (pa_cons (pv 3) pa_nil)) (passes_call (takes_of rfl rfl rfl rfl) (fun _ _ _ _ h => h)))))))
      (pss_cons (ps_lock (ps_for (passes_of rfl) rfl (pi_values (pv 2)) (pg_name (i := 4) sc_Tree_init.nd rfl (Or.inl rfl))
      (pss_one (ps_expr (pe_hasX hmust_be_folder (hr.mono (by decide)) (pa_cons (pv 1) (pa_cons (pv 4) pa_nil)) (passes_call (takes_of rfl rfl rfl rfl) (fun _ _ _ _ h => h)))))))
      (pss_cons (ps_setDc (i := 5) (own := [("node", 3)]) (g := (gName 3)) (tt := tYes) rfl sc_Tree_init.nd rfl rfl (sw_trueD rfl rfl rfl (by decide +kernel)) (pi_tup (pe_fld (pv 1) rfl)) (blkOk_by (N := nm_Tree_init) (sc := defScope s_Tree_init) (by decide +kernel)) (fun _ _ _ _ _ => (pg_name (i := 3) sc_Tree_init.nd rfl (Or.inl rfl))) (fun _ _ _ _ _ => pts_nil) (fun _ _ _ _ _ => (pv 3)) (fun _ _ _ _ _ => (pe_dget1 (hu_of hr) (pv 2) (pv 3) ⟨rfl, rfl, rfl, rfl⟩)))
      (pss_cons (ps_set (i := 6) sc_Tree_init.nd rfl (Or.inl rfl) (pe_has hring (hr.mono (by decide)) (pa_cons (pv 1) (pa_cons (pv 5) pa_nil))))
      (pss_cons (ps_if (pt_cmpR op_notN (pv 6) pe_non (nomark _)) (pss_one (ps_raise rfl (takes_of rfl rfl rfl rfl) (pmk_oex TB.oex TB.iC TB.tI FB (hr.mono (by decide)) bB .nil pass0 (by rfl) TB.gl (pa_cons (pv 6) pa_nil)))) pss_nil)
      (pss_cons (ps_fld (pv 0) (pv 1) rfl)
      (pss_one (ps_fld (pv 0) (pv 5) rfl)))))))), ?_⟩)
  · obtain ⟨a, dx, h, p, fo, th, o, rfl, _⟩ := h
    rfl
  · obtain ⟨a, dx, h, p, fo, th, o, rfl, ha, nha, hou, len, nd, hp, keys, hh⟩ := h
    have lenS : (fo ++ th).length < sizeLine := by rw [sizeLine_eq]; omega
    -- the keys
    refine ⟨p, .dK (kd o), hp, True.intro, fun od => ?_⟩
    obtain ⟨HL, hHL⟩ : ∃ HL, HL = L2.upd H p (.frz od (.dK (kd o))) := ⟨_, rfl⟩
    rw [← hHL]
    have pL : HL p = some (.frz od (.dK (kd o))) := by rw [hHL, upd_same]
    have houL : Hou HL K C h fo th := by rw [hHL]; exact hou_dk hou hp
    have kdi : ∀ {i : Nat} {k : Key} {v : V}, (kd o)[i]? = some (k, v) → ∃ z, o[i]? = some (z, v) ∧ k = Sum.inr z := fun {i k v} e => by
      unfold kd at e
      rw [List.getElem?_map] at e
      cases c : o[i]? with
      | none => rw [c] at e; cases e
      | some x =>
        rw [c] at e
        cases e
        exact ⟨_, rfl, rfl⟩
    refine ⟨_, rfl, p, od, rfl, .inl ⟨kd o, pL, ?_⟩⟩
    refine for_it (walk_keys (kvs := kd o)) (fun i σ H' => Ext HL H' ∧ ∃ u, σ = [some (.ref a), some (.ref h), some (.ref p), u, none, none, none]) ⟨Ext.rfl', none, rfl⟩ (fun i σ H' _ p => p.1 _ _ pL) ?_ ?_
    · rintro i x σ H1 H2 hi ⟨x1, u, rfl⟩ ⟨rfl, k, v, e, rfl⟩
      obtain ⟨z, oz, rfl⟩ := kdi e
      refine ⟨_, rfl, _, rfl, h, .str z, fo, th, rfl, houL.ext x1, .inl ⟨z, rfl, keys z (List.mem_map.mpr ⟨_, List.mem_of_getElem? oz, rfl⟩), ?_⟩⟩
      exact ⟨x1, _, rfl⟩
    · rintro σ H1 ⟨x1, u, rfl⟩
      refine ⟨x1 _ _ pL, ?_⟩
      obtain ⟨H2, hH2⟩ : ∃ H2, H2 = L2.upd H1 p (.dK (kd o)) := ⟨_, rfl⟩
      rw [← hH2]
      have x2 : Ext H H2 := by
        rw [hH2]
        exact ext_unlock hp (by rw [← hHL]; exact x1)
      have p2 := x2 _ _ hp
      clear x1 hH2 pL houL hHL HL H1
      -- what lies over them
      refine ⟨p, .dK (kd o), p2, True.intro, fun od2 => ?_⟩
      obtain ⟨HL, hHL⟩ : ∃ HL, HL = L2.upd H2 p (.frz od2 (.dK (kd o))) := ⟨_, rfl⟩
      rw [← hHL]
      have pL : HL p = some (.frz od2 (.dK (kd o))) := by rw [hHL, upd_same]
      have houL : Hou HL K C h fo th := by rw [hHL]; exact hou_dk (hou.ext x2) p2
      have xL : Ext (L2.upd H p (.frz od2 (.dK (kd o)))) HL := fun b v k => by
        rw [hHL]
        by_cases c : b = p
        · subst c
          rw [upd_same] at k ⊢
          exact k
        · rw [upd_ne c] at k ⊢
          exact x2 _ _ k
      have vals : ∀ {i : Nat} {k : Key} {v : V}, (kd o)[i]? = some (k, v) → (o.map (·.2))[i]? = some v := fun {i k v} e => by
        obtain ⟨z, oz, _⟩ := kdi e
        rw [List.getElem?_map, oz]
        rfl
      refine ⟨_, rfl, p, od2, kd o, rfl, pL, ?_⟩
      rcases hh with ⟨n, y, hy, bef, nin, qE⟩ | ⟨all, qN, qR⟩
      · refine for_it (walk_values (kvs := kd o)) (fun i σ H' => (Ext HL H' ∧ ∃ u v, σ = [some (.ref a), some (.ref h), some (.ref p), u, v, none, none]) ∧ i ≤ n) ⟨⟨Ext.rfl', _, _, rfl⟩, Nat.zero_le _⟩ (fun i σ H' _ p => p.1.1 _ _ pL) ?_ ?_
        · rintro i x σ H3 H4 hi ⟨⟨x1, u, v, rfl⟩, le⟩ ⟨rfl, k, e⟩
          have e2 := vals e
          rcases Nat.lt_or_ge i n with l | g
          · obtain ⟨s, rfl, hs⟩ := bef i _ l e2
            exact ⟨_, rfl, _, rfl, h, _, fo, th, rfl, houL.ext x1, .inl ⟨s, rfl, hs, ⟨x1, _, _, rfl⟩, l⟩⟩
          · have : i = n := by omega
            subst this
            rw [hy] at e2
            cases e2
            refine ⟨_, rfl, _, rfl, h, _, fo, th, rfl, houL.ext x1, .inr ⟨(nin od2).ext (xL.trans x1), fun d H' x3 hd hd' => qE d H' od2 (xL.trans (x1.trans x3)) ?_ hd'⟩⟩
            have h1 := ext_none (xL.trans x1) hd
            by_cases c : d = p
            · rw [c, upd_same] at h1
              cases h1
            · rw [upd_ne c] at h1
              exact h1
        · rintro σ H3 ⟨_, le⟩
          have := (List.getElem?_eq_some_iff.mp hy).1
          rw [List.length_map] at this
          rw [kd_len] at le
          omega
      refine for_it (walk_values (kvs := kd o)) (fun i σ H' => Ext HL H' ∧ ∃ u v, σ = [some (.ref a), some (.ref h), some (.ref p), u, v, none, none]) ⟨Ext.rfl', _, _, rfl⟩ (fun i σ H' _ p => p.1 _ _ pL) ?_ ?_
      · rintro i x σ H3 H4 hi ⟨x1, u, v, rfl⟩ ⟨rfl, k, e⟩
        obtain ⟨s, rfl, hs⟩ := all _ (List.mem_of_getElem? (vals e))
        exact ⟨_, rfl, _, rfl, h, _, fo, th, rfl, houL.ext x1, .inl ⟨s, rfl, hs, x1, _, _, rfl⟩⟩
      rintro σ H3 ⟨x1, u, v, rfl⟩
      refine ⟨x1 _ _ pL, ?_⟩
      obtain ⟨H4, hH4⟩ : ∃ H4, H4 = L2.upd H3 p (.dK (kd o)) := ⟨_, rfl⟩
      rw [← hH4]
      have x4 : Ext H H4 := x2.trans (by
        rw [hH4]
        exact ext_unlock p2 (by rw [← hHL]; exact x1))
      clear x1 hH4 pL houL hHL xL HL H3 p2 x2 H2
      -- the table
      have hou4 := hou.ext x4
      obtain ⟨⟨dh, fs, fa, ta, na, h1, h2, h3, h4, h5, h6, h7⟩, hok⟩ := id hou4
      refine ⟨_, rfl, h, C, dh, fs, _, rfl, h1, Z.T.cl, Z.T.nn, h4, ?_⟩
      refine ⟨na, rfl, ⟨_, h7⟩, fun D hD => ?_⟩
      have p4 := x4 _ _ hp
      have e7 : fo.map V.str ++ th.map V.str = (fo ++ th).map V.str := (List.map_append ..).symm
      obtain ⟨d, hd⟩ : ∃ d, d = lyD (fo ++ th) o := ⟨_, rfl⟩
      rw [← hd] at qN qR
      have lyk : d.map (·.1) = fo ++ th := by rw [hd]; exact ly_keys _ _
      have dl : d.length = (fo ++ th).length := by rw [← lyk, List.length_map]
      rw [e7] at h7
      refine dc_tup (K := K) (a := na) (xs := (fo ++ th).map V.str) (fun i H' => Ext H4 H' ∧ H' D = some (.dK (kd (d.take i)))) ⟨Ext.upd hD, upd_same⟩ (fun i H' _ p => h7.ext p.1) ?_ ?_
      · rintro i x H5 hx ⟨x5, hD5⟩
        rw [List.getElem?_map] at hx
        obtain ⟨z, hz, rfl⟩ : ∃ z, (fo ++ th)[i]? = some z ∧ x = .str z := by
          cases c : (fo ++ th)[i]? with
          | none => rw [c] at hx; cases hx
          | some z =>
            rw [c] at hx
            cases hx
            exact ⟨z, rfl, rfl⟩
        have zi : i < (fo ++ th).length := (List.getElem?_eq_some_iff.mp hz).1
        have di : d[i]? = some (z, (getD o z).getD .non) := by
          rw [hd]
          unfold lyD
          rw [List.getElem?_map, hz]
          rfl
        have nz : z ∉ (d.take i).map (·.1) := fun m => by
          rw [List.map_take, lyk] at m
          obtain ⟨j, hj⟩ := List.mem_iff_getElem?.mp m
          have jl := (List.getElem?_eq_some_iff.mp hj).1
          rw [List.length_take] at jl
          rw [List.getElem?_take_of_lt (by omega)] at hj
          have := (List.getElem?_inj (by omega) nd).mp (hj.trans hz.symm)
          omega
        refine ⟨rfl, ?_⟩
        refine ⟨_, rfl, _, rfl, p, rfl, .inl ⟨_, .inl (x5 _ _ p4)⟩, _, rfl, _, DGet.k (k := Sum.inr z) (x5 _ _ p4), ?_⟩
        rw [val_kd]
        refine ⟨_, Sum.inr z, rfl, hD5, by rw [kd_len, List.length_take]; omega, x5.over hD, ?_⟩
        rw [upd_same, put_kd, set_new nz, List.take_add_one, di]
        rfl
      · rintro H5 ⟨x5, hD5⟩
        rw [List.length_map, ← dl, List.take_length] at hD5
        have hou5 := hou.ext (x4.trans x5)
        have ly : LyD fo th d := ⟨lyk, fun q hq => by
          rw [hd] at hq
          unfold lyD at hq
          obtain ⟨z, _, rfl⟩ := List.mem_map.mp hq
          show (getD o z).getD .non = .non ∨ _
          cases e : getD o z with
          | none => exact .inl rfl
          | some v =>
            obtain ⟨q, hq, rfl⟩ := getD_mem e
            obtain ⟨s, es, hs⟩ := all _ (List.mem_map.mpr ⟨q, hq, rfl⟩)
            exact .inr ⟨s, hs, es⟩⟩
        refine ⟨_, rfl, _, rfl, h, D, fo, th, d, rfl, hou5, by rw [List.length_append] at len; omega, hD5, ly, fun nc H6 x6 => ?_, fun t way H6 x6 st ring => ?_⟩
        · refine ⟨_, rfl, rfl, _, rfl, ?_⟩
          refine iteF ?_
          have x6' : Ext H H6 := x4.trans (x5.trans x6)
          refine ⟨_, rfl, _, rfl, a, CT, dx, _, rfl, x6' _ _ ha, T.cl, T.nh, Nat.le_of_ble_eq_true rfl, ?_⟩
          obtain ⟨H7, hH7⟩ : ∃ H7, H7 = L2.upd H6 a (.ins CT dx (putF "house" (.ref h) [])) := ⟨_, rfl⟩
          rw [← hH7]
          have a7 : H7 a = some (.ins CT dx (putF "house" (.ref h) [])) := by rw [hH7, upd_same]
          have b7 : But H6 H7 a := by
            rw [hH7]
            exact But.upd (ext_but Ext.rfl')
          refine ⟨_, rfl, _, rfl, a, CT, dx, _, rfl, a7, T.cl, T.nl, Nat.le_of_ble_eq_true rfl, ?_⟩
          obtain ⟨H8, hH8⟩ : ∃ H8, H8 = L2.upd H7 a (.ins CT dx (putF "lying" (.ref D) (putF "house" (.ref h) []))) := ⟨_, rfl⟩
          rw [← hH8]
          have a8 : H8 a = some (.ins CT dx (putF "lying" (.ref D) (putF "house" (.ref h) []))) := by rw [hH8, upd_same]
          have b8 : But H6 H8 a := b7.trans (by
            rw [hH8]
            exact But.upd (ext_but Ext.rfl'))
          have a6 := x6' _ _ ha
          have Da : D ≠ a := fun e => by
            rw [e, x4 _ _ ha] at hD
            cases hD
          refine qN nc D H8 ((ext_but x6').trans b8) (ext_none x4 hD) ⟨dx, _, h, a8, rfl, rfl, hou_butI (hou.ext x6') b8 a6 nha, b8 _ _ Da (x6 _ _ hD5), ly, acy_of ly.ok fun c hc => nc c (cyc_fo ly.ok hc) hc, len, nd, fun m hm => ?_⟩
          unfold treM at hm
          simp at hm
          rcases hm with rfl | rfl | rfl | rfl | rfl | rfl | rfl <;> rfl
        · refine ⟨_, rfl, rfl, _, rfl, ?_⟩
          refine iteT ?_
          exact raise_at rfl Ext.rfl' fun d' H' e h1 h2 => qR d' t way H' (x4.trans (x5.trans (x6.trans e))) (ext_none (x4.trans (x5.trans x6)) h1) (st.ext e) h2 ring
end
end My

namespace My
open PySem PySem.Spec PyProof.Rows L2
/-! ### what a tree tells -/
/-- the thing is no node -/
def BadN (K : PySem.W.Frag) (ns : List Str) (y : V) (f : Str) (CN : Addr) (H : Hp) (E : XK) : Prop := NotIn K H ns y ∧ ∀ d H', Ext H H' → H d = none → H' d = some (.xd [(f, y)]) → E (.ref CN) (some d) H'
theorem BadN.ext {K : PySem.W.Frag} {ns : List Str} {y : V} {f : Str} {CN : Addr} {H H1 : Hp} {E : XK} (h : BadN K ns y f CN H E) (x : Ext H H1) : BadN K ns y f CN H1 E := ⟨h.1.ext x, fun d H' e h1 h2 => h.2 d H' (x.trans e) (ext_none x h1) h2⟩
def spTOver (K : PySem.W.Frag) (CT C CN : Addr) : Sp := fun vs H Q E => ∃ a q fo th d y, vs = [.ref a, y] ∧ TreeAt H K CT C a q fo th d ∧ ((∃ z, y = .str z ∧ z ∈ fo ++ th ∧ Q ((getD d z).getD .non) H) ∨ BadN K (fo ++ th) y "node" CN H E)
def spTAbove (K : PySem.W.Frag) (CT C CN : Addr) : Sp := fun vs H Q E => ∃ a q fo th d y, vs = [.ref a, y] ∧ TreeAt H K CT C a q fo th d ∧ ((∃ z, y = .str z ∧ z ∈ fo ++ th ∧ ∀ t H', Ext H H' → SqT K H' t ((abv d z).map V.str) → Q (.ref t) H') ∨ BadN K (fo ++ th) y "node" CN H E)
def spTLies (K : PySem.W.Frag) (CT C CN CF : Addr) : Sp := fun vs H Q E => ∃ a q fo th d x y, vs = [.ref a, x, y] ∧ TreeAt H K CT C a q fo th d ∧ (BadN K (fo ++ th) x "node" CN H E ∨
  ∃ z, x = .str z ∧ z ∈ fo ++ th ∧ ((∃ g, y = .str g ∧ g ∈ fo ∧ ∀ H', Ext H H' → Q (.bl (decide (g ∈ abv d z))) H') ∨ BadN K fo y "folder" CF H E))
def spTBelow (K : PySem.W.Frag) (CT C CF : Addr) : Sp := fun vs H Q E => ∃ a q fo th d y, vs = [.ref a, y] ∧ TreeAt H K CT C a q fo th d ∧ ((∃ g, y = .str g ∧ g ∈ fo ∧ ∀ t H', Ext H H' → SqT K H' t (((fo ++ th).filter fun z => decide (g ∈ abv d z)).map V.str) → Q (.ref t) H') ∨ BadN K fo y "folder" CF H E)
abbrev nm_Tree_over : List Str := ["self", "node"]
theorem sc_Tree_over : FnScope nm_Tree_over ["self", "node"] (defScope s_Tree_over) := ⟨rfl, rfl, rfl, by decide +kernel, rfl, by decide +kernel, by decide +kernel⟩
abbrev nm_Tree_above : List Str := ["self", "node", "folders", "folder"]
theorem sc_Tree_above : FnScope nm_Tree_above ["self", "node"] (defScope s_Tree_above) := ⟨rfl, rfl, rfl, by decide +kernel, rfl, by decide +kernel, by decide +kernel⟩
abbrev nm_Tree_below : List Str := ["self", "folder", "node"]
theorem sc_Tree_below : FnScope nm_Tree_below ["self", "folder"] (defScope s_Tree_below) := ⟨rfl, rfl, rfl, by decide +kernel, rfl, by decide +kernel, by decide +kernel⟩
abbrev nm_Tree_lies : List Str := ["self", "node", "folder", "folders"]
theorem sc_Tree_lies : FnScope nm_Tree_lies ["self", "node", "folder"] (defScope s_Tree_lies) := ⟨rfl, rfl, rfl, by decide +kernel, rfl, by decide +kernel, by decide +kernel⟩
section
variable {P : Program} {w : World} {K : PySem.W.Frag} {mg : Str → Option Value} {base : Heap} {f C CT CN CF CR CB : Addr} {fd : FuncData}
theorem dget_ly {fo th : List Str} {d : Dic} {H : Hp} {q : Addr} {z : Str} (ly : LyD fo th d) (hq : H q = some (.dK (kd d))) (hz : z ∈ fo ++ th) : DGet H q (.str z) (some ((getD d z).getD .non)) := by
  obtain ⟨v, hv⟩ := getD_some (d := d) (z := z) (by rw [ly.keys]; exact hz)
  exact .inl ⟨kd d, Sum.inr z, .inl hq, rfl, by rw [val_kd, hv]; rfl⟩
theorem ok_tOver (Fn : FunD K "over" "Tree.over" (defArgs s_Tree_over) (defBody s_Tree_over) (defScope s_Tree_over) [] [] f fd) (T : TreC K CT) (hmust_be_node : HasX P w K mg base 4 "must_be_node" ["house", "thing"] (spMustNode K C CN)) :
    FnOk P w K mg base (L2.CX P w) 5 f fd ["self", "node"] (spTOver K CT C CN) := by
  refine Fn.ok sc_Tree_over (fun vs H Q E h => ?_) (fun cdv A outer s H vs Q E hr h => ⟨_,
    (pss_cons (ps_expr (pe_hasX hmust_be_node (hr.mono (by decide)) (pa_cons (pe_fld (pv 0) rfl) (pa_cons (pv 1) pa_nil)) (passes_call (takes_of rfl rfl rfl rfl) (fun _ _ _ _ h => h))))
      (pss_one (ps_ret (pe_dget (hu_of hr) (pe_fld (pv 0) rfl) (pv 1) (fun _ _ => rfl))))), ?_⟩)
  · obtain ⟨a, q, fo, th, d, y, rfl, _⟩ := h
    rfl
  · obtain ⟨a, q, fo, th, d, y, rfl, tr, hh⟩ := h
    obtain ⟨dx, fs, ho, h1, h2, h3, h4, h5, h6, h7⟩ := id tr
    refine ⟨_, rfl, a, CT, dx, fs, _, rfl, h1, T.cl, T.nh, h2, ?_⟩
    refine ⟨_, rfl, ho, y, fo, th, rfl, h4, ?_⟩
    rcases hh with ⟨z, rfl, hz, q'⟩ | bad
    · exact .inl ⟨z, rfl, hz, _, rfl, a, CT, dx, fs, _, rfl, h1, T.cl, T.nl, h3, _, rfl, q, _, rfl, dget_ly h6 h5 hz, q'⟩
    · exact .inr bad
theorem ok_tAbove (Fn : FunD K "above" "Tree.above" (defArgs s_Tree_above) (defBody s_Tree_above) (defScope s_Tree_above) [] [] f fd) (T : TreC K CT) {fO : Addr} {fdO : FuncData} (tmV : Meth K CT "over" fO) (tV : FnOk P w K mg base (L2.CX P w) 5 fO fdO ["self", "node"] (spTOver K CT C CN)) (tbV : Binds K fdO ["self", "node"] []) (gB_tuple : mg "tuple" = none) :
    FnOk P w K mg base (L2.CX P w) 6 f fd ["self", "node"] (spTAbove K CT C CN) := by
  refine Fn.ok sc_Tree_above (fun vs H Q E h => ?_) (fun cdv A outer s H vs Q E hr h => ⟨_,
    (pss_cons (ps_set (i := 2) sc_Tree_above.nd rfl (Or.inl rfl) (pe_lst pa_nil))
      (pss_cons (ps_set (i := 3) sc_Tree_above.nd rfl (Or.inl rfl) (pe_meth (pv 0) T.cl tmV tV (hr.mono (by decide)) tbV .nil (passes_call (takes_of rfl rfl rfl rfl) (fun _ _ _ _ h => h)) (pa_cons (pv 1) pa_nil)))
      (pss_cons (ps_while (passes_of rfl) (pt_cmpR op_notN (pv 3) pe_non (nomark _)) (pss_cons (ps_expr (pe_bm PySem.F.plainAttrs_list PySem.F.slot_list_append PySem.F.type_list_append mt_append (pv 2) (pa_cons (pv 3) pa_nil)))
      (pss_one (ps_set (i := 3) sc_Tree_above.nd rfl (Or.inl rfl) (pe_dget (hu_of hr) (pe_fld (pv 0) rfl) (pv 3) (fun _ _ => rfl))))))
      (pss_one (ps_ret (pe_callTy call_tup (by rfl) gB_tuple (by decide +kernel) (pa_cons (pv 2) pa_nil))))))), ?_⟩)
  · obtain ⟨a, q, fo, th, d, y, rfl, _⟩ := h
    rfl
  · obtain ⟨a, q, fo, th, d, y, rfl, tr, hh⟩ := h
    obtain ⟨dx, fs, ho, h1, h2, h3, h4, h5, h7b⟩ := id tr
    obtain ⟨ly, acy, len, nd, meth⟩ := h7b
    refine ⟨Nat.zero_le _, fun l hl => ?_⟩
    have xl := Ext.upd (o := .lst []) hl
    refine ⟨_, rfl, a, dx, fs, rfl, xl _ _ h1, meth _ (by decide), _, rfl, a, q, fo, th, d, y, rfl, tr.ext xl, ?_⟩
    rcases hh with ⟨z, rfl, hz, q'⟩ | bad
    · refine .inl ⟨z, rfl, hz, ?_⟩
      refine ⟨fun m σ H' => ∃ k acc v, m = d.length - k ∧ k ≤ d.length ∧ σ = [some (.ref a), some (.str z), some (.ref l), some v] ∧ Ext H H' ∧ H' l = some (.lst (acc.map V.str)) ∧ acc.length ≤ k ∧ v = itV d k ((getD d z).getD .non) ∧ acc ++ abN d (d.length - k) v = abv d z, ⟨_, 0, [], _, rfl, Nat.zero_le _, rfl, xl, upd_same, Nat.zero_le _, rfl, rfl⟩, ?_⟩
      rintro m σ H2 ⟨k, acc, v, rfl, hk, rfl, x2, l2, al, hv, e⟩
      refine ⟨_, rfl, rfl, _, rfl, ?_⟩
      have ov : v = .non ∨ ∃ y, y ∈ fo ∧ v = .str y := by
        rw [hv]
        exact it_opt ly.ok k _ (getD_opt ly.ok z)
      have dl : d.length ≤ 1000 := by
        rw [← List.length_map (f := (·.1)), ly.keys]
        exact len
      rcases ov with rfl | ⟨g, hg, rfl⟩
      · refine iteF ?_
        have : ∀ n, abN d n .non = [] := fun n => by cases n <;> rfl
        rw [this, List.append_nil] at e
        rw [e] at l2
        exact ⟨_, rfl, l, _, rfl, .inl (SqL.of l2), fun t H3 x3 st => q' t H3 (x2.trans x3) st⟩
      · refine iteT ?_
        have kl : k < d.length := by
          rcases Nat.lt_or_ge k d.length with l | g
          · exact l
          · have e1 : itV d k ((getD d z).getD .non) = .non := it_stay (show itV d d.length ((getD d z).getD .non) = .non from acy_end ly.ok acy z) g
            rw [e1] at hv
            cases hv
        have e9 : d.length - k = (d.length - (k + 1)) + 1 := by omega
        rw [e9] at e
        refine ⟨_, fun σ' H' hN => ⟨d.length - (k + 1), by omega, hN⟩, ?_⟩
        refine ⟨_, rfl, .inl ⟨rfl, _, .inl (.inl l2)⟩, _, rfl, l, _, _, rfl, rfl, l2, by rw [List.length_map, sizeLine_eq]; omega, ?_⟩
        have x3 := x2.over (o := .lst (acc.map V.str ++ [.str g])) hl
        refine ⟨_, rfl, a, CT, dx, fs, _, rfl, x3 _ _ h1, T.cl, T.nl, h3, _, rfl, q, _, rfl, dget_ly ly (x3 _ _ h5) (List.mem_append_left _ hg), ?_⟩
        refine ⟨k + 1, acc ++ [g], _, rfl, kl, rfl, x3, by rw [upd_same, List.map_append]; rfl, by rw [List.length_append]; exact Nat.succ_le_succ al, ?_, ?_⟩
        · rw [it_succ, ← hv]
          rfl
        · rw [List.append_assoc]
          exact e
    · exact .inr (bad.ext xl)
theorem ok_tBelow (Fn : FunD K "below" "Tree.below" (defArgs s_Tree_below) (defBody s_Tree_below) (defScope s_Tree_below) [] [] f fd) (T : TreC K CT) (Z : HouseTxt P w K mg C CB) {fA : Addr} {fdA : FuncData} (tmA : Meth K CT "above" fA) (tA : FnOk P w K mg base (L2.CX P w) 6 fA fdA ["self", "node"] (spTAbove K CT C CN)) (tbA : Binds K fdA ["self", "node"] []) (hmust_be_folder : HasX P w K mg base 4 "must_be_folder" ["house", "thing"] (spMustFolder K C CF)) (gB_tuple : mg "tuple" = none) :
    FnOk P w K mg base (L2.CX P w) 7 f fd ["self", "folder"] (spTBelow K CT C CF) := by
  refine Fn.ok sc_Tree_below (fun vs H Q E h => ?_) (fun cdv A outer s H vs Q E hr h => ⟨_,
    (pss_cons (ps_expr (pe_hasX hmust_be_folder (hr.mono (by decide)) (pa_cons (pe_fld (pv 0) rfl) (pa_cons (pv 1) pa_nil)) (passes_call (takes_of rfl rfl rfl rfl) (fun _ _ _ _ h => h))))
      (pss_one (ps_ret (pe_callTy call_tup (by rfl) gB_tuple (by decide +kernel) (pa_cons (pe_lc (own := [("node", 2)]) (g := (gName 2)) rfl sc_Tree_below.nd (pi_tup (pe_fld (pe_fld (pv 0) rfl) rfl)) (blkOk_by (N := nm_Tree_below) (sc := defScope s_Tree_below) (by decide +kernel)) (fun _ _ _ _ _ => (pg_name (i := 2) sc_Tree_below.nd rfl (Or.inl rfl))) (fun _ _ _ _ _ => pts_one (pt_cmpR (opK (r := fun K => rIn K false) (K := K) rfl op_in_seq) (pv 1) (pe_meth (pv 0) T.cl tmA tA (hr.mono (by decide)) tbA .nil passL (pa_cons (pv 2) pa_nil)) (by rfl))) (fun _ _ _ _ _ => (pv 2))) pa_nil))))), ?_⟩)
  · obtain ⟨a, q, fo, th, d, y, rfl, _⟩ := h
    rfl
  · obtain ⟨a, q, fo, th, d, y, rfl, tr, hh⟩ := h
    obtain ⟨dx, fs, ho, h1, h2, h3, h4, h5, h7b⟩ := id tr
    obtain ⟨ly, acy, len, nd, meth⟩ := h7b
    refine ⟨_, rfl, a, CT, dx, fs, _, rfl, h1, T.cl, T.nh, h2, ?_⟩
    refine ⟨_, rfl, ho, y, fo, th, rfl, h4, ?_⟩
    rcases hh with ⟨g, rfl, hg, q'⟩ | bad
    · refine .inl ⟨g, rfl, hg, ?_⟩
      obtain ⟨⟨dh, hf, fa, ta, na, k1, k2, k3, k4, k5, k6, k7⟩, hok⟩ := id h4
      have e7 : fo.map V.str ++ th.map V.str = (fo ++ th).map V.str := (List.map_append ..).symm
      rw [e7] at k7
      refine ⟨_, rfl, a, CT, dx, fs, _, rfl, h1, T.cl, T.nh, h2, ho, C, dh, hf, _, rfl, k1, Z.T.cl, Z.T.nn, k4, na, rfl, ⟨_, k7⟩, fun D hD => ?_⟩
      refine lc_tup (K := K) (a := na) (xs := (fo ++ th).map V.str) (fun k H' => Ext H H' ∧ H' D = some (.lst ((((fo ++ th).take k).filter fun z => decide (g ∈ abv d z)).map V.str))) ⟨Ext.upd hD, upd_same⟩ (fun k H' _ z => k7.ext z.1) ?_ ?_
      · rintro k v H4 hv ⟨x4, d4⟩
        obtain ⟨z, hz, rfl⟩ := strs_at hv
        have tk : (fo ++ th).take (k + 1) = (fo ++ th).take k ++ [z] := by
          rw [List.take_add_one, hz]
          rfl
        rw [tk]
        refine ⟨rfl, ?_⟩
        refine ⟨_, rfl, _, rfl, a, dx, fs, rfl, x4 _ _ h1, meth _ (by decide), _, rfl, a, q, fo, th, d, _, rfl, tr.ext x4, .inl ⟨z, rfl, List.mem_of_getElem? hz, fun t H5 x5 st => ?_⟩⟩
        refine ⟨t, _, rfl, .inr st, rfl, flat_strs _, _, rfl, ?_⟩
        rw [inV_str]
        have d5 := x5 _ _ d4
        have cc : ∀ {b : Bool}, (if false = true then !b else b) = true → b = true := fun h => h
        refine ite2 (fun c => ?_) fun c => ?_
        · refine ⟨_, rfl, _, d5, ?_, (x4.trans x5).over hD, ?_⟩
          · rw [List.length_map]
            refine Nat.lt_of_le_of_lt (List.length_filter_le _ _) ?_
            rw [List.length_take, sizeLine_eq]
            omega
          · rw [upd_same, List.filter_append, List.filter_cons, if_pos (cc c), List.map_append]
            rfl
        · refine ⟨x4.trans x5, ?_⟩
          rw [d5, List.filter_append, List.filter_cons, if_neg (show ¬ decide (g ∈ abv d z) = true from c), List.filter_nil, List.append_nil]
      · rintro H5 ⟨x5, d5⟩
        rw [List.length_map, List.take_length] at d5
        exact ⟨_, _, rfl, .inl (SqL.of d5), fun t H6 x6 st => q' t H6 (x5.trans x6) st⟩
    · exact .inr bad
theorem ok_tLies (Fn : FunD K "lies" "Tree.lies" (defArgs s_Tree_lies) (defBody s_Tree_lies) (defScope s_Tree_lies) [] [] f fd) (T : TreC K CT) {fA : Addr} {fdA : FuncData} (tmA : Meth K CT "above" fA) (tA : FnOk P w K mg base (L2.CX P w) 6 fA fdA ["self", "node"] (spTAbove K CT C CN)) (tbA : Binds K fdA ["self", "node"] []) (hmust_be_folder : HasX P w K mg base 4 "must_be_folder" ["house", "thing"] (spMustFolder K C CF)) :
    FnOk P w K mg base (L2.CX P w) 7 f fd ["self", "node", "folder"] (spTLies K CT C CN CF) := by
  refine Fn.ok sc_Tree_lies (fun vs H Q E h => ?_) (fun cdv A outer s H vs Q E hr h => ⟨_,
    (pss_cons (ps_set (i := 3) sc_Tree_lies.nd rfl (Or.inl rfl) (pe_meth (pv 0) T.cl tmA tA (hr.mono (by decide)) tbA .nil (passes_call (takes_of rfl rfl rfl rfl) (fun _ _ _ _ h => h)) (pa_cons (pv 1) pa_nil)))
      (pss_cons (ps_expr (pe_hasX hmust_be_folder (hr.mono (by decide)) (pa_cons (pe_fld (pv 0) rfl) (pa_cons (pv 2) pa_nil)) (passes_call (takes_of rfl rfl rfl rfl) (fun _ _ _ _ h => h))))
      (pss_one (ps_ret (pe_cmpR op_in_seq (pv 2) (pv 3) (by rfl)))))), ?_⟩)
  · obtain ⟨a, q, fo, th, d, x, y, rfl, _⟩ := h
    rfl
  · obtain ⟨a, q, fo, th, d, x, y, rfl, tr, hh⟩ := h
    obtain ⟨dx, fs, ho, h1, h2, h3, h4, h5, h7b⟩ := id tr
    obtain ⟨ly, acy, len, nd, meth⟩ := h7b
    refine ⟨_, rfl, a, dx, fs, rfl, h1, meth _ (by decide), _, rfl, a, q, fo, th, d, x, rfl, tr, ?_⟩
    rcases hh with bad | ⟨z, rfl, hz, hh⟩
    · exact .inr bad
    refine .inl ⟨z, rfl, hz, fun t H1 x1 st => ?_⟩
    refine ⟨_, rfl, a, CT, dx, fs, _, rfl, x1 _ _ h1, T.cl, T.nh, h2, ?_⟩
    refine ⟨_, rfl, ho, y, fo, th, rfl, h4.ext x1, ?_⟩
    rcases hh with ⟨g, rfl, hg, q'⟩ | bad
    · refine .inl ⟨g, rfl, hg, ?_⟩
      refine ⟨_, rfl, _, rfl, t, _, rfl, .inr st, rfl, flat_strs _, ?_⟩
      show Q (.bl (inV _ _)) _
      rw [inV_str]
      exact q' H1 x1
    · exact .inr (bad.ext x1)
end
end My

namespace My
open PySem PySem.Spec PyProof.Rows L2
/-! ### a tree moved, trees compared -/
/-- what lies over the nodes of ns but z -/
def mvN (d : Dic) (z : Str) (ns : List Str) : Dic := (ns.filter fun w => !decide (w = z) && !decide ((getD d w).getD .non = .non)).map fun w => (w, (getD d w).getD .non)
theorem mvN_keys (d : Dic) (z : Str) (ns : List Str) : (mvN d z ns).map (·.1) = ns.filter fun w => !decide (w = z) && !decide ((getD d w).getD .non = .non) := by
  unfold mvN
  rw [List.map_map]
  conv => rhs; rw [← List.map_id (ns.filter _)]
  rfl
theorem mvN_key {d : Dic} {z w : Str} {ns : List Str} (h : w ∈ (mvN d z ns).map (·.1)) : w ∈ ns ∧ w ≠ z ∧ (getD d w).getD .non ≠ .non := by
  rw [mvN_keys] at h
  obtain ⟨h1, h2⟩ := List.mem_filter.mp h
  refine ⟨h1, fun e => ?_, fun e => ?_⟩
  · rw [decide_eq_true e] at h2
    cases h2
  · rw [decide_eq_true e] at h2
    simp at h2
theorem mvN_snoc (d : Dic) (z w : Str) (ns : List Str) : mvN d z (ns ++ [w]) = mvN d z ns ++ if (!decide (w = z) && !decide ((getD d w).getD .non = .non)) = true then [(w, (getD d w).getD .non)] else [] := by
  unfold mvN
  rw [List.filter_append, List.map_append]
  by_cases c : (!decide (w = z) && !decide ((getD d w).getD .non = .non)) = true
  · rw [List.filter_cons, if_pos c, if_pos c]
    rfl
  · rw [List.filter_cons, if_neg c, if_neg c]
    rfl
theorem getD_none {d : Dic} {z : Str} (h : z ∉ d.map (·.1)) : getD d z = none := by
  induction d with
  | nil => rfl
  | cons p d ih =>
    rw [List.map_cons] at h
    rw [getD_cons, if_neg fun e => h (by rw [← e]; exact List.mem_cons_self)]
    exact ih fun m => h (List.mem_cons_of_mem _ m)
theorem getD_app (d e : Dic) (z : Str) : getD (d ++ e) z = (getD d z).or (getD e z) := by
  unfold getD
  rw [List.find?_append, Option.map_or]
theorem getD_mv {d : Dic} {z w : Str} : ∀ {ns : List Str}, w ∈ ns → w ≠ z → (getD (mvN d z ns) w).getD .non = (getD d w).getD .non
  | y :: ns, h, ne => by
    have e : mvN d z (y :: ns) = (if (!decide (y = z) && !decide ((getD d y).getD .non = .non)) = true then [(y, (getD d y).getD .non)] else []) ++ mvN d z ns := by
      unfold mvN
      rw [List.filter_cons]
      split <;> rfl
    rw [e, getD_app]
    by_cases c : y = w
    · subst c
      by_cases c2 : (getD d y).getD .non = .non
      · rw [if_neg (by rw [decide_eq_true c2]; simp)]
        rw [getD_none (fun m => (mvN_key m).2.2 c2), c2]
        rfl
      · rw [if_pos (by rw [decide_eq_false c2, decide_eq_false ne]; rfl), getD_cons, if_pos rfl]
        rfl
    · have hw : w ∈ ns := (List.mem_cons.mp h).resolve_left fun e => c e.symm
      have : getD (if (!decide (y = z) && !decide ((getD d y).getD .non = .non)) = true then [(y, (getD d y).getD .non)] else []) w = none := by
        split
        · rw [getD_cons, if_neg c]
          rfl
        · rfl
      rw [this]
      exact getD_mv hw ne
/-- the moved tree, by its table -/
theorem ly_mv {fo th : List Str} {d : Dic} {z : Str} {v : V} (ly : LyD fo th d) (nd : (fo ++ th).Nodup) (hz : z ∈ fo ++ th) (o : Dic) (ho : (v = .non ∧ o = mvN d z (fo ++ th)) ∨ o = mvN d z (fo ++ th) ++ [(z, v)]) : lyD (fo ++ th) o = setD d z v := by
  refine dic_ext ?_ ?_ fun w hw => ?_
  · rw [ly_keys, set_keys (by rw [ly.keys]; exact hz), ly.keys]
  · rw [ly_keys]
    exact nd
  · rw [ly_keys] at hw
    rw [ly_get hw, getD_set]
    have nz : z ∉ (mvN d z (fo ++ th)).map (·.1) := fun m => (mvN_key m).2.1 rfl
    by_cases c : w = z
    · subst c
      rw [if_pos rfl]
      rcases ho with ⟨rfl, rfl⟩ | rfl
      · rw [getD_none nz]
        rfl
      · rw [getD_app, getD_none nz, getD_cons, if_pos rfl]
        rfl
    · rw [if_neg c]
      obtain ⟨x, hx⟩ := getD_some (d := d) (z := w) (by rw [ly.keys]; exact hw)
      have e : (getD (mvN d z (fo ++ th)) w).getD .non = x := by
        rw [getD_mv hw c, hx]
        rfl
      rw [hx]
      rcases ho with ⟨_, rfl⟩ | rfl
      · rw [e]
      · rw [getD_app, getD_cons, if_neg fun e => c e.symm]
        show some (((getD (mvN d z (fo ++ th)) w).or none).getD .non) = _
        rw [Option.or_none, e]
theorem mv_vals {fo : List Str} {d : Dic} {z : Str} {ns : List Str} (ok : DicOk fo d) {v : V} (h : v ∈ (mvN d z ns).map (·.2)) : ∃ s, v = .str s ∧ s ∈ fo := by
  obtain ⟨p, hp, rfl⟩ := List.mem_map.mp h
  have k := mvN_key (d := d) (z := z) (ns := ns) (List.mem_map.mpr ⟨p, hp, rfl⟩)
  unfold mvN at hp
  obtain ⟨w, _, rfl⟩ := List.mem_map.mp hp
  rcases getD_opt ok w with e | ⟨s, hs, e⟩
  · exact absurd e k.2.2
  · exact ⟨s, e, hs⟩
def spTMoved (K : PySem.W.Frag) (CT C CN CF CR : Addr) : Sp := fun vs H Q E => ∃ a q fo th d x y, vs = [.ref a, x, y] ∧ TreeAt H K CT C a q fo th d ∧ (BadN K (fo ++ th) x "node" CN H E ∨ ∃ z, x = .str z ∧ z ∈ fo ++ th ∧
  ((y ≠ .non ∧ BadN K fo y "folder" CF H E) ∨ (Opt fo y ∧ (Acy (setD d z y) → ∀ t q' H', Ext H H' → H t = none → H q' = none → TreeAt H' K CT C t q' fo th (setD d z y) → Q (.ref t) H') ∧
    ∀ d' t way H', Ext H H' → H d' = none → SqT K H' t (way.map V.str) → H' d' = some (.xd [("folders", .ref t)]) → RingOk fo (setD d z y) way → E (.ref CR) (some d') H')))
abbrev nm_Tree_moved : List Str := ["self", "node", "folder", "over", "one"]
theorem sc_Tree_moved : FnScope nm_Tree_moved ["self", "node", "folder"] (defScope s_Tree_moved) := ⟨rfl, rfl, rfl, by decide +kernel, rfl, by decide +kernel, by decide +kernel⟩
section
variable {P : Program} {w : World} {K : PySem.W.Frag} {mg : Str → Option Value} {base : Heap} {f C CT CN CF CR CB : Addr} {fd : FuncData}
theorem ok_tMoved (Fn : FunD K "moved" "Tree.moved" (defArgs s_Tree_moved) (defBody s_Tree_moved) (defScope s_Tree_moved) [] [] f fd) (T : TreC K CT) (Z : HouseTxt P w K mg C CB) (hmust_be_node : HasX P w K mg base 4 "must_be_node" ["house", "thing"] (spMustNode K C CN))
    {fI : Addr} {fdI : FuncData} (tMk : Mk K CT fI) (tI : FnOk P w K mg base (L2.CX P w) 6 fI fdI ["self", "house", "over"] (spTInit K CT C CF CR)) (tbI : Binds K fdI ["self", "house", "over"] []) (tG : mg "Tree" = some (.ref CT)) :
    FnOk P w K mg base (L2.CX P w) 8 f fd ["self", "node", "folder"] (spTMoved K CT C CN CF CR) := by
  refine Fn.ok sc_Tree_moved (fun vs H Q E h => ?_) (fun cdv A outer s H vs Q E hr h => ⟨_,
    (pss_cons (ps_expr (pe_hasX hmust_be_node (hr.mono (by decide)) (pa_cons (pe_fld (pv 0) rfl) (pa_cons (pv 1) pa_nil)) (passes_call (takes_of rfl rfl rfl rfl) (fun _ _ _ _ h => h))))
      (pss_cons (ps_setDc (i := 3) (own := [("one", 4)]) (g := (gName 4)) rfl sc_Tree_moved.nd rfl rfl (sw_trueD rfl rfl rfl (by decide +kernel)) (pi_tup (pe_fld (pe_fld (pv 0) rfl) rfl)) (blkOk_by (N := nm_Tree_moved) (sc := defScope s_Tree_moved) (by decide +kernel)) (fun _ _ _ _ _ => (pg_name (i := 4) sc_Tree_moved.nd rfl (Or.inl rfl))) (fun _ _ _ _ _ => pts_one (PW.pt (pw_and (pt_cmpR op_ne (pv 4) (pv 1) (nomark _)) (pw_and1 (pt_cmpR op_notN (pe_dget (hu_of hr) (peK (r := fun K => tFld K (tVar 0) "lying") (K := K) rfl (pe_fld (pv 0) rfl)) (pv 4) (fun _ _ => rfl)) pe_non (nomark _)))))) (fun _ _ _ _ _ => (pv 4)) (fun _ _ _ _ _ => (pe_dget (hu_of hr) (peK (r := fun K => tFld K (tVar 0) "lying") (K := K) rfl (pe_fld (pv 0) rfl)) (pv 4) (fun _ _ => rfl))))
      (C8.pss_cut (ps_if (pt_cmpR op_notN (pv 2) pe_non (nomark _)) (pss_one (ps_dput (hu_of hr) (pv 3) (pv 1) (pv 2) rfl)) pss_nil)
      (pss_one (ps_ret (pe_make tMk tI (hr.mono (by decide)) (by rfl) tG tbI .nil (passes_call (takes_of rfl rfl rfl rfl) (fun _ _ _ _ h => h)) (pa_cons (pe_fld (pv 0) rfl) (pa_cons (pv 3) pa_nil)))))))), ?_⟩)
  · obtain ⟨a, q, fo, th, d, x, y, rfl, _⟩ := h
    rfl
  · obtain ⟨a, q, fo, th, d, x, y, rfl, tr, hh⟩ := h
    obtain ⟨dx, fs, ho, h1, h2, h3, h4, h5, ly, acy, len, nd, meth⟩ := id tr
    refine ⟨_, rfl, a, CT, dx, fs, _, rfl, h1, T.cl, T.nh, h2, ?_⟩
    refine ⟨_, rfl, ho, x, fo, th, rfl, h4, ?_⟩
    rcases hh with bad | ⟨z, rfl, hz, hh⟩
    · exact .inr bad
    refine .inl ⟨z, rfl, hz, ?_⟩
    obtain ⟨⟨dh, hf, fa, ta, na, k1, k2, k3, k4, k5, k6, k7⟩, hok⟩ := id h4
    have e7 : fo.map V.str ++ th.map V.str = (fo ++ th).map V.str := (List.map_append ..).symm
    rw [e7] at k7
    have lenS : (fo ++ th).length < sizeLine := by rw [sizeLine_eq]; omega
    refine ⟨_, rfl, a, CT, dx, fs, _, rfl, h1, T.cl, T.nh, h2, ho, C, dh, hf, _, rfl, k1, Z.T.cl, Z.T.nn, k4, na, rfl, ⟨_, k7⟩, fun D hD => ?_⟩
    have mlen : ∀ k, (mvN d z ((fo ++ th).take k)).length < sizeLine := fun k => by
      unfold mvN
      rw [List.length_map]
      refine Nat.lt_of_le_of_lt (List.length_filter_le _ _) ?_
      rw [List.length_take]
      omega
    refine dc_tup (K := K) (a := na) (xs := (fo ++ th).map V.str) (fun i H' => Ext H H' ∧ H' D = some (.dK (kd (mvN d z ((fo ++ th).take i))))) ⟨Ext.upd hD, upd_same⟩ (fun i H' _ p => k7.ext p.1) ?_ ?_
    · rintro i v H4 hv ⟨x4, d4⟩
      obtain ⟨w, hw, rfl⟩ := strs_at hv
      have tk : (fo ++ th).take (i + 1) = (fo ++ th).take i ++ [w] := by
        rw [List.take_add_one, hw]
        rfl
      have mw := List.mem_of_getElem? hw
      have wi : i < (fo ++ th).length := (List.getElem?_eq_some_iff.mp hw).1
      have nw : w ∉ (mvN d z ((fo ++ th).take i)).map (·.1) := fun m => by
        have m := (mvN_key m).1
        obtain ⟨j, hj⟩ := List.mem_iff_getElem?.mp m
        have jl := (List.getElem?_eq_some_iff.mp hj).1
        rw [List.length_take] at jl
        rw [List.getElem?_take_of_lt (by omega)] at hj
        have := (List.getElem?_inj (by omega) nd).mp (hj.trans hw.symm)
        omega
      have gw : ∀ {H' : Hp}, Ext H H' → DGet H' q (.str w) (some ((getD d w).getD .non)) := fun e => dget_ly ly (e _ _ h5) mw
      rw [tk, mvN_snoc]
      refine ⟨rfl, ?_⟩
      have ee : decide (V.str w = V.str z) = decide (w = z) := by
        by_cases e : w = z
        · rw [e, decide_eq_true rfl, decide_eq_true rfl]
        · rw [decide_eq_false e, decide_eq_false fun h => e (by injection h)]
      refine ⟨_, rfl, _, rfl, rfl, _, rfl, ?_⟩
      rw [ee]
      refine ite2 (fun c => ?_) fun c => ?_
      · rw [c, Bool.true_and]
        refine ⟨_, rfl, a, CT, dx, fs, _, rfl, x4 _ _ h1, T.cl, T.nl, h3, _, rfl, q, _, rfl, gw x4, rfl, _, rfl, ?_⟩
        refine ite2 (fun c2 => ?_) fun c2 => ?_
        · rw [if_pos c2]
          refine ⟨_, rfl, _, rfl, a, CT, dx, fs, _, rfl, x4 _ _ h1, T.cl, T.nl, h3, _, rfl, q, _, rfl, gw x4, ?_⟩
          refine ⟨_, Sum.inr w, rfl, d4, by rw [kd_len]; exact mlen i, x4.over hD, ?_⟩
          rw [upd_same, put_kd, set_new nw]
        · rw [if_neg c2, List.append_nil]
          exact ⟨x4, d4⟩
      · have c3 : (!decide (w = z)) = false := by
          cases h : !decide (w = z)
          · rfl
          · exact absurd h c
        rw [c3, Bool.false_and]
        refine iteF ?_
        rw [if_neg (by decide), List.append_nil]
        exact ⟨x4, d4⟩
    rintro H5 ⟨x5, d5⟩
    rw [List.length_map, List.take_length] at d5
    have ml := mlen (fo ++ th).length
    rw [List.take_length] at ml
    have nz : z ∉ (mvN d z (fo ++ th)).map (·.1) := fun m => (mvN_key m).2.1 rfl
    refine ⟨fun σ H' => σ = [some (.ref a), some (.str z), some y, some (.ref D), none] ∧ Ext H H' ∧ ∃ o, H' D = some (.dK (kd o)) ∧ ((y = .non ∧ o = mvN d z (fo ++ th)) ∨ (y ≠ .non ∧ o = mvN d z (fo ++ th) ++ [(z, y)])), ?_, ?_⟩
    · refine ⟨_, rfl, rfl, _, rfl, ?_⟩
      refine ite2 (fun c => ?_) fun c => ?_
      · have yn : y ≠ .non := fun e => by
          rw [decide_eq_true e] at c
          cases c
        refine ⟨_, rfl, _, rfl, _, rfl, D, _, rfl, .inl ⟨_, Sum.inr z, d5, rfl, by rw [kd_len]; exact ml, rfl⟩, rfl, x5.over hD, _, by rw [upd_same, put_kd], .inr ⟨yn, set_new nz⟩⟩
      · have yn : y = .non := by
          by_cases e : y = .non
          · exact e
          · rw [decide_eq_false e] at c
            exact absurd rfl c
        exact ⟨rfl, x5, _, d5, .inl ⟨yn, rfl⟩⟩
    · rintro σ H6 ⟨rfl, x6, o, d6, oo⟩
      refine ⟨_, rfl, a, CT, dx, fs, _, rfl, x6 _ _ h1, T.cl, T.nh, h2, _, rfl, fun t dt ht hdt ne => ?_⟩
      obtain ⟨HX, hHX⟩ : ∃ HX, HX = L2.upd (L2.upd H6 dt (.own t)) t (.ins CT dt []) := ⟨_, rfl⟩
      rw [← hHX]
      have xX : Ext H6 HX := fun c u k => by
        rw [hHX, upd_ne (ne_of_none k ht), upd_ne (ne_of_none k hdt)]
        exact k
      have tX : HX t = some (.ins CT dt []) := by rw [hHX, upd_same]
      have dX := xX _ _ d6
      have ht0 := ext_none x6 ht
      have keys : ∀ w, w ∈ o.map (·.1) → w ∈ fo ++ th := fun w hw => by
        rcases oo with ⟨_, rfl⟩ | ⟨_, rfl⟩
        · exact (mvN_key hw).1
        · rw [List.map_append] at hw
          rcases List.mem_append.mp hw with hw | hw
          · exact (mvN_key hw).1
          · rw [List.mem_singleton.mp hw]
            exact hz
      refine ⟨t, dt, ho, D, fo, th, o, rfl, tX, ?_, h4.ext (x6.trans xX), len, nd, dX, keys, ?_⟩
      · obtain ⟨_, _, hi⟩ := h4.ins
        exact ne_of_none hi ht0
      have xlk : ∀ od, Ext H (L2.upd HX D (.frz od (.dK (kd o)))) := fun od => (x6.trans xX).over hD
      rcases hh with ⟨yn, nin, qE⟩ | ⟨oy, qN, qR⟩
      · refine .inl ⟨(mvN d z (fo ++ th)).length, y, ?_, ?_, fun od => nin.ext (xlk od), fun d' H' od e h h' => qE d' H' ((xlk od).trans e) (ext_none (x6.trans xX) h) h'⟩
        · rcases oo with ⟨e, _⟩ | ⟨_, rfl⟩
          · exact absurd e yn
          · rw [List.map_append, List.getElem?_append_right (by rw [List.length_map]; exact Nat.le_refl _), List.length_map, Nat.sub_self]
            rfl
        · intro j v hj hv
          rcases oo with ⟨e, _⟩ | ⟨_, rfl⟩
          · exact absurd e yn
          · rw [List.map_append, List.getElem?_append_left (by rw [List.length_map]; exact hj)] at hv
            exact mv_vals ly.ok (List.mem_of_getElem? hv)
      · have e9 : lyD (fo ++ th) o = setD d z y := ly_mv ly nd hz o (oo.elim (fun h => .inl h) fun h => .inr h.2)
        rw [e9]
        refine .inr ⟨fun v hv => ?_, fun nc q' H7 b tr7 hq' => ?_, fun d' t' way H' e h st h' ring => qR d' t' way H' ((x6.trans xX).trans e) (ext_none (x6.trans xX) h) st h' ring⟩
        · rcases oo with ⟨_, rfl⟩ | ⟨yn, rfl⟩
          · exact mv_vals ly.ok hv
          · rw [List.map_append] at hv
            rcases List.mem_append.mp hv with hv | hv
            · exact mv_vals ly.ok hv
            · rw [List.mem_singleton.mp hv]
              rcases oy with rfl | ⟨s, hs, rfl⟩
              · exact absurd rfl yn
              · exact ⟨s, rfl, hs⟩
        · refine ⟨rfl, qN (acy_of (set_ok ly.ok oy) fun c hc => nc c (cyc_fo (set_ok ly.ok oy) hc) hc) t q' H7 ?_ ht0 (ext_none (x6.trans xX) tr7) hq'⟩
          exact fun c u k => b c u (ne_of_none k ht0) ((x6.trans xX) c u k)
end
end My

namespace L2
open PySem PySem.Spec PyProof.Rows
/-! two dicts with flat values compared, whatever comes of it -/
def eqDV (ks ls : List (Key × V)) : Bool := (ks.length == ls.length) && ks.all fun p => match valV ls p.1 with
  | none => false
  | some v => eqV p.2 v
theorem hits_any {A : Around} {s : Shared} {kvs : List (Key × V)} {vb : List (Key × Value)} (rb : KV kvs vb) {ks : List (Key × V)} {va : List (Key × Value)} (ra : KV ks va) :
    (∀ p ∈ ks, flatV p.2 = true) → (∀ k v, valV kvs k = some v → flatV v = true) → PySem.W.KeqHits A s vb va (ks.all fun p => match valV kvs p.1 with
      | none => false
      | some v => eqV p.2 v) := by
  unfold KV at ra
  induction ra with
  | nil => intro _ _; exact .nil
  | @cons p q ps qs h t ih =>
    intro hp hl
    obtain ⟨h1, h2⟩ := h
    have f := hp p List.mem_cons_self
    have rr : RelO (valV kvs p.1) (valueAt vb p.1) := rb.val p.1
    obtain ⟨k, v⟩ := q
    have h1' : p.1 = k := h1
    rw [List.all_cons]
    cases e : valV kvs p.1 with
    | none =>
      rw [e] at rr
      refine .miss ?_
      rw [← h1']
      cases c : valueAt vb p.1 with
      | none => rfl
      | some y => rw [c] at rr; exact rr.elim
    | some v' =>
      rw [e] at rr
      obtain ⟨y, hy, ry⟩ := rr.some_of
      rw [h1'] at hy
      exact .hit hy (eqAt_V h2 ry f (hl _ _ e)) (ih (fun p' hm => hp p' (List.mem_cons_of_mem _ hm)) hl)
section
variable {X : Cx}
def rEqDF : R2 := fun x y H Q => ∃ a b ks ls, x = .ref a ∧ y = .ref b ∧ H a = some (.dK ks) ∧ H b = some (.dK ls) ∧ (∀ p ∈ ks, flatV p.2 = true) ∧ (∀ k v, valV ls k = some v → flatV v = true) ∧ Q (.bl (eqDV ks ls)) H
def rNeDF : R2 := fun x y H Q => ∃ a b ks ls, x = .ref a ∧ y = .ref b ∧ H a = some (.dK ks) ∧ H b = some (.dK ls) ∧ (∀ p ∈ ks, flatV p.2 = true) ∧ (∀ k v, valV ls k = some v → flatV v = true) ∧ Q (.bl (!eqDV ks ls)) H
theorem op_eq_dictF (hu : X.A.units < cLine) : OpR X (compareOp .Eq) rEqDF := by
  intro pins s σ H x y v u Q I rx ry h
  obtain ⟨a, b, ks, ls, rfl, rfl, ea, eb, f1, f2, q⟩ := h
  obtain rfl : v = Value.ref a := rx
  obtain rfl : u = Value.ref b := ry
  obtain ⟨_, ya, va, ra, da⟩ := (show ObjOk X.prog X.w H s.heap a (.dK ks) from I.hok a _ ea)
  obtain ⟨_, yb, vb, rb, db⟩ := (show ObjOk X.prog X.w H s.heap b (.dK ls) from I.hok b _ eb)
  refine PySem.W.keq_eq (knd := mixKind X.prog X.w) (r := _) ya yb da db hu (fun _ => hits_any rb ra f1 f2) (fin_bl I q ?_)
  unfold eqDV
  rw [ra.length, rb.length]
theorem op_ne_dictF (hu : X.A.units < cLine) : OpR X (compareOp .NotEq) rNeDF := by
  intro pins s σ H x y v u Q I rx ry h
  obtain ⟨a, b, ks, ls, rfl, rfl, ea, eb, f1, f2, q⟩ := h
  obtain rfl : v = Value.ref a := rx
  obtain rfl : u = Value.ref b := ry
  obtain ⟨_, ya, va, ra, da⟩ := (show ObjOk X.prog X.w H s.heap a (.dK ks) from I.hok a _ ea)
  obtain ⟨_, yb, vb, rb, db⟩ := (show ObjOk X.prog X.w H s.heap b (.dK ls) from I.hok b _ eb)
  refine PySem.W.keq_ne (knd := mixKind X.prog X.w) (r := _) ya yb da db hu (fun _ => hits_any rb ra f1 f2) (fin_bl I q ?_)
  unfold eqDV
  rw [ra.length, rb.length]
end
end L2

namespace My
open PySem PySem.Spec PyProof.Rows L2
/-! ### trees compared -/
theorem eqV_ns {fo fo2 : List Str} {x y : V} (hx : Opt fo x) (hy : Opt fo2 y) : eqV x y = decide (x = y) := by
  rcases hx with rfl | ⟨z, _, rfl⟩ <;> rcases hy with rfl | ⟨u, _, rfl⟩
  · rfl
  · rfl
  · rfl
  · by_cases e : z = u
    · rw [e, decide_eq_true rfl]
      exact beq_self_eq_true u
    · rw [decide_eq_false fun h => e (by injection h)]
      exact Bool.eq_false_iff.mpr fun h => e (eq_of_beq h)
theorem getD_at {d : Dic} (nd : (d.map (·.1)).Nodup) {p : Str × V} (h : p ∈ d) : getD d p.1 = some p.2 := by
  induction d with
  | nil => cases h
  | cons q d ih =>
    rw [List.map_cons] at nd
    obtain ⟨n1, n2⟩ := List.nodup_cons.mp nd
    rw [getD_cons]
    rcases List.mem_cons.mp h with rfl | h
    · exact if_pos rfl
    · rw [if_neg fun e => n1 (by rw [e]; exact List.mem_map.mpr ⟨p, h, rfl⟩)]
      exact ih n2 h
theorem eqDV_kd {fo th : List Str} {d e : Dic} (h1 : LyD fo th d) (h2 : LyD fo th e) (nd : (fo ++ th).Nodup) : eqDV (kd d) (kd e) = decide (d = e) := by
  have kk : d.map (·.1) = e.map (·.1) := by rw [h1.keys, h2.keys]
  have ll : (kd d).length = (kd e).length := by rw [kd_len, kd_len, ← List.length_map (f := (·.1)) (as := d), ← List.length_map (f := (·.1)) (as := e), kk]
  have nd1 : (d.map (·.1)).Nodup := by rw [h1.keys]; exact nd
  have nd2 : (e.map (·.1)).Nodup := by rw [h2.keys]; exact nd
  unfold eqDV
  rw [ll, beq_self_eq_true, Bool.true_and]
  by_cases c : d = e
  · rw [decide_eq_true c]
    subst c
    refine List.all_eq_true.mpr fun p hp => ?_
    unfold kd at hp
    obtain ⟨q, hq, rfl⟩ := List.mem_map.mp hp
    show (match valV (kd d) (Sum.inr q.1) with
      | none => false
      | some v => eqV q.2 v) = true
    rw [val_kd, getD_at nd1 hq]
    show eqV q.2 q.2 = true
    have o : Opt fo q.2 := h1.ok q hq
    rw [eqV_ns o o, decide_eq_true rfl]
  · rw [decide_eq_false c]
    refine Bool.eq_false_iff.mpr fun a => c (dic_ext kk nd1 fun z hz => ?_)
    obtain ⟨q, hq, rfl⟩ := List.mem_map.mp hz
    have := List.all_eq_true.mp a (Sum.inr q.1, q.2) (List.mem_map.mpr ⟨q, hq, rfl⟩)
    have this : (match valV (kd e) (Sum.inr q.1) with
      | none => false
      | some v => eqV q.2 v) = true := this
    rw [val_kd] at this
    rw [getD_at nd1 hq]
    cases g : getD e q.1 with
    | none => rw [g] at this; cases this
    | some v =>
      rw [g] at this
      have this : eqV q.2 v = true := this
      obtain ⟨r, hr, rfl⟩ := getD_mem g
      rw [eqV_ns (h1.ok q hq) (h2.ok r hr)] at this
      rw [of_decide_eq_true this]
def spTEq (K : PySem.W.Frag) (CT C : Addr) : Sp := fun vs H Q _ => ∃ a q fo th d y, vs = [.ref a, y] ∧ TreeAt H K CT C a q fo th d ∧ ((∃ t, TyX K H y t ∧ PySem.W.kitOne K t (.ref CT) = some false ∧ Q (.bl false) H) ∨
  ∃ b q2 fo2 th2 d2, y = .ref b ∧ TreeAt H K CT C b q2 fo2 th2 d2 ∧ ∀ H', Ext H H' → Q (.bl (decide (fo = fo2) && (decide (th = th2) && decide (d = d2)))) H')
abbrev nm_Tree_eq : List Str := ["self", "other"]
theorem sc_Tree_eq : FnScope nm_Tree_eq ["self", "other"] (defScope s_Tree_eq) := ⟨rfl, rfl, rfl, by decide +kernel, rfl, by decide +kernel, by decide +kernel⟩
section
variable {P : Program} {w : World} {K : PySem.W.Frag} {mg : Str → Option Value} {base : Heap} {f C CT CN CF CR CB : Addr} {fd : FuncData}
theorem ok_tEq (Fn : FunD K "__eq__" "Tree.__eq__" (defArgs s_Tree_eq) (defBody s_Tree_eq) (defScope s_Tree_eq) [] [] f fd) (T : TreC K CT) (Z : HouseTxt P w K mg C CB) (gB_isinstance : mg "isinstance" = none) (gT : mg "Tree" = some (.ref CT)) (kT : PySem.W.kitOne K (.ref CT) (.ref CT) = some true) :
    FnOk P w K mg base CX0 2 f fd ["self", "other"] (spTEq K CT C) := by
  refine Fn.ok sc_Tree_eq (fun vs H Q E h => ?_) (fun cdv A outer s H vs Q E hr h => ⟨_, PSs.nox
    (pss_one (ps_ret (pe_and (pe_callB call_isi (by rfl) gB_isinstance boot_isinstance (pa_cons (pv 1) (pa_cons (pe_glob (v := .ref CT) (by rfl) gT rfl) pa_nil))) (pe_and (pe_cmpR (op_eqO (EI := E0) (hr.mono (by decide)) Z.mE (Z.E _) Z.bE pass0) (pe_fld (pv 0) rfl) (pe_fld (pv 1) rfl) (nomark _)) (pe_one (pe_cmpR (op_eq_dictF hr.units0) (pe_fld (pv 0) rfl) (pe_fld (pv 1) rfl) (nomark _))))))), ?_⟩)
  · obtain ⟨a, q, fo, th, d, y, rfl, _⟩ := h
    rfl
  · obtain ⟨a, q, fo, th, d, y, rfl, tr, hh⟩ := h
    obtain ⟨dx, fs, h, h1, h2, h3, h4, h5, ly, acy, len, nd, meth⟩ := id tr
    rcases hh with ⟨t, ty, kt, q'⟩ | ⟨b, q2, fo2, th2, d2, rfl, tr2, q'⟩
    · exact ⟨_, rfl, y, .ref CT, t, .ref CT, false, rfl, .own CT, ty, kt, false, rfl, q'⟩
    · refine ⟨_, rfl, .ref b, .ref CT, .ref CT, .ref CT, true, rfl, .own CT, tyT T tr2, kT, true, rfl, ?_⟩
      refine iteT ?_
      obtain ⟨dx', fs', h', g1, g2, g3, g4, g5, ly2, acy2, len2, nd2, meth2⟩ := id tr2
      obtain ⟨hx, hfs, hins⟩ := h4.ins
      refine ⟨_, rfl, a, CT, dx, fs, _, rfl, h1, T.cl, T.nh, h2, _, rfl, b, CT, dx', fs', _, rfl, g1, T.cl, T.nh, g2, h, hx, hfs, .ref C, rfl, hins, tyH Z.T g4, by simp [PySem.W.notFirst], h, fo, th, _, rfl, h4, .inr ⟨h', fo2, th2, rfl, g4, _, rfl, _, rfl, ?_⟩⟩
      refine ite2 (fun e => ?_) fun e => ?_
      · obtain ⟨e1, e2⟩ := Bool.and_eq_true_iff.mp e
        have e1' := of_decide_eq_true e1
        have e2' := of_decide_eq_true e2
        subst e1' e2'
        refine ⟨_, rfl, a, CT, dx, fs, _, rfl, h1, T.cl, T.nl, h3, _, rfl, b, CT, dx', fs', _, rfl, g1, T.cl, T.nl, g3, q, q2, kd d, kd d2, rfl, rfl, h5, g5, ?_, ?_, ?_⟩
        · intro p hp
          unfold kd at hp
          obtain ⟨r, hr, rfl⟩ := List.mem_map.mp hp
          show flatV r.2 = true
          rcases ly.ok r hr with e | ⟨z, _, e⟩ <;> rw [e] <;> rfl
        · intro k v hv
          unfold valV at hv
          cases c : (kd d2).find? fun kv => decide (kv.1 = k) with
          | none => rw [c] at hv; cases hv
          | some p =>
            rw [c] at hv
            cases hv
            have hp := List.mem_of_find?_eq_some c
            unfold kd at hp
            obtain ⟨r, hr, rfl⟩ := List.mem_map.mp hp
            show flatV r.2 = true
            rcases ly2.ok r hr with e | ⟨z, _, e⟩ <;> rw [e] <;> rfl
        rw [eqDV_kd ly ly2 nd]
        have z := q' H Ext.rfl'
        rw [e1, e2, Bool.true_and, Bool.true_and] at z
        exact z
      · have z := q' H Ext.rfl'
        have e3 : (decide (fo = fo2) && decide (th = th2)) = false := by
          cases hh : (decide (fo = fo2) && decide (th = th2)) with
          | false => rfl
          | true => exact absurd hh e
        rw [← Bool.and_assoc, e3, Bool.false_and] at z
        exact z
end
end My

namespace My
open PySem PySem.Spec PyProof.Rows L2
/-! ### a drawn tree -/
def spTreeD (K : PySem.W.Frag) : Sp := fun vs H Q _ => ∃ (p lf lt : Addr) (fo th : List Str) (n : Int), vs = [.ref p, .ref lf, .ref lt] ∧ Pool H p n ∧ n < 900000 ∧ H lf = some (.lst (fo.map V.str)) ∧ H lt = some (.lst (th.map V.str)) ∧ lf ≠ p ∧ lt ≠ p ∧ (fo ++ th).Nodup ∧ (fo ++ th).length ≤ 7 ∧
  ∀ u d H', But H H' p → Pool H' p (n + 7) → H u = none → H' u = some (.dK (kd d)) → LyD fo th d → Acy d → Q (.ref u) H'
def okV (d : Dic) (z : Str) (v : V) : Bool := match v with
  | .str g => !grB d z g
  | _ => true
abbrev nm__law_tree : List Str := ["_law_pool_here", "_law_folders", "_law_things", "_law_ups", "_law_node", "_law_some", "_law_folder"]
theorem sc__law_tree : FnScope nm__law_tree ["_law_pool_here", "_law_folders", "_law_things"] (defScope s__law_tree) := ⟨rfl, rfl, rfl, by decide +kernel, rfl, by decide +kernel, by decide +kernel⟩
section
variable {P : Program} {w : World} {K : PySem.W.Frag} {mg : Str → Option Value} {base : Heap} {f C CB CF : Addr} {fd : FuncData}
theorem ok_tree (Fn : FnP K "_law_tree" s__law_tree f fd) (h_law_take : Has P w K mg base 1 "_law_take" ["_law_pool_here", "_law_many"] spTake) (h_law_goes_round : Has P w K mg base 1 "_law_goes_round" ["_law_ups", "_law_node", "_law_folder"] (spGoes K)) (gB_len : mg "len" = none) : FnOk P w K mg base CX0 2 f fd ["_law_pool_here", "_law_folders", "_law_things"] (spTreeD K) := by
  refine Fn.ok sc__law_tree (fun vs H Q E h => ?_) (fun cdv A outer s H vs Q E hr h => ⟨_, PSs.nox
    (pss_cons (ps_set (i := 3) sc__law_tree.nd rfl (Or.inr rfl) pe_dnewK)
      (pss_cons (ps_for PassesOwn.never rfl (pi_list (pe_op L2.op_cat (pv 1) (pv 2))) (pg_name (i := 4) sc__law_tree.nd rfl (Or.inr rfl))
      (pss_cons (ps_setLc (i := 5) (own := [("_law_folder", 6)]) (g := (gName 6)) rfl sc__law_tree.nd rfl rfl (sw_true rfl rfl rfl (by decide +kernel)) (pi_list (pe_op L2.op_cat (pe_lst (pa_cons pe_non pa_nil)) (pv 1))) (blkOk_by (N := nm__law_tree) (sc := defScope s__law_tree) (by decide +kernel)) (fun _ _ _ _ _ => (pg_name (i := 6) sc__law_tree.nd rfl (Or.inl rfl))) (fun _ _ _ _ _ => pts_one (PW.pt (pw_or (pt_cmpR op_isN (pv 6) pe_non (nomark _)) (pw_or1 (pt_not (pt_val (pe_has h_law_goes_round (hr.mono (by decide)) (pa_cons (pv 3) (pa_cons (pv 4) (pa_cons (pv 6) pa_nil)))))))))) (fun _ _ _ _ _ => (pv 6)))
      (pss_one (ps_dput (hu_of hr) (pv 3) (pv 4) (pe_ix ix_list (pv 5) (pe_has h_law_take (hr.mono (by decide)) (pa_cons (pv 0) (pa_cons (pe_callB call_len (by rfl) gB_len boot_len (pa_cons (pv 5) pa_nil)) pa_nil))) (fun _ _ => rfl)) rfl))))
      (pss_one (ps_ret (pv 3))))), ?_⟩)
  · obtain ⟨p, lf, lt, fo, th, n, rfl, _⟩ := h
    rfl
  · obtain ⟨p, lf, lt, fo, th, n, rfl, hp, hn, hf, ht, nfp, ntp, nd, n7, q⟩ := h
    have lm : ∀ zs : List Str, (zs.map V.str).length = zs.length := fun zs => List.length_map _
    have fle : fo.length ≤ 7 := by
      rw [List.length_append] at n7
      omega
    refine fun u hu => ?_
    obtain ⟨H1, hH1⟩ : ∃ H1, H1 = L2.upd H u (.dK []) := ⟨_, rfl⟩
    rw [← hH1]
    have x1 : Ext H H1 := by
      rw [hH1]
      exact Ext.upd hu
    have u1 : H1 u = some (.dK (kd [])) := by rw [hH1, upd_same]; rfl
    have nup : u ≠ p := fun e => by
      obtain ⟨_, _, _, h, _⟩ := hp
      rw [← e, hu] at h
      cases h
    refine ⟨_, rfl, _, rfl, lf, lt, _, _, rfl, rfl, x1 _ _ hf, x1 _ _ ht, by rw [lm, lm, sizeLine_eq, ← List.length_append]; omega, fun ln hln => ?_⟩
    obtain ⟨H2, hH2⟩ : ∃ H2, H2 = L2.upd H1 ln (.lst (fo.map V.str ++ th.map V.str)) := ⟨_, rfl⟩
    rw [← hH2]
    have x2 : Ext H1 H2 := by
      rw [hH2]
      exact Ext.upd hln
    have n2 : H2 ln = some (.lst ((fo ++ th).map V.str)) := by rw [hH2, upd_same, List.map_append]
    have nln : ln ≠ p := pool_ne (pool_ext hp x1) hln
    have nlu : ln ≠ u := fun e => by
      rw [e, u1] at hln
      cases hln
    refine ⟨ln, rfl, ⟨_, SqL.of n2⟩, for_list (K := K) (a := ln) (xs := (fo ++ th).map V.str) (fun i σ H' => (∃ v4 v5 v6, σ = [some (.ref p), some (.ref lf), some (.ref lt), some (.ref u), v4, v5, v6]) ∧ But H H' p ∧ Pool H' p (n + i) ∧ H' ln = some (.lst ((fo ++ th).map V.str)) ∧ ∃ d, H' u = some (.dK (kd d)) ∧ d.map (·.1) = (fo ++ th).take i ∧ DicOk fo d ∧ Acy d) ?_ (fun i σ H' _ z => SqL.of z.2.2.2.1) ?_ ?_⟩
    · refine ⟨⟨_, _, _, rfl⟩, ext_but (x1.trans x2), by simpa using pool_ext hp (x1.trans x2), n2, [], x2 _ _ u1, rfl, (fun p hp => nomatch hp : DicOk fo []), (fun z => ⟨1, rfl⟩ : Acy [])⟩
    · rintro i v σ H3 hv ⟨⟨v4, v5, v6, rfl⟩, b3, p3, n3, d, u3, dk, ok, acy⟩
      obtain ⟨z, hz, rfl⟩ := strs_at hv
      have zi : i < (fo ++ th).length := (List.getElem?_eq_some_iff.mp hz).1
      have f3 := b3 _ _ nfp hf
      have dl : d.length ≤ 7 := by
        rw [← List.length_map (f := (·.1)), dk, List.length_take]
        omega
      refine ⟨Nat.le_of_ble_eq_true rfl, fun l0 hl0 => ?_⟩
      have x30 := Ext.upd (o := .lst [V.non]) hl0
      refine ⟨_, rfl, l0, lf, _, _, rfl, rfl, upd_same, x30 _ _ f3, by rw [lm, sizeLine_eq]; show 1 + fo.length ≤ _; omega, fun lc hlc => ?_⟩
      obtain ⟨H4, hH4⟩ : ∃ H4, H4 = L2.upd (L2.upd H3 l0 (.lst [V.non])) lc (.lst (V.non :: fo.map V.str)) := ⟨_, rfl⟩
      have x4 : Ext H3 H4 := by
        rw [hH4]
        exact x30.trans (Ext.upd hlc)
      have c4 : H4 lc = some (.lst (V.non :: fo.map V.str)) := by rw [hH4, upd_same]
      have e4 : H4 = L2.upd (L2.upd H3 l0 (.lst [V.non])) lc (.lst ([V.non] ++ fo.map V.str)) := hH4
      rw [← e4]
      refine ⟨lc, rfl, ⟨_, SqL.of c4⟩, fun D hD => ?_⟩
      have u4 := x4 _ _ u3
      obtain ⟨xs, hxs⟩ : ∃ xs, xs = V.non :: fo.map V.str := ⟨_, rfl⟩
      rw [← hxs] at c4
      have xl : xs.length ≤ 8 := by rw [hxs, List.length_cons, lm]; omega
      refine lc_list (K := K) (a := lc) (xs := xs) (fun k H' => Ext H4 H' ∧ H' D = some (.lst ((xs.take k).filter (okV d z)))) ⟨Ext.upd hD, upd_same⟩ (fun k H' _ w => SqL.of (w.1 _ _ c4)) ?_ ?_
      · rintro k v H5 hv ⟨x5, d5⟩
        have kl := (List.getElem?_eq_some_iff.mp hv).1
        have tk : xs.take (k + 1) = xs.take k ++ [v] := by
          rw [List.take_add_one, hv]
          rfl
        rw [tk]
        have put : ∀ {H6 : Hp}, H6 = H5 → okV d z v = true → ∃ acc, H6 D = some (.lst acc) ∧ acc.length < sizeLine ∧ Ext H4 (L2.upd H6 D (.lst (acc ++ [v]))) ∧ L2.upd H6 D (.lst (acc ++ [v])) D = some (.lst ((xs.take k ++ [v]).filter (okV d z))) := fun e o => by
          subst e
          refine ⟨_, d5, ?_, x5.over hD, ?_⟩
          · refine Nat.lt_of_le_of_lt (List.length_filter_le _ _) ?_
            rw [List.length_take, sizeLine_eq]
            omega
          · rw [upd_same, List.filter_append, List.filter_cons, if_pos o]
            rfl
        have skip : okV d z v = false → Ext H4 H5 ∧ H5 D = some (.lst ((xs.take k ++ [v]).filter (okV d z))) := fun o => ⟨x5, by rw [d5, List.filter_append, List.filter_cons, if_neg (by rw [o]; exact Bool.false_ne_true), List.filter_nil, List.append_nil]⟩
        refine ⟨rfl, _, rfl, rfl, _, rfl, ?_⟩
        cases v with
        | non => 
          refine iteT ?_
          exact ⟨_, rfl, put rfl rfl⟩
        | str g =>
          refine iteF ?_
          have hg : g ∈ fo := by
            have := List.mem_of_getElem? hv
            rw [hxs] at this
            rcases List.mem_cons.mp this with e | h
            · cases e
            · obtain ⟨y, hy, e⟩ := List.mem_map.mp h
              cases e
              exact hy
          refine ⟨_, rfl, _, rfl, _, rfl, u, d, fo, z, g, rfl, x5 _ _ u4, ok, hg, by omega, _, rfl, ?_⟩
          refine ite2 (fun c => ?_) fun c => ?_
          · exact ⟨_, rfl, put rfl c⟩
          · exact skip (Bool.eq_false_iff.mpr c)
        | _ =>
          have := List.mem_of_getElem? hv
          rw [hxs] at this
          rcases List.mem_cons.mp this with e | h
          · cases e
          · obtain ⟨y, hy, e⟩ := List.mem_map.mp h
            cases e
      rintro H5 ⟨x5, d5⟩
      rw [List.take_length] at d5
      obtain ⟨sel, hsel⟩ : ∃ sel, sel = xs.filter (okV d z) := ⟨_, rfl⟩
      rw [← hsel] at d5
      have sl : sel.length ≤ 8 := by
        rw [hsel]
        exact Nat.le_trans (List.length_filter_le _ _) xl
      have s0 : 1 ≤ sel.length := by
        rw [hsel, hxs, List.filter_cons, if_pos (show okV d z .non = true from rfl), List.length_cons]
        omega
      have x35 := x4.trans x5
      have D3 : H3 D = none := ext_none x4 hD
      have nDp : D ≠ p := pool_ne p3 D3
      have p5 := pool_ext p3 x35
      refine ⟨_, rfl, _, rfl, _, rfl, _, _, rfl, .inl ⟨_, SqL.of d5, rfl⟩, p, _, n + (i : Int), rfl, by omega, by omega, p5, by omega, fun r1 o1 r10 r11 gp => ?_⟩
      obtain ⟨r1, rfl⟩ := Int.eq_ofNat_of_zero_le r10
      have r1' : r1 < sel.length := by omega
      obtain ⟨H6, hH6⟩ : ∃ H6, H6 = L2.upd H5 p o1 := ⟨_, rfl⟩
      rw [← hH6] at gp ⊢
      have b6 : But H5 H6 p := by
        rw [hH6]
        exact But.upd (ext_but Ext.rfl')
      have d6 := b6 _ _ nDp d5
      refine ⟨D, _, _, sel[r1], rfl, rfl, SqL.of d6, atI_nat (List.getElem?_eq_getElem r1'), ?_⟩
      obtain ⟨v, hv⟩ : ∃ v, v = sel[r1] := ⟨_, rfl⟩
      rw [← hv]
      have mv : v ∈ sel := by rw [hv]; exact List.getElem_mem r1'
      rw [hsel] at mv
      obtain ⟨mv, okv⟩ := List.mem_filter.mp mv
      have ov : Opt fo v := by
        rw [hxs] at mv
        rcases List.mem_cons.mp mv with e | h
        · exact .inl e
        · obtain ⟨y, hy, e⟩ := List.mem_map.mp h
          exact .inr ⟨y, hy, e.symm⟩
      have u6 := b6 _ _ nup (x35 _ _ u3)
      have nz : z ∉ d.map (·.1) := fun m => by
        rw [dk] at m
        obtain ⟨j, hj⟩ := List.mem_iff_getElem?.mp m
        have jl := (List.getElem?_eq_some_iff.mp hj).1
        rw [List.length_take] at jl
        rw [List.getElem?_take_of_lt (by omega)] at hj
        have := (List.getElem?_inj (by omega) nd).mp (hj.trans hz.symm)
        omega
      refine ⟨_, rfl, _, rfl, u, _, rfl, .inl ⟨_, Sum.inr z, u6, rfl, by rw [kd_len, sizeLine_eq]; omega, rfl⟩, ?_⟩
      refine ⟨⟨_, _, _, rfl⟩, fun b w nb hb => ?_, pool_upd (by rw [show n + ((i + 1 : Nat) : Int) = n + (i : Int) + 1 by omega]; exact gp) nup, ?_, setD d z v, by rw [upd_same, put_kd], ?_, set_ok ok ov, ?_⟩
      · rw [upd_ne (ne_of_none hb hu)]
        exact b6 _ _ nb (x35 _ _ (b3 _ _ nb hb))
      · rw [upd_ne nlu]
        exact b6 _ _ nln (x35 _ _ n3)
      · rw [set_new nz, List.map_append, dk, List.take_add_one, hz]
        rfl
      · rcases ov with rfl | ⟨g, hg, rfl⟩
        · exact acy_setN acy
        · have okv : (!grB d z g) = true := okv
          refine acy_setS acy (gr_no ok acy ?_)
          cases h : grB d z g
          · rfl
          · rw [h] at okv; cases okv
    · rintro σ H3 ⟨⟨v4, v5, v6, rfl⟩, b3, p3, n3, d, u3, dk, ok, acy⟩
      rw [lm] at p3 dk
      rw [List.take_length] at dk
      exact ⟨_, rfl, q u d H3 b3 (pool_mono p3 (by omega)) hu u3 ⟨dk, ok⟩ acy⟩
end
end My

namespace My
open PySem PySem.Spec PyProof.Rows L2
/-- what is needed of the class Tree -/
structure TreeTxt (P : Program) (w : World) (K : PySem.W.Frag) (mg : Str → Option Value) (CT C CN CF CR : Addr) where
  T : TreC K CT
  gT : mg "Tree" = some (.ref CT)
  kTT : PySem.W.kitOne K (.ref CT) (.ref CT) = some true
  ne : PySem.W.findIn K (.ref CT) "__ne__" = some (some (.builtin "object.__ne__"))
  fI : Addr
  fdI : FuncData
  M0 : Mk K CT fI
  I : ∀ base, FnOk P w K mg base (L2.CX P w) 6 fI fdI ["self", "house", "over"] (spTInit K CT C CF CR)
  bI : Binds K fdI ["self", "house", "over"] []
  fV : Addr
  fdV : FuncData
  mV : Meth K CT "over" fV
  V : ∀ base, FnOk P w K mg base (L2.CX P w) 5 fV fdV ["self", "node"] (spTOver K CT C CN)
  bV : Binds K fdV ["self", "node"] []
  fA : Addr
  fdA : FuncData
  mA : Meth K CT "above" fA
  A : ∀ base, FnOk P w K mg base (L2.CX P w) 6 fA fdA ["self", "node"] (spTAbove K CT C CN)
  bA : Binds K fdA ["self", "node"] []
  fW : Addr
  fdW : FuncData
  mW : Meth K CT "below" fW
  W : ∀ base, FnOk P w K mg base (L2.CX P w) 7 fW fdW ["self", "folder"] (spTBelow K CT C CF)
  bW : Binds K fdW ["self", "folder"] []
  fL : Addr
  fdL : FuncData
  mL : Meth K CT "lies" fL
  L : ∀ base, FnOk P w K mg base (L2.CX P w) 7 fL fdL ["self", "node", "folder"] (spTLies K CT C CN CF)
  bL : Binds K fdL ["self", "node", "folder"] []
  fM : Addr
  fdM : FuncData
  mM : Meth K CT "moved" fM
  M : ∀ base, FnOk P w K mg base (L2.CX P w) 8 fM fdM ["self", "node", "folder"] (spTMoved K CT C CN CF CR)
  bM : Binds K fdM ["self", "node", "folder"] []
  fE : Addr
  fdE : FuncData
  mE : OwnM K CT "__eq__" fE
  E : ∀ base, FnOk P w K mg base CX0 2 fE fdE ["self", "other"] (spTEq K CT C)
  bE : Binds K fdE ["self", "other"] []
/-! ### a dict without what is not told -/
def cutN (d : Dic) : Dic := d.filter fun p => !decide (p.2 = .non)
theorem cutN_snoc (d : Dic) (p : Str × V) : cutN (d ++ [p]) = cutN d ++ if (!decide (p.2 = .non)) = true then [p] else [] := by
  unfold cutN
  rw [List.filter_append]
  by_cases c : (!decide (p.2 = .non)) = true
  · rw [List.filter_cons, if_pos c, if_pos c]
    rfl
  · rw [List.filter_cons, if_neg c, if_neg c]
    rfl
theorem cutN_key {d : Dic} {z : Str} (h : z ∈ (cutN d).map (·.1)) : z ∈ d.map (·.1) := by
  obtain ⟨p, hp, rfl⟩ := List.mem_map.mp h
  exact List.mem_map.mpr ⟨p, (List.mem_filter.mp hp).1, rfl⟩
theorem cutN_nd {d : Dic} (nd : (d.map (·.1)).Nodup) : ((cutN d).map (·.1)).Nodup := (List.filter_sublist.map _).nodup nd
theorem getD_cut {w : Str} : ∀ {d : Dic}, (d.map (·.1)).Nodup → (getD (cutN d) w).getD .non = (getD d w).getD .non
  | [], _ => rfl
  | p :: d, nd => by
    rw [List.map_cons] at nd
    obtain ⟨n1, n2⟩ := List.nodup_cons.mp nd
    have e : cutN (p :: d) = (if (!decide (p.2 = .non)) = true then [p] else []) ++ cutN d := by
      unfold cutN
      rw [List.filter_cons]
      split <;> rfl
    rw [e, getD_app, getD_cons]
    by_cases c : p.1 = w
    · rw [if_pos c]
      by_cases c2 : p.2 = .non
      · rw [if_neg (by rw [decide_eq_true c2]; simp), getD_none (d := cutN d) (fun m => n1 (by rw [c]; exact cutN_key m)), c2]
        rfl
      · rw [if_pos (by rw [decide_eq_false c2]; rfl), getD_cons, if_pos c]
        rfl
    · rw [if_neg c]
      have : getD (if (!decide (p.2 = .non)) = true then [p] else []) w = none := by
        split
        · rw [getD_cons, if_neg c]
          rfl
        · rfl
      rw [this]
      exact getD_cut n2
theorem ly_cut {fo th : List Str} {d : Dic} (ly : LyD fo th d) (nd : (fo ++ th).Nodup) : lyD (fo ++ th) (cutN d) = d := by
  have nk : (d.map (·.1)).Nodup := by rw [ly.keys]; exact nd
  refine dic_ext ?_ ?_ fun w hw => ?_
  · rw [ly_keys, ly.keys]
  · rw [ly_keys]
    exact nd
  · rw [ly_keys] at hw
    rw [ly_get hw, getD_cut nk]
    obtain ⟨x, hx⟩ := getD_some (d := d) (z := w) (by rw [ly.keys]; exact hw)
    rw [hx]
    rfl
theorem cut_vals {fo : List Str} {d : Dic} (ok : DicOk fo d) {v : V} (h : v ∈ (cutN d).map (·.2)) : ∃ s, v = .str s ∧ s ∈ fo := by
  obtain ⟨p, hp, rfl⟩ := List.mem_map.mp h
  obtain ⟨h1, h2⟩ := List.mem_filter.mp hp
  rcases ok p h1 with e | ⟨s, hs, e⟩
  · rw [decide_eq_true e] at h2
    cases h2
  · exact ⟨s, e, hs⟩
theorem merge_kd (e : Dic) : ∀ a : Dic, ((a ++ e).map (·.1)).Nodup → mergeK (kd a) (kd e) = kd (a ++ e) := by
  induction e with
  | nil => intro a _; rw [List.append_nil]; rfl
  | cons p e ih =>
    intro a nd
    have na : p.1 ∉ a.map (·.1) := fun m => by
      rw [List.map_append] at nd
      exact (List.nodup_append.mp nd).2.2 p.1 m p.1 (List.mem_map.mpr ⟨p, List.mem_cons_self, rfl⟩) rfl
    show mergeK (putK (kd a) (Sum.inr p.1) p.2) (kd e) = _
    rw [put_kd, set_new na, ih (a ++ [(p.1, p.2)]) (by rw [List.append_assoc]; exact nd), List.append_assoc]
    rfl
end My

namespace My
open PySem PySem.Spec PyProof.Rows L2
def spMade (K : PySem.W.Frag) (CT C : Addr) : Sp := fun vs H Q _ => ∃ h p fo th d, vs = [.ref h, .ref p] ∧ Hou H K C h fo th ∧ H p = some (.dK (kd d)) ∧ LyD fo th d ∧ Acy d ∧ (fo ++ th).length ≤ 1000 ∧ (fo ++ th).Nodup ∧
  ∀ t q H', Ext H H' → H t = none → H q = none → TreeAt H' K CT C t q fo th d → Q (.ref t) H'
abbrev nm__law_made : List Str := ["_law_house_here", "_law_ups", "_law_node"]
theorem sc__law_made : FnScope nm__law_made ["_law_house_here", "_law_ups"] (defScope s__law_made) := ⟨rfl, rfl, rfl, by decide +kernel, rfl, by decide +kernel, by decide +kernel⟩
section
variable {P : Program} {w : World} {K : PySem.W.Frag} {mg : Str → Option Value} {base : Heap} {f C CT CN CF CR CB : Addr} {fd : FuncData}
theorem ok_made (Fn : FnP K "_law_made" s__law_made f fd) (Y : TreeTxt P w K mg CT C CN CF CR) (gB_dict : mg "dict" = none) : FnOk P w K mg base CX0 8 f fd ["_law_house_here", "_law_ups"] (spMade K CT C) := by
  refine Fn.ok sc__law_made (fun vs H Q E h => ?_) (fun cdv A outer s H vs Q E hr h => ⟨_, PSs.nox
    (pss_one (ps_ret (pe_make Y.M0 (Y.I _) (hr.mono (by decide)) (by rfl) Y.gT Y.bI .nil passL (pa_cons (pv 0) (pa_cons (pe_callTy (call_dictP rfl) (by rfl) gB_dict (by decide +kernel) (pa_cons (pe_lock (pe_lc (own := [("_law_node", 2)]) (g := (gName 2)) rfl sc__law_made.nd (pi_keys (pv 1)) (blkOk_by (N := nm__law_made) (sc := defScope s__law_made) (by decide +kernel)) (fun _ _ _ _ _ => (pg_name (i := 2) sc__law_made.nd rfl (Or.inl rfl))) (fun _ _ _ _ _ => pts_one (pt_cmpR op_notN (pe_dget (hu_of hr) (pv 1) (pv 2) (fun _ _ => rfl)) pe_non (nomark _))) (fun _ _ _ _ _ => (pe_tup (pa_cons (pv 2) (pa_cons (pe_dget (hu_of hr) (pv 1) (pv 2) (fun _ _ => rfl)) pa_nil)))))) pa_nil)) pa_nil))))), ?_⟩)
  · obtain ⟨h, p, fo, th, d, rfl, _⟩ := h
    rfl
  · obtain ⟨h, p, fo, th, d, rfl, hou, hp, ly, acy, len, nd, q'⟩ := h
    refine ⟨_, rfl, p, .dK (kd d), hp, True.intro, fun od => ?_⟩
    obtain ⟨HL, hHL⟩ : ∃ HL, HL = L2.upd H p (.frz od (.dK (kd d))) := ⟨_, rfl⟩
    rw [← hHL]
    have pL : HL p = some (.frz od (.dK (kd d))) := by rw [hHL, upd_same]
    refine ⟨_, rfl, p, od, rfl, .inl ⟨kd d, pL, fun D hD => ?_⟩⟩
    have nk : (d.map (·.1)).Nodup := by rw [ly.keys]; exact nd
    have dl : d.length ≤ 1000 := by
      rw [← List.length_map (f := (·.1)), ly.keys]
      exact len
    have lk : d.length < sizeLine := by rw [sizeLine_eq]; omega
    refine lc_it (walk_keys (kvs := kd d)) (fun i H' => Ext HL H' ∧ ∃ ps : List Addr, H' D = some (.lst (ps.map V.ref)) ∧ Paired (fun p kv => SqT K H' p [kV kv.1, kv.2]) ps (kd (cutN (d.take i)))) ⟨Ext.upd hD, [], upd_same, .nil⟩ (fun i H' _ w => w.1 _ _ pL) ?_ ?_
    · rintro i x H4 H5 hi ⟨x4, ps, d4, pr⟩ ⟨rfl, k, v, e, rfl⟩
      rw [kd_len] at hi
      obtain ⟨z, hz, rfl⟩ : ∃ z, d[i]? = some (z, v) ∧ k = Sum.inr z := by
        unfold kd at e
        rw [List.getElem?_map] at e
        cases c : d[i]? with
        | none => rw [c] at e; cases e
        | some y =>
          rw [c] at e
          cases e
          exact ⟨_, rfl, rfl⟩
      have dg : ∀ {H' : Hp}, Ext HL H' → DGet H' p (.str z) (some v) := fun x => .inl ⟨kd d, Sum.inr z, .inr ⟨od, x _ _ pL⟩, rfl, by rw [val_kd]; exact (getD_at nk (List.mem_of_getElem? hz)).symm⟩
      have tk : d.take (i + 1) = d.take i ++ [(z, v)] := by
        rw [List.take_add_one, hz]
        rfl
      rw [tk, cutN_snoc]
      refine ⟨rfl, _, rfl, _, rfl, p, v, rfl, dg x4, rfl, _, rfl, ?_⟩
      refine ite2 (fun c => ?_) fun c => ?_
      · rw [if_pos c]
        refine ⟨_, rfl, _, rfl, _, rfl, p, v, rfl, dg x4, Nat.le_of_ble_eq_true rfl, fun T hT => ?_⟩
        have x5 := Ext.upd (o := .tup [.str z, v]) hT
        have d5 := x5 _ _ d4
        have pl : ps.length ≤ 1000 := by
          rw [Paired.length pr, kd_len]
          unfold cutN
          refine Nat.le_trans (List.length_filter_le _ _) ?_
          rw [List.length_take]
          omega
        refine ⟨_, d5, by rw [List.length_map, sizeLine_eq]; omega, (x4.trans x5).over hD, ps ++ [T], by rw [upd_same, List.map_append]; rfl, ?_⟩
        unfold kd
        rw [List.map_append]
        refine Paired.snoc (Paired.mapP pr fun a b h => sqT_upd (h.ext x5) d5) ?_
        exact sqT_upd (SqT.of upd_same) d5
      · rw [if_neg c, List.append_nil]
        exact ⟨x4, ps, d4, pr⟩
    rintro H5 ⟨x5, ps, d5, pr⟩
    rw [kd_len, List.take_length] at pr
    refine ⟨x5 _ _ pL, ?_⟩
    obtain ⟨H6, hH6⟩ : ∃ H6, H6 = L2.upd H5 p (.dK (kd d)) := ⟨_, rfl⟩
    rw [← hH6]
    have x6 : Ext H H6 := by
      rw [hH6]
      exact ext_unlock hp (by rw [← hHL]; exact x5)
    have pD : D ≠ p := fun e => by
      rw [e, pL] at hD
      cases hD
    have d6 : H6 D = some (.lst (ps.map V.ref)) := by
      rw [hH6, upd_ne pD]
      exact d5
    have pr6 : Paired (fun p kv => SqT K H6 p [kV kv.1, kv.2]) ps (kd (cutN d)) := Paired.mapP pr fun a b h => by
      rw [hH6]
      rcases h with (h | ⟨o, h⟩) | h
      · exact .inl (.inl (by rw [upd_ne (ne_of h (x5 _ _ pL) (fun z => nomatch z))]; exact h))
      · exact .inl (.inr ⟨o, by rw [upd_ne (fun e => by rw [e, x5 _ _ pL] at h; cases h)]; exact h⟩)
      · exact .inr h
    refine ⟨D, ps, kd (cutN d), rfl, SqL.of d6, pr6, fun m hm => ?_⟩
    have em : mergeK [] (kd (cutN d)) = kd (cutN d) := merge_kd (cutN d) [] (cutN_nd nk)
    rw [em]
    intro t dt ht hdt ne
    obtain ⟨HX, hHX⟩ : ∃ HX, HX = L2.upd (L2.upd (L2.upd H6 m (.dK (kd (cutN d)))) dt (.own t)) t (.ins CT dt []) := ⟨_, rfl⟩
    rw [← hHX]
    have xm : Ext H6 (L2.upd H6 m (.dK (kd (cutN d)))) := Ext.upd hm
    have xX : Ext (L2.upd H6 m (.dK (kd (cutN d)))) HX := fun c u k => by
      rw [hHX, upd_ne (ne_of_none k ht), upd_ne (ne_of_none k hdt)]
      exact k
    have tX : HX t = some (.ins CT dt []) := by rw [hHX, upd_same]
    have mX : HX m = some (.dK (kd (cutN d))) := xX _ _ upd_same
    have x0 : Ext H HX := x6.trans (xm.trans xX)
    have ht0 : H t = none := ext_none (x6.trans xm) ht
    have nht : h ≠ t := by
      obtain ⟨_, _, hi⟩ := hou.ins
      exact ne_of_none hi ht0
    refine ⟨t, dt, h, m, fo, th, cutN d, rfl, tX, nht, hou.ext x0, len, nd, mX, fun z hz => by rw [← ly.keys]; exact cutN_key hz, .inr ⟨fun v hv => cut_vals ly.ok hv, ?_, ?_⟩⟩
    · rw [ly_cut ly nd]
      exact fun nc q H7 b hq tr => ⟨rfl, q' t q H7 (fun c u k => b c u (ne_of_none k ht0) (x0 c u k)) ht0 (ext_none x0 hq) tr⟩
    · rw [ly_cut ly nd]
      intro d' t' way H' e h1 st h2 ring
      obtain ⟨c, cy⟩ := ring.cyc
      exact absurd cy (acy_nocyc acy c)
end
end My

namespace My
open PySem PySem.Spec PyProof.Rows L2
/-! ### whether a tree tells what lies where -/
theorem tree_dk {H : Hp} {K : PySem.W.Frag} {CT C a q p : Addr} {fo th : List Str} {d : Dic} {kvs : List (Key × V)} {z : HO} (h : TreeAt H K CT C a q fo th d) (hp : H p = some (.dK kvs)) (ne : p ≠ q) : TreeAt (L2.upd H p z) K CT C a q fo th d := by
  obtain ⟨dx, fs, ho, h1, h2, h3, h4, h5, h6⟩ := h
  exact ⟨dx, fs, ho, by rw [upd_ne (ne_of h1 hp (fun z => nomatch z))]; exact h1, h2, h3, hou_dk h4 hp, by rw [upd_ne (Ne.symm ne)]; exact h5, h6⟩
theorem eqv_bl : ∀ bs : List Bool, PyData.eqv (.list (bs.map PyData.bool)) (.list (bs.map PyData.bool)) = true
  | [] => rfl
  | b :: bs => by
    show (PyData.eqv (.bool b) (.bool b) && PyData.eqvAll (bs.map PyData.bool) (bs.map PyData.bool)) = true
    have h : PyData.eqvAll (bs.map PyData.bool) (bs.map PyData.bool) = true := eqv_bl bs
    rw [h]
    cases b <;> rfl
theorem ups_of {fo th : List Str} {d : Dic} (ly : LyD fo th d) : Ups fo (fo ++ th) d := ⟨ly.ok, fun z hz => by
  obtain ⟨v, hv⟩ := getD_some (d := d) (z := z) (by rw [ly.keys]; exact hz)
  rw [hv]
  rfl, by rw [← ly.keys, List.length_map]; exact Nat.le_refl _, fun z hz => List.mem_append_left _ hz⟩
theorem kd_at {d : Dic} {i : Nat} {k : Key} {v : V} (e : (kd d)[i]? = some (k, v)) : ∃ z, d[i]? = some (z, v) ∧ k = Sum.inr z := by
  unfold kd at e
  rw [List.getElem?_map] at e
  cases c : d[i]? with
  | none => rw [c] at e; cases e
  | some y =>
    rw [c] at e
    cases e
    exact ⟨_, rfl, rfl⟩
theorem scal_opt {fo : List Str} {v : V} (h : Opt fo v) : scal v v = true := by
  rcases h with rfl | ⟨z, _, rfl⟩ <;> rfl
def spRight (K : PySem.W.Frag) (CT C : Addr) : Sp := fun vs H Q _ => ∃ t h p lf q fo th d, vs = [.ref t, .ref h, .ref p, .ref lf] ∧ TreeAt H K CT C t q fo th d ∧ Hou H K C h fo th ∧ H p = some (.dK (kd d)) ∧ p ≠ q ∧ (fo ++ th).length ≤ 100 ∧ H lf = some (.lst (fo.map V.str)) ∧ ∀ H', Ext H H' → Q (.bl true) H'
abbrev nm__law_is_right : List Str := ["_law_tree_here", "_law_house_here", "_law_ups", "_law_folders", "_law_node", "_law_told", "_law_folder", "_law_x"]
theorem sc__law_is_right : FnScope nm__law_is_right ["_law_tree_here", "_law_house_here", "_law_ups", "_law_folders"] (defScope s__law_is_right) := ⟨rfl, rfl, rfl, by decide +kernel, rfl, by decide +kernel, by decide +kernel⟩
section
variable {P : Program} {w : World} {K : PySem.W.Frag} {mg : Str → Option Value} {base : Heap} {f C CT CN CF CR CB : Addr} {fd : FuncData}
theorem ok_right (Fn : FnP K "_law_is_right" s__law_is_right f fd) (Y : TreeTxt P w K mg CT C CN CF CR) (Z : HouseTxt P w K mg C CB) (h_law_above : Has P w K mg base 1 "_law_above" ["_law_ups", "_law_node"] (spAbove K)) (gB_tuple : mg "tuple" = none) (gB_all : mg "all" = none) (gB_isinstance : mg "isinstance" = none) (gB_bool : mg "bool" = none) : FnOk P w K mg base CX0 9 f fd ["_law_tree_here", "_law_house_here", "_law_ups", "_law_folders"] (spRight K CT C) := by
  refine Fn.ok sc__law_is_right (fun vs H Q E h => ?_) (fun cdv A outer s H vs Q E hr h => ⟨_, PSs.nox
    (pss_cons (ps_if (pt_cmpR (op_neO (EI := E0) (hr.mono (by decide)) Z.mE Z.ne Z.T.hm (Z.E _) Z.bE pass0) (pe_fld (pv 0) rfl) (pv 1) (nomark _)) (pss_one (ps_ret pe_bl)) pss_nil)
      (pss_cons (ps_lock (ps_for PassesOwn.never rfl (pi_keys (pv 2)) (pg_name (i := 4) sc__law_is_right.nd rfl (Or.inr rfl))
      (pss_cons (ps_if (PW.pt (pw_or (pt_cmpR op_ne (pe_meth (pv 0) Y.T.cl Y.mV (Y.V _) (hr.mono (by decide)) Y.bV .nil passL (pa_cons (pv 4) pa_nil)) (pe_dget (hu_of hr) (pv 2) (pv 4) (fun _ _ => rfl)) (nomark _)) (pw_or1 (pt_cmpR (op_neD hr.units) (pe_meth (pv 0) Y.T.cl Y.mA (Y.A _) (hr.mono (by decide)) Y.bA .nil passL (pa_cons (pv 4) pa_nil)) (pe_callTy call_tup (by rfl) gB_tuple (by decide +kernel) (pa_cons (pe_has h_law_above (hr.mono (by decide)) (pa_cons (pv 2) (pa_cons (pv 4) pa_nil))) pa_nil)) (nomark _))))) (pss_one (ps_ret pe_bl)) pss_nil)
      (pss_cons (ps_setLc (i := 5) (own := [("_law_folder", 6)]) (g := (gName 6)) (tt := tYes) rfl sc__law_is_right.nd rfl rfl (sw_true rfl rfl rfl (by decide +kernel)) (pi_list (pv 3)) (blkOk_by (N := nm__law_is_right) (sc := defScope s__law_is_right) (by decide +kernel)) (fun _ _ _ _ _ => (pg_name (i := 6) sc__law_is_right.nd rfl (Or.inl rfl))) (fun _ _ _ _ _ => pts_nil) (fun _ _ _ _ _ => (pe_meth (pv 0) Y.T.cl Y.mL (Y.L _) (hr.mono (by decide)) Y.bL .nil passL (pa_cons (pv 4) (pa_cons (pv 6) pa_nil)))))
      (pss_one (ps_if (PW.pt (pw_or (pt_cmpR (op_neD hr.units) (pv 5) (pe_lc (own := [("_law_x", 7)]) (g := (gName 7)) (tt := tYes) rfl sc__law_is_right.nd (pi_list (pv 3)) (blkOk_by (N := nm__law_is_right) (sc := defScope s__law_is_right) (by decide +kernel)) (fun _ _ _ _ _ => (pg_name (i := 7) sc__law_is_right.nd rfl (Or.inl rfl))) (fun _ _ _ _ _ => pts_nil) (fun _ _ _ _ _ => (pe_cmpR (opK (r := fun K => rIn K false) (K := K) rfl op_in_seq) (pv 7) (pe_has h_law_above (hr.mono (by decide)) (pa_cons (pv 2) (pa_cons (pv 4) pa_nil))) (by rfl)))) (nomark _)) (pw_or1 (pt_not (pt_val (pe_callB (cr_all rfl) (by rfl) gB_all boot_all (pa_cons (pe_lc (own := [("_law_x", 7)]) (g := (gName 7)) (tt := tYes) rfl sc__law_is_right.nd (pi_list (pv 5)) (blkOk_by (N := nm__law_is_right) (sc := defScope s__law_is_right) (by decide +kernel)) (fun _ _ _ _ _ => (pg_name (i := 7) sc__law_is_right.nd rfl (Or.inl rfl))) (fun _ _ _ _ _ => pts_nil) (fun _ _ _ _ _ => (pe_callB (caK (r := rIsi) (K := K) rfl call_isi) (by rfl) gB_isinstance boot_isinstance (pa_cons (pv 7) (pa_cons (pe_bltn (v := .ty "bool") (by rfl) gB_bool boot_bool rfl) pa_nil))))) pa_nil))))))) (pss_one (ps_ret pe_bl)) pss_nil))))))
      (pss_cons (ps_for PassesOwn.never rfl (pi_list (pv 3)) (pg_name (i := 6) sc__law_is_right.nd rfl (Or.inr rfl))
      (pss_one (ps_if (pt_cmpR (op_neD hr.units) (pe_meth (pv 0) Y.T.cl Y.mW (Y.W _) (hr.mono (by decide)) Y.bW .nil passL (pa_cons (pv 6) pa_nil)) (pe_callTy call_tup (by rfl) gB_tuple (by decide +kernel) (pa_cons (pe_lock (pe_lc (own := [("_law_node", 4)]) (g := (gName 4)) rfl sc__law_is_right.nd (pi_keys (pv 2)) (blkOk_by (N := nm__law_is_right) (sc := defScope s__law_is_right) (by decide +kernel)) (fun _ _ _ _ _ => (pg_name (i := 4) sc__law_is_right.nd rfl (Or.inl rfl))) (fun _ _ _ _ _ => pts_one (pt_cmpR (opK (r := fun K => rIn K false) (K := K) rfl op_in_seq) (pv 6) (pe_has h_law_above (hr.mono (by decide)) (pa_cons (pv 2) (pa_cons (pv 4) pa_nil))) (by rfl))) (fun _ _ _ _ _ => (pv 4)))) pa_nil)) (nomark _)) (pss_one (ps_ret pe_bl)) pss_nil)))
      (pss_one (ps_ret pe_bl))))), ?_⟩)
  · obtain ⟨t, h, p, lf, q, fo, th, d, rfl, _⟩ := h
    rfl
  · obtain ⟨t, h, p, lf, q, fo, th, d, rfl, tr, hou, hp, npq, n100, hf, q'⟩ := h
    obtain ⟨dx, fs, ho, h1, h2, h3, h4, h5, ly, acy, len, nd, meth⟩ := id tr
    obtain ⟨hx, hfs, hins⟩ := h4.ins
    have okS : OkS (fo ++ th) := fun z hz => (List.mem_append.mp hz).elim (hou.2.1 z) (hou.2.2 z)
    have ups := ups_of ly
    have nk : (d.map (·.1)).Nodup := by rw [ly.keys]; exact nd
    have abok : ∀ z, OkS (abv d z) := fun z y hy => okS y (List.mem_append_left _ (abN_fo ly.ok _ _ (getD_opt ly.ok z) y hy))
    have fle : fo.length ≤ 100 := by
      rw [List.length_append] at n100
      omega
    refine ⟨_, rfl, t, CT, dx, fs, _, rfl, h1, Y.T.cl, Y.T.nh, h2, _, rfl, ho, hx, hfs, .ref C, rfl, hins, tyH Z.T hou, by simp [PySem.W.notFirst], ho, fo, th, _, rfl, h4, .inr ⟨h, fo, th, rfl, hou, _, rfl, _, rfl, ?_⟩⟩
    refine iteF' (by rw [decide_eq_true rfl, decide_eq_true rfl]; rfl) ?_
    refine ⟨p, .dK (kd d), hp, True.intro, fun od => ?_⟩
    obtain ⟨HL, hHL⟩ : ∃ HL, HL = L2.upd H p (.frz od (.dK (kd d))) := ⟨_, rfl⟩
    rw [← hHL]
    have pL : HL p = some (.frz od (.dK (kd d))) := by rw [hHL, upd_same]
    have trL : TreeAt HL K CT C t q fo th d := by rw [hHL]; exact tree_dk tr hp npq
    have fL : HL lf = some (.lst (fo.map V.str)) := by rw [hHL, upd_ne (ne_of hf hp (fun z => nomatch z))]; exact hf
    have tL : HL t = some (.ins CT dx fs) := by rw [hHL, upd_ne (ne_of h1 hp (fun z => nomatch z))]; exact h1
    refine ⟨_, rfl, p, od, rfl, .inl ⟨kd d, pL, ?_⟩⟩
    refine for_it (walk_keys (kvs := kd d)) (fun i σ H' => (∃ v4 v5 v6 v7, σ = [some (.ref t), some (.ref h), some (.ref p), some (.ref lf), v4, v5, v6, v7]) ∧ Ext HL H') ⟨⟨_, _, _, _, rfl⟩, Ext.rfl'⟩ (fun i σ H' _ w => w.2 _ _ pL) ?_ ?_
    · rintro i x σ H4 H5 hi ⟨⟨v4, v5, v6, v7, rfl⟩, x4⟩ ⟨rfl, k, v, e, rfl⟩
      obtain ⟨z, hz, rfl⟩ := kd_at e
      have mz : z ∈ fo ++ th := by
        rw [← ly.keys]
        exact List.mem_map.mpr ⟨_, List.mem_of_getElem? hz, rfl⟩
      have gz : getD d z = some v := getD_at nk (List.mem_of_getElem? hz)
      have ov : Opt fo v := ly.ok _ (List.mem_of_getElem? hz)
      have dg : ∀ {H' : Hp}, Ext HL H' → DGet H' p (.str z) (some v) := fun x => .inl ⟨kd d, Sum.inr z, .inr ⟨od, x _ _ pL⟩, rfl, by rw [val_kd, gz]⟩
      refine ⟨_, rfl, t, dx, fs, rfl, x4 _ _ tL, meth _ (by decide), _, rfl, t, q, fo, th, d, _, rfl, trL.ext x4, .inl ⟨z, rfl, mz, ?_⟩⟩
      rw [gz]
      refine ⟨_, rfl, _, rfl, p, v, rfl, dg x4, scal_opt ov, _, rfl, ?_⟩
      refine iteF' (by show (!decide (v = v)) = false; rw [decide_eq_true rfl]; rfl) ?_
      refine ⟨_, rfl, t, dx, fs, rfl, x4 _ _ tL, meth _ (by decide), _, rfl, t, q, fo, th, d, _, rfl, trL.ext x4, .inl ⟨z, rfl, mz, fun ta Ha xa sa => ?_⟩⟩
      have x4a := x4.trans xa
      refine ⟨_, rfl, _, rfl, p, d, fo, fo ++ th, z, rfl, .inr ⟨od, x4a _ _ pL⟩, ups, n100, mz, fun l Hl xl hl ll => ?_⟩
      refine ⟨l, _, rfl, .inl (SqL.of ll), fun tb Hb xb sb => ?_⟩
      refine ⟨_, _, .tup ((sa.ext xl).ext xb) (dpAll_str _), .tup sb (dpAll_str _), shaped_strT _ (abok z), shaped_strT _ (abok z), _, rfl, ?_⟩
      rw [eqv_strT]
      refine iteF' (by rw [decide_eq_true rfl]; rfl) ?_
      have xb0 := x4a.trans (xl.trans xb)
      obtain ⟨bs, hbs⟩ : ∃ bs, bs = fo.map fun g => decide (g ∈ abv d z) := ⟨_, rfl⟩
      have bl : bs.length = fo.length := by rw [hbs, List.length_map]
      have bat : ∀ {k : Nat} {g : Str}, fo[k]? = some g → bs.take (k + 1) = bs.take k ++ [decide (g ∈ abv d z)] := fun {k g} hg => by
        rw [List.take_add_one, hbs, List.getElem?_map, hg]
        rfl
      have f5 := xb0 _ _ fL
      have szB : ∀ k, ((bs.take k).map V.bl).length < sizeLine := fun k => by
        rw [List.length_map, List.length_take, sizeLine_eq]
        omega
      refine ⟨_, rfl, lf, rfl, ⟨_, SqL.of f5⟩, fun D hD => ?_⟩
      refine lc_list (K := K) (a := lf) (xs := fo.map V.str) (fun k H' => Ext Hb H' ∧ H' D = some (.lst ((bs.take k).map V.bl))) ⟨Ext.upd hD, upd_same⟩ (fun k H' _ w => SqL.of (w.1 _ _ f5)) ?_ ?_
      · rintro k v H6 hv ⟨x6, d6⟩
        obtain ⟨g, hg, rfl⟩ := strs_at hv
        refine ⟨rfl, ?_⟩
        refine lcYes ?_
        refine ⟨_, rfl, t, dx, fs, rfl, (xb0.trans x6) _ _ tL, meth _ (by decide), _, rfl, _, rfl, t, q, fo, th, d, _, _, rfl, trL.ext (xb0.trans x6), .inr ⟨z, rfl, mz, .inl ⟨g, rfl, List.mem_of_getElem? hg, fun H7 x7 => ?_⟩⟩⟩
        refine ⟨_, x7 _ _ d6, szB k, (x6.trans x7).over hD, ?_⟩
        rw [upd_same, bat hg, List.map_append]
        rfl
      rintro H6 ⟨x6, d6⟩
      rw [List.length_map, ← bl, List.take_length] at d6
      have xb6 := xb0.trans x6
      have f6 := xb6 _ _ fL
      refine ⟨_, rfl, _, rfl, lf, rfl, ⟨_, SqL.of f6⟩, fun D2 hD2 => ?_⟩
      refine lc_list (K := K) (a := lf) (xs := fo.map V.str) (fun k H' => Ext H6 H' ∧ H' D2 = some (.lst ((bs.take k).map V.bl))) ⟨Ext.upd hD2, upd_same⟩ (fun k H' _ w => SqL.of (w.1 _ _ f6)) ?_ ?_
      · rintro k v H7 hv ⟨x7, d7⟩
        obtain ⟨g, hg, rfl⟩ := strs_at hv
        refine ⟨rfl, ?_⟩
        refine lcYes ?_
        refine ⟨_, rfl, _, rfl, _, rfl, p, d, fo, fo ++ th, z, rfl, .inr ⟨od, (xb6.trans x7) _ _ pL⟩, ups, n100, mz, fun l2 H8 x8 hl2 ll2 => ?_⟩
        refine ⟨l2, _, rfl, .inl (SqL.of ll2), rfl, flat_strs _, ?_⟩
        refine ⟨_, x8 _ _ d7, szB k, (x7.trans x8).over hD2, ?_⟩
        rw [upd_same, bat hg, List.map_append, inV_str]
        rfl
      rintro H7 ⟨x7, d7⟩
      rw [List.length_map, ← bl, List.take_length] at d7
      refine ⟨_, _, .lst (SqL.of (x7 _ _ d6)) (dpAll_bl bs), .lst (SqL.of d7) (dpAll_bl bs), shaped_bl bs, shaped_bl bs, _, rfl, ?_⟩
      rw [eqv_bl]
      refine iteF' rfl ?_
      have d67 := x7 _ _ d6
      refine ⟨_, rfl, D, rfl, ⟨_, SqL.of d67⟩, fun D3 hD3 => ?_⟩
      refine lc_list (K := K) (a := D) (xs := bs.map V.bl) (fun k H' => Ext H7 H' ∧ H' D3 = some (.lst ((List.replicate k true).map V.bl))) ⟨Ext.upd hD3, upd_same⟩ (fun k H' _ w => SqL.of (w.1 _ _ d67)) ?_ ?_
      · rintro k v H8 hv ⟨x8, d8⟩
        have kl := (List.getElem?_eq_some_iff.mp hv).1
        rw [List.length_map] at kl
        obtain ⟨b, rfl⟩ : ∃ b, v = .bl b := by
          obtain ⟨b, _, e⟩ := List.mem_map.mp (List.mem_of_getElem? hv)
          exact ⟨b, e.symm⟩
        refine ⟨rfl, ?_⟩
        refine lcYes ?_
        refine ⟨_, rfl, .bl b, .ty "bool", .type "bool", .type "bool", true, rfl, .ty _, .base (.bl b), rfl, ?_⟩
        refine ⟨_, d8, ?_, x8.over hD3, ?_⟩
        · rw [List.length_map, List.length_replicate, sizeLine_eq]; omega
        · rw [upd_same, List.replicate_succ', List.map_append]
          rfl
      rintro H8 ⟨x8, d8⟩
      refine ⟨D3, _, rfl, SqL.of d8, ?_⟩
      have eall : (List.replicate (bs.map V.bl).length true).all id = true := by simp
      rw [eall]
      refine ⟨_, rfl, ?_⟩
      refine iteF ?_
      exact ⟨⟨_, _, _, _, rfl⟩, xb6.trans (x7.trans x8)⟩
    rintro σ H4 ⟨⟨v4, v5, v6, v7, rfl⟩, x4⟩
    refine ⟨x4 _ _ pL, ?_⟩
    obtain ⟨H5, hH5⟩ : ∃ H5, H5 = L2.upd H4 p (.dK (kd d)) := ⟨_, rfl⟩
    rw [← hH5]
    have x5 : Ext H H5 := by
      rw [hH5]
      exact ext_unlock hp (by rw [← hHL]; exact x4)
    clear x4 hH5 tL fL trL pL hHL HL H4
    refine ⟨_, rfl, lf, rfl, ⟨_, SqL.of (x5 _ _ hf)⟩, for_list (K := K) (a := lf) (xs := fo.map V.str) (fun i σ H' => (∃ v4 v5 v6 v7, σ = [some (.ref t), some (.ref h), some (.ref p), some (.ref lf), v4, v5, v6, v7]) ∧ Ext H H') ⟨⟨_, _, _, _, rfl⟩, x5⟩ (fun i σ H' _ w => SqL.of (w.2 _ _ hf)) ?_ ?_⟩
    · rintro i v σ H6 hv ⟨⟨v4, v5, v6, v7, rfl⟩, x6⟩
      obtain ⟨g, hg, rfl⟩ := strs_at hv
      have mg : g ∈ fo := List.mem_of_getElem? hg
      refine ⟨_, rfl, t, dx, fs, rfl, x6 _ _ h1, meth _ (by decide), _, rfl, t, q, fo, th, d, _, rfl, tr.ext x6, .inl ⟨g, rfl, mg, fun ta Ha xa sa => ?_⟩⟩
      have x6a := x6.trans xa
      have pa := x6a _ _ hp
      refine ⟨p, .dK (kd d), pa, True.intro, fun od => ?_⟩
      obtain ⟨HL, hHL⟩ : ∃ HL, HL = L2.upd Ha p (.frz od (.dK (kd d))) := ⟨_, rfl⟩
      rw [← hHL]
      have pL : HL p = some (.frz od (.dK (kd d))) := by rw [hHL, upd_same]
      obtain ⟨ns, hns⟩ : ∃ ns, ns = fo ++ th := ⟨_, rfl⟩
      rw [← hns] at sa ups n100
      have kns : d.map (·.1) = ns := by rw [hns]; exact ly.keys
      have dl : d.length = ns.length := by rw [← kns, List.length_map]
      refine ⟨_, rfl, p, od, rfl, .inl ⟨kd d, pL, fun D hD => ?_⟩⟩
      refine lc_it (walk_keys (kvs := kd d)) (fun i H' => Ext HL H' ∧ H' D = some (.lst (((ns.take i).filter fun z => decide (g ∈ abv d z)).map V.str))) ⟨Ext.upd hD, upd_same⟩ (fun i H' _ w => w.1 _ _ pL) ?_ ?_
      · rintro k x H7 H7' hi ⟨x7, d7⟩ ⟨rfl, ky, v, e, rfl⟩
        obtain ⟨z, hz, rfl⟩ := kd_at e
        have nz : ns[k]? = some z := by
          rw [← kns, List.getElem?_map, hz]
          rfl
        have mz := List.mem_of_getElem? nz
        have tk : ns.take (k + 1) = ns.take k ++ [z] := by
          rw [List.take_add_one, nz]
          rfl
        rw [tk]
        refine ⟨rfl, ?_⟩
        refine ⟨_, rfl, _, rfl, _, rfl, p, d, fo, ns, z, rfl, .inr ⟨od, x7 _ _ pL⟩, ups, n100, mz, fun l2 H8 x8 hl2 ll2 => ?_⟩
        refine ⟨l2, _, rfl, .inl (SqL.of ll2), rfl, flat_strs _, _, rfl, ?_⟩
        rw [inV_str]
        have d8 := x8 _ _ d7
        have cc : ∀ {b : Bool}, (if false = true then !b else b) = true → b = true := fun h => h
        refine ite2 (fun c => ?_) fun c => ?_
        · refine ⟨_, rfl, _, d8, ?_, (x7.trans x8).over hD, ?_⟩
          · rw [List.length_map]
            refine Nat.lt_of_le_of_lt (List.length_filter_le _ _) ?_
            rw [List.length_take, sizeLine_eq]
            omega
          · rw [upd_same, List.filter_append, List.filter_cons, if_pos (cc c), List.map_append]
            rfl
        · refine ⟨x7.trans x8, ?_⟩
          rw [d8, List.filter_append, List.filter_cons, if_neg (show ¬ decide (g ∈ abv d z) = true from c), List.filter_nil, List.append_nil]
      rintro H7 ⟨x7, d7⟩
      rw [kd_len, dl, List.take_length] at d7
      refine ⟨x7 _ _ pL, ?_⟩
      obtain ⟨H8, hH8⟩ : ∃ H8, H8 = L2.upd H7 p (.dK (kd d)) := ⟨_, rfl⟩
      rw [← hH8]
      have x8 : Ext Ha H8 := by
        rw [hH8]
        exact ext_unlock pa (by rw [← hHL]; exact x7)
      have pD : D ≠ p := fun e => by
        rw [e, pL] at hD
        cases hD
      have d8 : H8 D = some (.lst ((ns.filter fun z => decide (g ∈ abv d z)).map V.str)) := by
        rw [hH8, upd_ne pD]
        exact d7
      refine ⟨D, _, rfl, .inl (SqL.of d8), fun tb Hb xb sb => ?_⟩
      have bok : OkS (ns.filter fun z => decide (g ∈ abv d z)) := fun y hy => okS y (by rw [← hns]; exact (List.mem_filter.mp hy).1)
      refine ⟨_, _, .tup ((sa.ext x8).ext xb) (dpAll_str _), .tup sb (dpAll_str _), shaped_strT _ bok, shaped_strT _ bok, _, rfl, ?_⟩
      rw [eqv_strT]
      refine iteF' (by rw [decide_eq_true rfl]; rfl) ?_
      exact ⟨⟨_, _, _, _, rfl⟩, x6a.trans (x8.trans xb)⟩
    · rintro σ H6 ⟨⟨v4, v5, v6, v7, rfl⟩, x6⟩
      exact q' H6 x6
end
end My

namespace My
open PySem PySem.Spec PyProof.Rows L2
def spIsRing (K : PySem.W.Frag) : Sp := fun vs H Q _ => ∃ p t fo th d way, vs = [.ref p, .ref t] ∧ H p = some (.dK (kd d)) ∧ LyD fo th d ∧ (fo ++ th).length ≤ 100 ∧ (fo ++ th).Nodup ∧ OkS (fo ++ th) ∧ SqT K H t (way.map V.str) ∧ RingOk fo d way ∧ ∀ H', Ext H H' → Q (.bl true) H'
/-- what is asked of the errors -/
structure RefT (K : PySem.W.Frag) (mg : Str → Option Value) (CN CF CR : Addr) : Prop where
  gN : mg "NoNode" = some (.ref CN)
  gF : mg "NoFolder" = some (.ref CF)
  gR : mg "Ringed" = some (.ref CR)
  xN : XfC K CN
  xF : XfC K CF
  xR : XfC K CR
  nN : PySem.W.findIn K (.ref CN) "node" = some none
  nF : PySem.W.findIn K (.ref CF) "folder" = some none
  nR : PySem.W.findIn K (.ref CR) "folders" = some none
  nn : PySem.W.exmOne K (.ref CN) (.ref CN) = some true
  fn : PySem.W.exmOne K (.ref CF) (.ref CN) = some false
  ff : PySem.W.exmOne K (.ref CF) (.ref CF) = some true
  rn : PySem.W.exmOne K (.ref CR) (.ref CN) = some false
  rf : PySem.W.exmOne K (.ref CR) (.ref CF) = some false
  rr : PySem.W.exmOne K (.ref CR) (.ref CR) = some true
def spLMoved (K : PySem.W.Frag) (CT C : Addr) : Sp := fun vs H Q _ => ∃ a q fo th d x y, vs = [.ref a, x, y] ∧ TreeAt H K CT C a q fo th d ∧ ((NotIn K H (fo ++ th) x ∧ ∀ r H', Ext H H' → H r = none → H' r = some (.tup [.str "node", x]) → Q (.ref r) H') ∨ ∃ z, x = .str z ∧ z ∈ fo ++ th ∧
  ((y ≠ .non ∧ NotIn K H fo y ∧ ∀ r H', Ext H H' → H r = none → H' r = some (.tup [.str "folder", y]) → Q (.ref r) H') ∨ (Opt fo y ∧ (Acy (setD d z y) → ∀ r t q' H', Ext H H' → H r = none → H' r = some (.tup [.str "tree", .ref t]) → H t = none → H q' = none → TreeAt H' K CT C t q' fo th (setD d z y) → Q (.ref r) H') ∧
    ∀ r t way H', Ext H H' → H r = none → H' r = some (.tup [.str "ring", .ref t]) → SqT K H' t (way.map V.str) → RingOk fo (setD d z y) way → Q (.ref r) H')))
abbrev nm__law_moved : List Str := ["_law_tree_here", "_law_node", "_law_folder", "e"]
theorem sc__law_moved : FnScope nm__law_moved ["_law_tree_here", "_law_node", "_law_folder"] (defScope s__law_moved) := ⟨rfl, rfl, rfl, by decide +kernel, rfl, by decide +kernel, by decide +kernel⟩
theorem ty_sqT {K : PySem.W.Frag} {H : Hp} {t : Addr} {xs : List V} (st : SqT K H t xs) : TyX K H (.ref t) (.type "tuple") := by
  rcases st with (h | ⟨o, h⟩) | ⟨o, its, n, h, c, _⟩
  · exact .base (.tup h)
  · exact .fTuple h
  · exact .kTuple h c
/-- as many nodes stand in a ring as it has -/
theorem ring_len {ns way : List Str} (nd : ns.Nodup) (nw : way.Nodup) (sub : ∀ z, z ∈ way → z ∈ ns) : (ns.filter fun z => decide (z ∈ way)).length = way.length := by
  refine Nat.le_antisymm ?_ ?_
  · exact (List.filter_sublist.nodup nd).length_le_of_subset fun z hz => of_decide_eq_true (List.mem_filter.mp hz).2
  · exact nw.length_le_of_subset fun z hz => List.mem_filter.mpr ⟨sub z hz, decide_eq_true hz⟩
theorem sl_hi {K : PySem.W.Frag} {H : Hp} {t : Addr} {xs : List V} {Q : VK} (st : SqT K H t xs) (ne : 1 ≤ xs.length) (q : ∀ b H', Ext H H' → SqT K H' b (xs.take 1) → Q (.ref b) H') : rSlA K (.ref t) none (some 1) H Q := by
  refine ⟨t, xs, rfl, st, fun e => ?_, fun _ b hb => ?_⟩
  · have e2 : HT.sIx xs.length xs.length (some ((1 : Nat) : Int)) = xs.length := e.2
    rw [HT.sIx_nat] at e2
    refine q t H Ext.rfl' ?_
    rw [List.take_of_length_le (by omega)]
    exact st
  · refine q b _ (Ext.upd hb) ?_
    rw [show cutV xs none (some (1 : Int)) = xs.take 1 from cutV_take ne]
    exact SqT.of upd_same
theorem sl_lo {K : PySem.W.Frag} {H : Hp} {t : Addr} {xs : List V} {Q : VK} (st : SqT K H t xs) (ne : 1 ≤ xs.length) (q : ∀ b H', Ext H H' → SqT K H' b (xs.drop 1) → Q (.ref b) H') : rSlA K (.ref t) (some 1) none H Q := by
  refine ⟨t, xs, rfl, st, fun e => ?_, fun _ b hb => ?_⟩
  · have e1 : HT.sIx xs.length 0 (some ((1 : Nat) : Int)) = 0 := e.1
    rw [HT.sIx_nat] at e1
    omega
  · refine q b _ (Ext.upd hb) ?_
    rw [show cutV xs (some (1 : Int)) none = xs.drop 1 from cutV_drop ne]
    exact SqT.of upd_same
abbrev nm__law_is_ring : List Str := ["_law_ups", "_law_ring", "_law_x"]
theorem sc__law_is_ring : FnScope nm__law_is_ring ["_law_ups", "_law_ring"] (defScope s__law_is_ring) := ⟨rfl, rfl, rfl, by decide +kernel, rfl, by decide +kernel, by decide +kernel⟩
section
variable {P : Program} {w : World} {K : PySem.W.Frag} {mg : Str → Option Value} {base : Heap} {f C CT CN CF CR CB : Addr} {fd : FuncData}
theorem ok_isRing (Fn : FnP K "_law_is_ring" s__law_is_ring f fd) (gB_tuple : mg "tuple" = none) (gB_list : mg "list" = none) (gB_isinstance : mg "isinstance" = none) (gB_len : mg "len" = none) : FnOk P w K mg base CX0 2 f fd ["_law_ups", "_law_ring"] (spIsRing K) := by
  refine Fn.ok sc__law_is_ring (fun vs H Q E h => ?_) (fun cdv A outer s H vs Q E hr h => ⟨_, PSs.nox
    (pss_cons (ps_if (PW.pt (pw_or (pt_not (pt_val (pe_callB call_isi (by rfl) gB_isinstance boot_isinstance (pa_cons (pv 1) (pa_cons (pe_bltn (v := .ty "tuple") (by rfl) gB_tuple boot_tuple rfl) pa_nil))))) (pw_or (pt_cmpR (op_eqD hr.units) (pv 1) (pe_tup pa_nil) (nomark _)) (pw_or1 (pt_cmpR op_ne (pe_callB call_len (by rfl) gB_len boot_len (pa_cons (pe_lock (pe_lc (own := [("_law_x", 2)]) (g := (gName 2)) rfl sc__law_is_ring.nd (pi_keys (pv 0)) (blkOk_by (N := nm__law_is_ring) (sc := defScope s__law_is_ring) (by decide +kernel)) (fun _ _ _ _ _ => (pg_name (i := 2) sc__law_is_ring.nd rfl (Or.inl rfl))) (fun _ _ _ _ _ => pts_one (pt_cmpR (opK (r := fun K => rIn K false) (K := K) rfl op_in_seq) (pv 2) (pv 1) (by rfl))) (fun _ _ _ _ _ => (pv 2)))) pa_nil)) (pe_callB call_len (by rfl) gB_len boot_len (pa_cons (pv 1) pa_nil)) (nomark _)))))) (pss_one (ps_ret pe_bl)) pss_nil)
      (pss_one (ps_ret (pe_cmpR (op_eqD hr.units) (pe_lc (own := [("_law_x", 2)]) (g := (gName 2)) (tt := tYes) rfl sc__law_is_ring.nd (pi_tup (pv 1)) (blkOk_by (N := nm__law_is_ring) (sc := defScope s__law_is_ring) (by decide +kernel)) (fun _ _ _ _ _ => (pg_name (i := 2) sc__law_is_ring.nd rfl (Or.inl rfl))) (fun _ _ _ _ _ => pts_nil) (fun _ _ _ _ _ => (pe_dget (hu_of hr) (pv 0) (pv 2) (fun _ _ => rfl)))) (pe_callTy call_lstS (by rfl) gB_list (by decide +kernel) (pa_cons (pe_op op_cat (pe_slice sl_tupA (pv 1) (po_some pe_int) po_none) (pe_slice sl_tupA (pv 1) po_none (po_some pe_int))) pa_nil)) (nomark _))))), ?_⟩)
  · obtain ⟨p, t, fo, th, d, way, rfl, _⟩ := h
    rfl
  · obtain ⟨p, t, fo, th, d, way, rfl, hp, ly, n100, nd, okS, st, ring, q⟩ := h
    refine ⟨_, rfl, .ref t, .ty "tuple", .type "tuple", .type "tuple", true, rfl, .ty _, ty_sqT st, rfl, true, rfl, ?_⟩
    refine iteF ?_
    obtain ⟨ns, hns⟩ : ∃ ns, ns = fo ++ th := ⟨_, rfl⟩
    rw [← hns] at n100 nd okS
    have sub : ∀ z, z ∈ way → z ∈ ns := fun z hz => by
      rw [hns]
      exact List.mem_append_left _ (ring.sub z hz)
    have wok : OkS way := fun z hz => okS z (sub z hz)
    have kns : d.map (·.1) = ns := by rw [hns]; exact ly.keys
    have dl : d.length = ns.length := by rw [← kns, List.length_map]
    have wl : way.length ≤ 100 := Nat.le_trans (ring.nd.length_le_of_subset sub) n100
    refine ⟨_, rfl, Nat.zero_le _, fun e he => ?_⟩
    have xe := Ext.upd (o := .tup []) he
    refine ⟨_, _, .tup (st.ext xe) (dpAll_str way), .tup (SqT.of upd_same) (dpAll_str []), shaped_strT _ wok, shaped_strT [] (fun z hz => by cases hz), _, rfl, ?_⟩
    rw [show PyData.eqv (.tuple (way.map PyData.str)) (.tuple (([] : List Str).map PyData.str)) = decide (way = []) from eqv_strT way []]
    refine iteF' (decide_eq_false ring.ne) ?_
    obtain ⟨H1, hH1⟩ : ∃ H1, H1 = L2.upd H e (.tup []) := ⟨_, rfl⟩
    rw [← hH1] at xe ⊢
    have p1 := xe _ _ hp
    refine ⟨p, .dK (kd d), p1, True.intro, fun od => ?_⟩
    obtain ⟨HL, hHL⟩ : ∃ HL, HL = L2.upd H1 p (.frz od (.dK (kd d))) := ⟨_, rfl⟩
    rw [← hHL]
    have pL : HL p = some (.frz od (.dK (kd d))) := by rw [hHL, upd_same]
    have stL : SqT K HL t (way.map V.str) := by rw [hHL]; exact seqT_dk (st.ext xe) p1
    refine ⟨_, rfl, p, od, rfl, .inl ⟨kd d, pL, fun D hD => ?_⟩⟩
    refine lc_it (walk_keys (kvs := kd d)) (fun i H' => Ext HL H' ∧ H' D = some (.lst (((ns.take i).filter fun z => decide (z ∈ way)).map V.str))) ⟨Ext.upd hD, upd_same⟩ (fun i H' _ w => w.1 _ _ pL) ?_ ?_
    · rintro k x H7 H7' hi ⟨x7, d7⟩ ⟨rfl, ky, v, e, rfl⟩
      obtain ⟨z, hz, rfl⟩ := kd_at e
      have nz : ns[k]? = some z := by
        rw [← kns, List.getElem?_map, hz]
        rfl
      have tk : ns.take (k + 1) = ns.take k ++ [z] := by
        rw [List.take_add_one, nz]
        rfl
      rw [tk]
      refine ⟨rfl, ?_⟩
      refine ⟨_, rfl, _, rfl, t, _, rfl, .inr (stL.ext x7), rfl, flat_strs _, _, rfl, ?_⟩
      show if (if false = true then !inV (.str z) (way.map V.str) else inV (.str z) (way.map V.str)) = true then _ else _
      rw [inV_str]
      have cc : ∀ {b : Bool}, (if false = true then !b else b) = true → b = true := fun h => h
      refine ite2 (fun c => ?_) fun c => ?_
      · refine ⟨_, rfl, _, d7, ?_, x7.over hD, ?_⟩
        · rw [List.length_map]
          refine Nat.lt_of_le_of_lt (List.length_filter_le _ _) ?_
          rw [List.length_take, sizeLine_eq]
          omega
        · rw [upd_same, List.filter_append, List.filter_cons, if_pos (cc c), List.map_append]
          rfl
      · refine ⟨x7, ?_⟩
        rw [d7, List.filter_append, List.filter_cons, if_neg (show ¬ decide (z ∈ way) = true from c), List.filter_nil, List.append_nil]
    rintro H7 ⟨x7, d7⟩
    rw [kd_len, dl, List.take_length] at d7
    refine ⟨x7 _ _ pL, ?_⟩
    obtain ⟨H8, hH8⟩ : ∃ H8, H8 = L2.upd H7 p (.dK (kd d)) := ⟨_, rfl⟩
    rw [← hH8]
    have x8 : Ext H1 H8 := by
      rw [hH8]
      exact ext_unlock p1 (by rw [← hHL]; exact x7)
    have pD : D ≠ p := fun e => by
      rw [e, pL] at hD
      cases hD
    have d8 : H8 D = some (.lst ((ns.filter fun z => decide (z ∈ way)).map V.str)) := by
      rw [hH8, upd_ne pD]
      exact d7
    have st8 := (st.ext xe).ext x8
    have p8 := x8 _ _ p1
    refine ⟨_, _, rfl, .inl ⟨_, SqL.of d8, rfl⟩, _, rfl, _, _, rfl, .inr ⟨_, st8, rfl⟩, rfl, _, rfl, ?_⟩
    refine iteF' (by
      show (!decide (V.int _ = V.int _)) = false
      rw [List.length_map, List.length_map, ring_len nd ring.nd sub, decide_eq_true rfl]
      rfl) ?_
    refine ⟨_, rfl, t, rfl, ⟨_, st8⟩, fun D2 hD2 => ?_⟩
    obtain ⟨vs, hvs⟩ : ∃ vs, vs = way.map fun z => (getD d z).getD .non := ⟨_, rfl⟩
    have vl : vs.length = way.length := by rw [hvs, List.length_map]
    refine lc_tup (K := K) (a := t) (xs := way.map V.str) (fun k H' => Ext H8 H' ∧ H' D2 = some (.lst (vs.take k))) ⟨Ext.upd hD2, upd_same⟩ (fun k H' _ w => st8.ext w.1) ?_ ?_
    · rintro k v H9 hv ⟨x9, d9⟩
      obtain ⟨z, hz, rfl⟩ := strs_at hv
      have mz := sub z (List.mem_of_getElem? hz)
      refine ⟨rfl, ?_⟩
      refine lcYes ?_
      refine ⟨_, rfl, _, rfl, p, _, rfl, dget_ly ly (x9 _ _ p8) (by rw [← hns]; exact mz), ?_⟩
      refine ⟨_, d9, by rw [List.length_take, sizeLine_eq]; omega, x9.over hD2, ?_⟩
      rw [upd_same, List.take_add_one, hvs, List.getElem?_map, hz]
      rfl
    rintro H9 ⟨x9, d9⟩
    rw [List.length_map, ← vl, List.take_length, hvs, ring.up] at d9
    have st9 := st8.ext x9
    have w1 : 1 ≤ (way.map V.str).length := by
      rw [List.length_map]
      cases way with
      | nil => exact absurd rfl ring.ne
      | cons a b => exact Nat.succ_pos _
    have lmw : (way.map V.str).length = way.length := List.length_map _
    refine ⟨_, rfl, _, rfl, ?_⟩
    dsimp only [tNoPart]
    refine sl_lo st9 w1 fun t1 H10 x10 s1 => ?_
    dsimp only [tSl, tNoPart, tPart]
    refine ⟨_, rfl, _, rfl, ?_⟩
    refine sl_hi (st9.ext x10) w1 fun t2 H11 x11 s2 => ?_
    refine ⟨t1, t2, _, _, rfl, rfl, s1.ext x11, s2, by rw [List.length_append, List.length_drop, List.length_take, sizeLine_eq]; omega, fun t3 H12 x12 s3 => ?_⟩
    have e3 : (way.map V.str).drop 1 ++ (way.map V.str).take 1 = (way.drop 1 ++ way.take 1).map V.str := by rw [List.map_append, List.map_drop, List.map_take]
    rw [e3] at s3
    refine ⟨t3, _, rfl, .inr s3, fun l hl => ?_⟩
    have xl := Ext.upd (o := .lst ((way.drop 1 ++ way.take 1).map V.str)) hl
    have dok : OkS (way.drop 1 ++ way.take 1) := fun z hz => wok z ((List.mem_append.mp hz).elim (fun h => List.mem_of_mem_drop h) fun h => List.mem_of_mem_take h)
    refine ⟨_, _, .lst (SqL.of (((x10.trans x11).trans (x12.trans xl)) _ _ d9)) (dpAll_str _), .lst (SqL.of upd_same) (dpAll_str _), shaped_strL _ dok, shaped_strL _ dok, ?_⟩
    rw [show PyData.eqv (.list ((way.drop 1 ++ way.take 1).map PyData.str)) (.list ((way.drop 1 ++ way.take 1).map PyData.str)) = decide (way.drop 1 ++ way.take 1 = way.drop 1 ++ way.take 1) from eqvAll_str _ _, decide_eq_true rfl]
    exact q _ (xe.trans (x8.trans (x9.trans ((x10.trans x11).trans (x12.trans xl)))))
theorem ok_lmoved (Fn : FnP K "_law_moved" s__law_moved f fd) (Y : TreeTxt P w K mg CT C CN CF CR) (R : RefT K mg CN CF CR) : FnOk P w K mg base CX0 9 f fd ["_law_tree_here", "_law_node", "_law_folder"] (spLMoved K CT C) := by
  refine Fn.ok sc__law_moved (fun vs H Q E h => ?_) (fun cdv A outer s H vs Q E hr h => ⟨_, PSs.nox (pss_one (ps_try_all
      (tb := fun W D σ H => ∃ Ech : XK, (∀ cls d σ' H', Ech cls d H' → W cls d σ' H') ∧ tRet (tTup (tCons (tC (.str "tree")) (tCons (tMeth CT "moved" (spTMoved K CT C CN CF CR) [] Ech (tVar 0) (tCons (tVar 1) (tCons (tVar 2) tNil))) tNil))) D σ H)
      rfl rfl sc__law_moved.nd L2.takes0 (fun W pn xe tk _ => ?_)
      (.as (i := 3) rfl rfl ⟨rfl, by decide, .inl R.gN⟩ (fun a oe cls d pn hz hf => pss_one (ps_ret (pe_tup (pa_cons pe_str (pa_cons (pe_xf R.xN R.nN hz hf (pv 3)) pa_nil)))))
      (.as (i := 3) rfl rfl ⟨rfl, by decide, .inl R.gF⟩ (fun a oe cls d pn hz hf => pss_one (ps_ret (pe_tup (pa_cons pe_str (pa_cons (pe_xf R.xF R.nF hz hf (pv 3)) pa_nil)))))
      (.as (i := 3) rfl rfl ⟨rfl, by decide, .inl R.gR⟩ (fun a oe cls d pn hz hf => pss_one (ps_ret (pe_tup (pa_cons pe_str (pa_cons (pe_xf R.xR R.nR hz hf (pv 3)) pa_nil))))) .nil))))), ?_⟩)
  · obtain ⟨a, q, fo, th, d, x, y, rfl, _⟩ := h
    rfl
  · refine ⟨fun pins s' σ H' D I h' => ?_⟩
    obtain ⟨Ech, hW, h1⟩ := h'
    exact (pss_one (ps_ret (pe_tup (pa_cons pe_str (pa_cons (pe_meth (pv 0) Y.T.cl Y.mM (Y.M _) (hr.mono (by decide)) Y.bM .nil (passes_call tk hW) (pa_cons (pv 1) (pa_cons (pv 2) pa_nil))) pa_nil))))).run pins s' σ H' D I h1
  · obtain ⟨a, q, fo, th, d, x, y, rfl, tr, hh⟩ := h
    obtain ⟨dx, fs, ho, h1, h2, h3, h4, h5, ly, acy, len, nd, meth⟩ := id tr
    refine ⟨fun cls d H' => ∃ (dd : Addr) (v : V) (wd : Str), d = some dd ∧ ((cls = .ref CN ∧ wd = "node" ∧ H' dd = some (.xd [("node", v)])) ∨ (cls = .ref CF ∧ wd = "folder" ∧ H' dd = some (.xd [("folder", v)])) ∨ (cls = .ref CR ∧ wd = "ring" ∧ H' dd = some (.xd [("folders", v)]))) ∧ ∀ t, H' t = none → Q (.ref t) (L2.upd H' t (.tup [.str wd, v])), fun cls d σ' H' hE => ?_, ?_⟩
    · obtain ⟨dd, v, wd, rfl, hk, hq⟩ := hE
      have slot : ∀ a : Addr, 3 < σ'.length → (σ'.set 3 (some (.ref a)))[3]? = some (some (.ref a)) := fun a hl => by rw [List.getElem?_set_self hl]
      rcases hk with ⟨rfl, rfl, hd⟩ | ⟨rfl, rfl, hd⟩ | ⟨rfl, rfl, hd⟩
      · exact ⟨true, R.nn, fun _ a na hl => ⟨_, slot a hl, rfl, rfl, dd, _, v, rfl, hd, rfl, Nat.le_of_ble_eq_true rfl, fun t ht => hq t ht⟩, fun z => nomatch z⟩
      · exact ⟨false, R.fn, (fun z => nomatch z), fun _ => ⟨true, R.ff, fun _ a na hl => ⟨_, slot a hl, rfl, rfl, dd, _, v, rfl, hd, rfl, Nat.le_of_ble_eq_true rfl, fun t ht => hq t ht⟩, fun z => nomatch z⟩⟩
      · exact ⟨false, R.rn, (fun z => nomatch z), fun _ => ⟨false, R.rf, (fun z => nomatch z), fun _ => ⟨true, R.rr, fun _ a na hl => ⟨_, slot a hl, rfl, rfl, dd, _, v, rfl, hd, rfl, Nat.le_of_ble_eq_true rfl, fun t ht => hq t ht⟩, fun z => nomatch z⟩⟩⟩
    · refine ⟨_, rfl, a, dx, fs, rfl, h1, meth _ (by decide), _, rfl, _, rfl, a, q, fo, th, d, x, y, rfl, tr, ?_⟩
      rcases hh with ⟨nin, qn⟩ | ⟨z, rfl, hz, hh⟩
      · exact .inl ⟨nin, fun d' H' e h h' => ⟨d', x, "node", rfl, .inl ⟨rfl, rfl, h'⟩, fun t ht => qn t _ (e.trans (Ext.upd ht)) (ext_none e ht) upd_same⟩⟩
      · refine .inr ⟨z, rfl, hz, ?_⟩
        rcases hh with ⟨yn, nin, qn⟩ | ⟨oy, q1, q2⟩
        · exact .inl ⟨yn, nin, fun d' H' e h h' => ⟨d', y, "folder", rfl, .inr (.inl ⟨rfl, rfl, h'⟩), fun t ht => qn t _ (e.trans (Ext.upd ht)) (ext_none e ht) upd_same⟩⟩
        · refine .inr ⟨oy, fun ac t q' H' e ht hq tr' => ⟨Nat.le_of_ble_eq_true rfl, fun r hr => q1 ac r t q' _ (e.trans (Ext.upd hr)) (ext_none e hr) upd_same ht hq (tr'.ext (Ext.upd hr))⟩, fun d' t way H' e h st h' ring => ⟨d', .ref t, "ring", rfl, .inr (.inr ⟨rfl, rfl, h'⟩), fun r hr => q2 r t way _ (e.trans (Ext.upd hr)) (ext_none e hr) upd_same (st.ext (Ext.upd hr)) ring⟩⟩
end
end My

namespace My
open PySem PySem.Spec PyProof.Rows L2
theorem TreeAt.but {H H' : Hp} {K : PySem.W.Frag} {CT C a q p : Addr} {fo th : List Str} {d : Dic} {ys : List V} (h : TreeAt H K CT C a q fo th d) (hp : H p = some (.lst ys)) (b : But H H' p) : TreeAt H' K CT C a q fo th d := by
  obtain ⟨dx, fs, ho, h1, h2, h3, h4, h5, h6⟩ := h
  exact ⟨dx, fs, ho, b _ _ (ne_of h1 hp (fun z => nomatch z)) h1, h2, h3, hou_butL hp b h4, b _ _ (ne_of h5 hp (fun z => nomatch z)) h5, h6⟩
/-- what stands at a turn -/
structure Sit (K : PySem.W.Frag) (CT C : Addr) (H : Hp) (p lf lt ln h u t q : Addr) (fo th : List Str) (d : Dic) : Prop where
  plS : ∃ ys, H p = some (.lst ys)
  lfS : H lf = some (.lst (fo.map V.str))
  nlfS : lf ≠ p
  ltS : H lt = some (.lst (th.map V.str))
  nltS : lt ≠ p
  lnS : H ln = some (.lst ((fo ++ th).map V.str))
  nlnS : ln ≠ p
  houS : Hou H K C h fo th
  uS : H u = some (.dK (kd d))
  trS : TreeAt H K CT C t q fo th d
  nuqS : u ≠ q
theorem Sit.ext {K : PySem.W.Frag} {CT C : Addr} {H H' : Hp} {p lf lt ln h u t q : Addr} {fo th : List Str} {d : Dic} (s : Sit K CT C H p lf lt ln h u t q fo th d) (e : Ext H H') : Sit K CT C H' p lf lt ln h u t q fo th d :=
  ⟨s.plS.elim fun y h => ⟨y, e _ _ h⟩, e _ _ s.lfS, s.nlfS, e _ _ s.ltS, s.nltS, e _ _ s.lnS, s.nlnS, s.houS.ext e, e _ _ s.uS, s.trS.ext e, s.nuqS⟩
theorem Sit.but {K : PySem.W.Frag} {CT C : Addr} {H H' : Hp} {p lf lt ln h u t q : Addr} {fo th : List Str} {d : Dic} {n : Int} (s : Sit K CT C H p lf lt ln h u t q fo th d) (b : But H H' p) (g : Pool H' p n) : Sit K CT C H' p lf lt ln h u t q fo th d := by
  obtain ⟨y, hy⟩ := s.plS
  exact ⟨g.lst, b _ _ s.nlfS s.lfS, s.nlfS, b _ _ s.nltS s.ltS, s.nltS, b _ _ s.nlnS s.lnS, s.nlnS, hou_butL hy b s.houS, b _ _ (ne_of s.uS hy (fun z => nomatch z)) s.uS, s.trS.but hy b, s.nuqS⟩
/-- what comes of a move -/
def Out (K : PySem.W.Frag) (CT C : Addr) (H H' : Hp) (fo th : List Str) (d : Dic) (kd' : Str) (v : V) : Prop := (kd' = "tree" ∧ ∃ t q, v = .ref t ∧ H q = none ∧ TreeAt H' K CT C t q fo th d) ∨ (kd' = "ring" ∧ ∃ t way, v = .ref t ∧ SqT K H' t (way.map V.str) ∧ RingOk fo d way)
theorem moved_any {K : PySem.W.Frag} {CT C a q : Addr} {H : Hp} {fo th : List Str} {d : Dic} {z : Str} {y : V} {Q : VK} {E : XK} (tr : TreeAt H K CT C a q fo th d) (hz : z ∈ fo ++ th) (oy : Opt fo y)
    (h : ∀ r w v H', Ext H H' → H' r = some (.tup [.str w, v]) → Out K CT C H H' fo th (setD d z y) w v → Q (.ref r) H') : spLMoved K CT C [.ref a, .str z, y] H Q E :=
  ⟨a, q, fo, th, d, _, y, rfl, tr, .inr ⟨z, rfl, hz, .inr ⟨oy, fun _ r t q' H' e _ hr _ hq tr' => h r _ _ H' e hr (.inl ⟨rfl, t, q', rfl, hq, tr'⟩), fun r t way H' e _ hr st ring => h r _ _ H' e hr (.inr ⟨rfl, t, way, rfl, st, ring⟩)⟩⟩⟩
/-- two trees with the same nodes in the same places -/
theorem ne_trees {K : PySem.W.Frag} {CT C a q b q2 : Addr} {H : Hp} {fo th : List Str} {d : Dic} {Q : VK} (T : TreC K CT) (t1 : TreeAt H K CT C a q fo th d) (t2 : TreeAt H K CT C b q2 fo th d) (h : ∀ H', Ext H H' → Q (.bl false) H') : rNeO K CT (spTEq K CT C) E0 (.ref a) (.ref b) H Q := by
  obtain ⟨dx, fs, hi⟩ := t1.ins
  refine ⟨a, dx, fs, .ref CT, rfl, hi, tyT T t2, by simp [PySem.W.notFirst], a, q, fo, th, d, _, rfl, t1, .inr ⟨b, q2, fo, th, d, rfl, t2, fun H' e => ⟨_, rfl, ?_⟩⟩⟩
  have e1 : (!(decide (fo = fo) && (decide (th = th) && decide (d = d)))) = false := by rw [decide_eq_true rfl, decide_eq_true rfl, decide_eq_true rfl]; rfl
  rw [e1]
  exact h H' e
theorem set_back {fo th : List Str} {d : Dic} {z : Str} {v y : V} (ly : LyD fo th d) (nd : (fo ++ th).Nodup) (hz : z ∈ fo ++ th) (hv : getD d z = some v) : setD (setD d z y) z v = d := by
  have m : z ∈ d.map (·.1) := by rw [ly.keys]; exact hz
  refine dic_ext ?_ ?_ fun w _ => ?_
  · rw [set_keys (by rw [set_keys m]; exact m), set_keys m]
  · rw [set_keys (by rw [set_keys m]; exact m), set_keys m, ly.keys]
    exact nd
  · rw [getD_set, getD_set]
    by_cases c : w = z
    · rw [if_pos c, c, hv]
    · rw [if_neg c, if_neg c]
theorem ly_set {fo th : List Str} {d : Dic} {z : Str} {y : V} (ly : LyD fo th d) (hz : z ∈ fo ++ th) (oy : Opt fo y) : LyD fo th (setD d z y) := ⟨by rw [set_keys (by rw [ly.keys]; exact hz), ly.keys], set_ok ly.ok oy⟩
/-- whether a node would lie in itself -/
def hitB (d : Dic) (y : V) (z : Str) : Bool := match y with
  | .str g => decide (g = z) || decide (z ∈ abv d g)
  | _ => false
theorem test_hit {K : PySem.W.Frag} {σ : L2.St} {H : Hp} {Q : Bool → Hp → Prop} {u : Addr} {d : Dic} {y : V} {z : Str} {fo ns : List Str} (hu : Rd H u (.dK (kd d))) (ups : Ups fo ns d) (n100 : ns.length ≤ 100) (oy : Opt fo y) (h11 : σ[11]? = some (some y)) (h10 : σ[10]? = some (some (.str z))) (h6 : σ[6]? = some (some (.ref u)))
    (q : ∀ H', Ext H H' → Q (hitB d y z) H') :
    tAnd (tTest (tOp (fun x y H Q => y = .non ∧ Q (.bl (!decide (x = .non))) H) (tVar 11) (tC .non))) (tOr (tTest (tOp rEq (tVar 11) (tVar 10))) (tTest (tOp (rIn K false) (tVar 10) (tCall (spAbove K) [] E0 (tCons (tVar 6) (tCons (tVar 11) tNil)))))) σ H Q := by
  refine ⟨_, h11, rfl, _, rfl, ?_⟩
  rcases oy with rfl | ⟨g, hg, rfl⟩
  · exact q H Ext.rfl'
  · refine ⟨_, h11, _, h10, rfl, _, rfl, ?_⟩
    have ee : decide (V.str g = V.str z) = decide (g = z) := by
      by_cases e : g = z
      · rw [e, decide_eq_true rfl, decide_eq_true rfl]
      · rw [decide_eq_false e, decide_eq_false fun h => e (by injection h)]
    rw [ee]
    have qq : ∀ H', Ext H H' → Q (decide (g = z) || decide (z ∈ abv d g)) H' := q
    refine ite2 (fun c => ?_) fun c => ?_
    · rw [c, Bool.true_or] at qq
      exact qq H Ext.rfl'
    · rw [show decide (g = z) = false from Bool.eq_false_iff.mpr c, Bool.false_or] at qq
      refine ⟨_, h10, _, h6, _, h11, u, d, fo, ns, g, rfl, hu, ups, n100, ups.sub g hg, fun l H' x hl ll => ?_⟩
      refine ⟨l, _, rfl, .inl (SqL.of ll), rfl, flat_strs _, _, rfl, ?_⟩
      rw [inV_str]
      exact qq H' x
theorem hit_cyc {fo : List Str} {d : Dic} {y : V} {z : Str} (ok : DicOk fo d) (acy : Acy d) (h : hitB d y z = true) : ∃ c, Cyc (setD d z y) c := by
  cases y with
  | str g =>
    have h : (decide (g = z) || decide (z ∈ abv d g)) = true := h
    have h2 : g = z ∨ z ∈ abv d g := by simpa using h
    obtain ⟨n, hn⟩ := (hit_abv ok acy).mpr h2
    exact ⟨z, cyc_set hn⟩
  | _ => cases h
theorem hit_acy {fo : List Str} {d : Dic} {y : V} {z : Str} (ok : DicOk fo d) (acy : Acy d) (oy : Opt fo y) (h : hitB d y z = false) : Acy (setD d z y) := by
  rcases oy with rfl | ⟨g, hg, rfl⟩
  · exact acy_setN acy
  · refine acy_setS acy fun n hn => ?_
    have h : (decide (g = z) || decide (z ∈ abv d g)) = false := h
    have h2 : ¬ (g = z ∨ z ∈ abv d g) := by simpa using h
    exact h2 ((hit_abv ok acy).mp ⟨n, hn⟩)
abbrev nm_law : List Str := ["_law_script", "_law_turn", "_law_pool_here", "_law_folders", "_law_things", "_law_house_here", "_law_ups", "_law_tree_here", "_law_nodes", "_law_step", "_law_node", "_law_folder", "_law_later", "_law_kind", "_law_told", "_law_odd"]
theorem sc_law : FnScope nm_law ["_law_script"] (defScope s_law) := ⟨rfl, rfl, rfl, by decide +kernel, rfl, by decide +kernel, by decide +kernel⟩
def spLaw (K : PySem.W.Frag) : Sp := fun vs H Q _ => ∃ (a : Addr) (ns : List Int), vs = [.ref a] ∧ SqL K H a (ns.map V.int) ∧ ∀ H', Q (.bl true) H'
section
variable {P : Program} {w : World} {K : PySem.W.Frag} {mg : Str → Option Value} {base : Heap} {f C CT CN CF CR CB : Addr} {fd : FuncData}
theorem ok_law (Fn : FnP K "law" s_law f fd) (Z : HouseTxt P w K mg C CB) (Y : TreeTxt P w K mg CT C CN CF CR)
    (h_law_cell : Has P w K mg base 1 "_law_cell" ["_law_script", "_law_k"] (spCell1 K)) (h_law_pool : Has P w K mg base 1 "_law_pool" ["_law_grain"] spPool) (h_law_take : Has P w K mg base 1 "_law_take" ["_law_pool_here", "_law_many"] spTake)
    (h_law_house : Has P w K mg base 3 "_law_house" ["_law_pool_here", "_law_most", "_law_more"] spHouse) (h_law_tree : Has P w K mg base 2 "_law_tree" ["_law_pool_here", "_law_folders", "_law_things"] (spTreeD K)) (h_law_made : Has P w K mg base 8 "_law_made" ["_law_house_here", "_law_ups"] (spMade K CT C))
    (h_law_moved : Has P w K mg base 9 "_law_moved" ["_law_tree_here", "_law_node", "_law_folder"] (spLMoved K CT C)) (h_law_is_right : Has P w K mg base 9 "_law_is_right" ["_law_tree_here", "_law_house_here", "_law_ups", "_law_folders"] (spRight K CT C)) (h_law_is_ring : Has P w K mg base 2 "_law_is_ring" ["_law_ups", "_law_ring"] (spIsRing K)) (h_law_above : Has P w K mg base 1 "_law_above" ["_law_ups", "_law_node"] (spAbove K))
    (gB_range : mg "range" = none) (gB_len : mg "len" = none) (gB_dict : mg "dict" = none) : FnOk P w K mg base CX0 12 f fd ["_law_script"] (spLaw K) := by
  refine Fn.ok sc_law (fun vs H Q E h => ?_) (fun cdv A outer s H vs Q E hr h => ⟨_, PSs.nox
    (pss_cons (ps_for PassesOwn.never rfl (pi_range1 (by rfl) gB_range (pa_cons pe_int pa_nil)) (pg_name (i := 1) sc_law.nd rfl (Or.inl rfl))
      (pss_cons (ps_set (i := 2) sc_law.nd rfl (Or.inl rfl) (pe_has h_law_pool (hr.mono (by decide)) (pa_cons (pe_op op_add (pe_has h_law_cell (hr.mono (by decide)) (pa_cons (pv 0) (pa_cons (pv 1) pa_nil))) (pv 1)) pa_nil)))
      (pss_cons (ps_asg (pe_has h_law_house (hr.mono (by decide)) (pa_cons (pv 2) (pa_cons pe_int (pa_cons pe_int pa_nil)))) (pg_tup rfl (pgs_cons (pg_name (i := 3) sc_law.nd rfl (Or.inl rfl)) (pgs_cons (pg_name (i := 4) sc_law.nd rfl (Or.inl rfl)) pgs_nil))))
      (pss_cons (ps_par (i := 5) (j := 6) rfl sc_law.nd rfl rfl (by decide) rfl rfl (pa_cons (pe_make Z.M (Z.I _) (hr.mono (by decide)) (by rfl) Z.gH Z.bI .nil passL (pa_cons (pv 3) (pa_cons (pv 4) pa_nil))) (pa_cons (pe_has h_law_tree (hr.mono (by decide)) (pa_cons (pv 2) (pa_cons (pv 3) (pa_cons (pv 4) pa_nil)))) pa_nil)) (by rfl))
      (pss_cons (ps_par (i := 7) (j := 8) rfl sc_law.nd rfl rfl (by decide) rfl rfl (pa_cons (pe_has h_law_made (hr.mono (by decide)) (pa_cons (pv 5) (pa_cons (pv 6) pa_nil))) (pa_cons (pe_op L2.op_cat (pv 3) (pv 4)) pa_nil)) (by rfl))
      (pss_cons (ps_for PassesOwn.never rfl (pi_range1 (by rfl) gB_range (pa_cons pe_int pa_nil)) (pg_name (i := 9) sc_law.nd rfl (Or.inl rfl))
      (pss_cons (ps_set (i := 10) sc_law.nd rfl (Or.inl rfl) (pe_ix ix_list (pv 8) (pe_has h_law_take (hr.mono (by decide)) (pa_cons (pv 2) (pa_cons (pe_callB call_len (by rfl) gB_len boot_len (pa_cons (pv 8) pa_nil)) pa_nil))) (fun _ _ => rfl)))
      (pss_cons (ps_set (i := 11) sc_law.nd rfl (Or.inl rfl) (pe_ix ix_list (pe_op L2.op_cat (pe_lst (pa_cons pe_non pa_nil)) (pv 3)) (pe_has h_law_take (hr.mono (by decide)) (pa_cons (pv 2) (pa_cons (pe_op op_add (pe_callB call_len (by rfl) gB_len boot_len (pa_cons (pv 3) pa_nil)) pe_int) pa_nil))) (fun _ _ => rfl)))
      (pss_cons (ps_set (i := 12) sc_law.nd rfl (Or.inl rfl) (pe_callTy call_dictD (by rfl) gB_dict (by decide +kernel) (pa_cons (pv 6) pa_nil)))
      (pss_cons (ps_dput (hu_of hr) (pv 12) (pv 10) (pv 11) rfl)
      (pss_cons (ps_asg (pe_has h_law_moved (hr.mono (by decide)) (pa_cons (pv 7) (pa_cons (pv 10) (pa_cons (pv 11) pa_nil)))) (pg_tup rfl (pgs_cons (pg_name (i := 13) sc_law.nd rfl (Or.inl rfl)) (pgs_cons (pg_name (i := 14) sc_law.nd rfl (Or.inl rfl)) pgs_nil))))
      (pss_cons (ps_if (PW.pt (pw_or (pt_cmpR (op_neO (EI := E0) (hr.mono (by decide)) Y.mE Y.ne Y.T.hm (Y.E _) Y.bE pass0) (pv 7) (pe_has h_law_made (hr.mono (by decide)) (pa_cons (pv 5) (pa_cons (pv 6) pa_nil))) (nomark _)) (pw_or1 (pt_not (pt_val (pe_has h_law_is_right (hr.mono (by decide)) (pa_cons (pv 7) (pa_cons (pv 5) (pa_cons (pv 6) (pa_cons (pv 3) pa_nil)))))))))) (pss_one (ps_ret pe_bl)) pss_nil)
      (pss_one (ps_if (PW.pt (pw_and (pt_cmpR op_notN (pv 11) pe_non (nomark _)) (pw_and1 (PW.pt (pw_or (pt_cmpR op_eq (pv 11) (pv 10) (nomark _)) (pw_or1 (pt_cmpR op_in_seq (pv 10) (pe_has h_law_above (hr.mono (by decide)) (pa_cons (pv 6) (pa_cons (pv 11) pa_nil))) (by rfl)))))))) (pss_one (ps_if (PW.pt (pw_or (pt_cmpR op_ne (pv 13) pe_str (nomark _)) (pw_or1 (pt_not (pt_val (pe_has h_law_is_ring (hr.mono (by decide)) (pa_cons (pv 12) (pa_cons (pv 14) pa_nil)))))))) (pss_one (ps_ret pe_bl)) pss_nil)) (pss_cons (ps_if (PW.pt (pw_or (pt_cmpR op_ne (pv 13) pe_str (nomark _)) (pw_or (pt_cmpR (op_neO (EI := E0) (hr.mono (by decide)) Y.mE Y.ne Y.T.hm (Y.E _) Y.bE pass0) (pv 14) (pe_has h_law_made (hr.mono (by decide)) (pa_cons (pv 5) (pa_cons (pv 12) pa_nil))) (nomark _)) (pw_or1 (pt_not (pt_val (pe_has h_law_is_right (hr.mono (by decide)) (pa_cons (pv 14) (pa_cons (pv 5) (pa_cons (pv 12) (pa_cons (pv 3) pa_nil))))))))))) (pss_one (ps_ret pe_bl)) pss_nil)
      (pss_cons (ps_if (pt_cmpR (op_neO (EI := E0) (hr.mono (by decide)) Y.mE Y.ne Y.T.hm (Y.E _) Y.bE pass0) (pe_meth (pv 14) Y.T.cl Y.mM (Y.M _) (hr.mono (by decide)) Y.bM .nil passL (pa_cons (pv 10) (pa_cons (pe_dget (hu_of hr) (pv 6) (pv 10) (fun _ _ => rfl)) pa_nil))) (pv 7) (nomark _)) (pss_one (ps_ret pe_bl)) pss_nil)
      (pss_one (ps_par (i := 6) (j := 7) rfl sc_law.nd rfl rfl (by decide) rfl rfl (pa_cons (pv 12) (pa_cons (pv 14) pa_nil)) (by rfl))))))))))))))
      (pss_cons (ps_set (i := 15) sc_law.nd rfl (Or.inl rfl) (pe_ix ix_list (pe_lst (pa_cons pe_int (pa_cons pe_str (pa_cons pe_str (pa_cons (pe_tup (pa_cons pe_str pa_nil)) (pa_cons pe_bl (pa_cons (pe_lst (pa_cons pe_str pa_nil)) (pa_cons pe_dnewK pa_nil)))))))) (pe_has h_law_take (hr.mono (by decide)) (pa_cons (pv 2) (pa_cons pe_int pa_nil))) (fun _ _ => rfl)))
      (pss_cons (ps_if (PW.pt (pw_or (pt_cmpR (op_neSelf hr.units0) (pe_has h_law_moved (hr.mono (by decide)) (pa_cons (pv 7) (pa_cons (pv 15) (pa_cons (pv 15) pa_nil)))) (pe_tup (pa_cons pe_str (pa_cons (pv 15) pa_nil))) (by rfl)) (pw_or1 (pt_cmpR (op_neSelf hr.units0) (pe_has h_law_moved (hr.mono (by decide)) (pa_cons (pv 7) (pa_cons pe_non (pa_cons pe_str pa_nil)))) (pe_tup (pa_cons pe_str (pa_cons pe_non pa_nil))) (by rfl))))) (pss_one (ps_ret pe_bl)) pss_nil)
      (pss_cons (ps_if (PW.pt (pw_or (pt_cmpR (op_neSelf hr.units0) (pe_has h_law_moved (hr.mono (by decide)) (pa_cons (pv 7) (pa_cons (pv 15) (pa_cons pe_non pa_nil)))) (pe_tup (pa_cons pe_str (pa_cons (pv 15) pa_nil))) (by rfl)) (pw_or1 (pt_cmpR (op_neSelf hr.units0) (pe_has h_law_moved (hr.mono (by decide)) (pa_cons (pv 7) (pa_cons (pv 15) (pa_cons (pe_ix ix_list (pv 3) pe_int (fun _ _ => rfl)) pa_nil)))) (pe_tup (pa_cons pe_str (pa_cons (pv 15) pa_nil))) (by rfl))))) (pss_one (ps_ret pe_bl)) pss_nil)
      (pss_cons (ps_if (pt_cmpR (op_neSelf hr.units0) (pe_has h_law_moved (hr.mono (by decide)) (pa_cons (pv 7) (pa_cons (pe_ix ix_list (pv 8) pe_int (fun _ _ => rfl)) (pa_cons (pv 15) pa_nil)))) (pe_tup (pa_cons pe_str (pa_cons (pv 15) pa_nil))) (by rfl)) (pss_one (ps_ret pe_bl)) pss_nil)
      (pss_one (ps_if (PW.pt (pw_and (pt_cmpR (op_neD hr.units) (pv 4) (pe_lst pa_nil) (nomark _)) (pw_and1 (pt_cmpR (op_neSelf hr.units0) (pe_has h_law_moved (hr.mono (by decide)) (pa_cons (pv 7) (pa_cons (pe_ix ix_list (pv 8) pe_int (fun _ _ => rfl)) (pa_cons (pe_ix ix_list (pv 4) pe_int (fun _ _ => rfl)) pa_nil)))) (pe_tup (pa_cons pe_str (pa_cons (pe_ix ix_list (pv 4) pe_int (fun _ _ => rfl)) pa_nil))) (by rfl))))) (pss_one (ps_ret pe_bl)) pss_nil))))))))))))
      (pss_one (ps_ret pe_bl))), ?_⟩)
  · obtain ⟨a, ns, rfl, _⟩ := h
    rfl
  · obtain ⟨as, ns, rfl, hsc, q⟩ := h
    refine ⟨3, rfl, by decide, by decide, for_range (lo := 0) (n := 3) (fun _ σ H' => ∃ v1 v2 v3 v4 v5 v6 v7 v8 v9 v10 v11 v12 v13 v14 v15 : Option V, σ = [some (.ref as), v1, v2, v3, v4, v5, v6, v7, v8, v9, v10, v11, v12, v13, v14, v15] ∧ Ext H H') ⟨none, none, none, none, none, none, none, none, none, none, none, none, none, none, none, rfl, Ext.rfl'⟩ ?_ (fun σ H' _ => q H')⟩
    rintro k σ H0 hk ⟨v1, v2, v3, v4, v5, v6, v7, v8, v9, v10, v11, v12, v13, v14, v15, rfl, x0⟩
    refine ⟨_, rfl, _, rfl, as, ns, k, by rw [Int.zero_add]; rfl, hsc.ext x0, fun i0 => ⟨_, rfl, _, _, rfl, rfl, _, rfl, fun p H1 hp hH1 => ?_⟩⟩
    obtain ⟨pa, pb, pa0, pb0, pb1, rfl⟩ := hH1
    obtain ⟨H1, hH1⟩ : ∃ H1, H1 = L2.upd H0 p (.lst [.int pa, .int pb, .int 0]) := ⟨_, rfl⟩
    rw [← hH1]
    have pool1 : Pool H1 p 0 := ⟨pa, pb, 0, by rw [hH1, upd_same], pa0, pb0, pb1, Int.le_refl _, Int.le_refl _⟩
    have x1 : Ext H0 H1 := by
      rw [hH1]
      exact Ext.upd hp
    -- the end of a turn
    have fin : ∀ H' : Hp, But H1 H' p → Ext H H' := fun H' b c u hc => by
      have h0 := x0 c u hc
      exact b c u (ne_of_none h0 hp) (x1 _ _ h0)
    refine ⟨_, rfl, p, 0, 4, 3, rfl, by decide, by decide, by decide, by decide, pool1, by decide, fun t l1 l2 fo th H2 b2 p2 ht2 hf ht n12 nl1 nl2 f1 f3 t3 tot nms => ⟨t, _, rfl, SqT.of ht2, rfl, _, _, rfl, _, _, rfl, rfl, ?_⟩⟩
    have n1p : l1 ≠ p := fun e => by rw [e] at nl1; obtain ⟨y, h⟩ := pool1.lst; rw [nl1] at h; cases h
    have n2p : l2 ≠ p := fun e => by rw [e] at nl2; obtain ⟨y, h⟩ := pool1.lst; rw [nl2] at h; cases h
    have nok := nms.ok
    have nd := nms.1
    have n7 : (fo ++ th).length ≤ 7 := by
      rw [List.length_append]
      omega
    have n2 : 2 ≤ (fo ++ th).length := by
      rw [List.length_append]
      omega
    have fne : fo ≠ [] := fun e => by
      subst e
      exact absurd f1 (by decide)
    have lm : ∀ zs : List Str, (zs.map V.str).length = zs.length := fun zs => List.length_map _
    have zsz : (fo ++ th).length < sizeLine := by rw [sizeLine_eq]; omega
    refine ⟨_, rfl, _, rfl, ?_⟩
    intro h dx hh hdx nx
    refine mk_at (a := l1) (b := l2) (fo := fo) (th := th) (.inl (SqL.of hf)) (.inl (SqL.of ht)) nok fne (by omega) hh hdx nx fun H3 x3 hou3 => ?_
    have hf3 := x3 _ _ hf
    have ht3 := x3 _ _ ht
    have p3 := pool_ext p2 x3
    refine ⟨_, rfl, _, rfl, _, rfl, p, l1, l2, fo, th, _, rfl, p3, by omega, hf3, ht3, n1p, n2p, nd, n7, fun u d H4 b4 p4 hu3 u4 ly acy => ?_⟩
    refine ⟨_, _, rfl, ?_⟩
    obtain ⟨y3, hy3⟩ := p3.lst
    have hou4 := hou_butL hy3 b4 hou3
    have hf4 := b4 _ _ n1p hf3
    have ht4 := b4 _ _ n2p ht3
    refine ⟨_, rfl, _, rfl, h, u, fo, th, d, rfl, hou4, u4, ly, acy, by omega, nd, fun tr0 q0 H5 x5 htr hq0 tr5 => ?_⟩
    refine ⟨_, rfl, _, rfl, l1, l2, _, _, rfl, rfl, x5 _ _ hf4, x5 _ _ ht4, by rw [lm, lm, sizeLine_eq, ← List.length_append]; omega, fun ln hln => ?_⟩
    obtain ⟨H6, hH6⟩ : ∃ H6, H6 = L2.upd H5 ln (.lst (fo.map V.str ++ th.map V.str)) := ⟨_, rfl⟩
    rw [← hH6]
    have x6 : Ext H5 H6 := by
      rw [hH6]
      exact Ext.upd hln
    have ln6 : H6 ln = some (.lst ((fo ++ th).map V.str)) := by rw [hH6, upd_same, List.map_append]
    have x46 : Ext H4 H6 := x5.trans x6
    have p6 : Pool H6 p 100 := pool_mono (pool_ext p4 x46) (by omega)
    have b06 : But H1 H6 p := ((b2.ext x3).trans b4).ext x46
    have nln : ln ≠ p := pool_ne (pool_ext p4 x5) hln
    have nuq : u ≠ q0 := fun e => by
      rw [← e, u4] at hq0
      cases hq0
    have sit6 : Sit K CT C H6 p l1 l2 ln h u tr0 q0 fo th d := ⟨p6.lst, x46 _ _ hf4, n1p, x46 _ _ ht4, n2p, ln6, nln, hou4.ext x46, x46 _ _ u4, tr5.ext x6, nuq⟩
    refine ⟨_, _, rfl, ?_⟩
    have okS : OkS (fo ++ th) := fun z hz => (nok.2 z hz).2.1
    refine ⟨8, rfl, by decide, by decide, for_range (lo := 0) (n := 8) (fun i σ H' => ∃ (u t q : Addr) (d : Dic) (v9 v10 v11 v12 v13 v14 v15 : Option V), σ = [some (.ref as), some (.int (0 + (k : Int))), some (.ref p), some (.ref l1), some (.ref l2), some (.ref h), some (.ref u), some (.ref t), some (.ref ln), v9, v10, v11, v12, v13, v14, v15] ∧ Sit K CT C H' p l1 l2 ln h u t q fo th d ∧ Pool H' p (100 + 2 * i) ∧ But H1 H' p) ⟨u, tr0, q0, d, _, _, _, _, _, _, _, rfl, sit6, (by simpa using p6), b06⟩ ?_ ?_⟩
    · clear sit6 b06 p6 x46 ln6 x6 hH6 H6 tr5 nuq x5 htr hq0 acy ly u4
      rintro i σ HA hi ⟨u, t, q, d, v9, v10, v11, v12, v13, v14, v15, rfl, sA, pA, bA⟩
      obtain ⟨dx1, fs1, ho1, e1, e2, e3, e4, e5, ly, acy, len, _, meth⟩ := id sA.trS
      -- the node
      refine ⟨_, rfl, _, rfl, _, rfl, _, _, rfl, .inl ⟨_, SqL.of sA.lnS, rfl⟩, p, _, _, rfl, by rw [lm]; omega, by rw [lm]; omega, pA, by omega, fun r1 o1 r10 r11 gp1 => ?_⟩
      obtain ⟨m1, rfl⟩ := Int.eq_ofNat_of_zero_le r10
      rw [lm] at r11
      have m1l : m1 < (fo ++ th).length := by omega
      obtain ⟨HB, hHB⟩ : ∃ HB, HB = L2.upd HA p o1 := ⟨_, rfl⟩
      rw [← hHB] at gp1 ⊢
      have bB : But HA HB p := by
        rw [hHB]
        exact But.upd (ext_but Ext.rfl')
      have sB := sA.but bB gp1
      obtain ⟨z, hz⟩ : ∃ z, z = (fo ++ th)[m1] := ⟨_, rfl⟩
      have mz : z ∈ fo ++ th := by rw [hz]; exact List.getElem_mem m1l
      refine ⟨ln, _, _, .str z, rfl, rfl, SqL.of sB.lnS, atI_nat (by rw [List.getElem?_map, List.getElem?_eq_getElem m1l, hz]; rfl), ?_⟩
      -- the folder
      refine ⟨Nat.le_of_ble_eq_true rfl, fun l0 hl0 => ?_⟩
      have xl0 := Ext.upd (o := .lst [V.non]) hl0
      have fle : fo.length ≤ 7 := by
        rw [List.length_append] at n7
        omega
      refine ⟨_, rfl, l0, l1, _, _, rfl, rfl, upd_same, xl0 _ _ sB.lfS, by rw [lm, sizeLine_eq]; show 1 + fo.length ≤ _; omega, fun lc hlc => ?_⟩
      obtain ⟨HC, hHC⟩ : ∃ HC, HC = L2.upd (L2.upd HB l0 (.lst [V.non])) lc (.lst ([V.non] ++ fo.map V.str)) := ⟨_, rfl⟩
      have xC : Ext HB HC := by
        rw [hHC]
        exact xl0.trans (Ext.upd hlc)
      have cC : HC lc = some (.lst (V.non :: fo.map V.str)) := by rw [hHC, upd_same]; rfl
      rw [← hHC]
      have sC := sB.ext xC
      have pC := pool_ext gp1 xC
      refine ⟨_, rfl, _, rfl, _, _, rfl, .inl ⟨_, SqL.of sC.lfS, rfl⟩, _, _, rfl, rfl, ?_⟩
      refine ⟨p, _, _, rfl, by rw [lm]; omega, by rw [lm]; omega, pC, by omega, fun r2 o2 r20 r21 gp2 => ?_⟩
      obtain ⟨m2, rfl⟩ := Int.eq_ofNat_of_zero_le r20
      rw [lm] at r21
      obtain ⟨HD, hHD⟩ : ∃ HD, HD = L2.upd HC p o2 := ⟨_, rfl⟩
      rw [← hHD] at gp2 ⊢
      have bD : But HC HD p := by
        rw [hHD]
        exact But.upd (ext_but Ext.rfl')
      have sD := sC.but bD gp2
      have nlc : lc ≠ p := pool_ne (pool_ext gp1 xl0) hlc
      have cD := bD _ _ nlc cC
      have m2l : m2 < (V.non :: fo.map V.str).length := by rw [List.length_cons, lm]; omega
      obtain ⟨y, hy⟩ : ∃ y, y = (V.non :: fo.map V.str)[m2] := ⟨_, rfl⟩
      have oy : Opt fo y := by
        have my : y ∈ V.non :: fo.map V.str := by rw [hy]; exact List.getElem_mem m2l
        rcases List.mem_cons.mp my with e | h
        · exact .inl e
        · obtain ⟨g, hg, e⟩ := List.mem_map.mp h
          exact .inr ⟨g, hg, e.symm⟩
      refine ⟨lc, _, _, y, rfl, rfl, SqL.of cD, atI_nat (by rw [List.getElem?_eq_getElem m2l, hy]), ?_⟩
      have bAD : But HA HD p := (bB.ext xC).trans bD
      have pD : Pool HD p (100 + 2 * ((i + 1 : Nat) : Int)) := pool_mono gp2 (by omega)
      clear bD gp2 cD nlc cC pC sC xC hHC HC xl0 hl0 hlc sB bB gp1 hHB HB hHD sA m2l hy
      -- the tree as it should be
      refine ⟨_, rfl, u, kd d, rfl, .inl sD.uS, fun wt hwt => ?_⟩
      refine ⟨_, rfl, _, rfl, _, rfl, wt, _, rfl, .inl ⟨_, Sum.inr z, upd_same, rfl, by rw [kd_len, ← List.length_map (f := (·.1)), ly.keys]; exact zsz, rfl⟩, ?_⟩
      obtain ⟨HE, hHE⟩ : ∃ HE, HE = L2.upd (L2.upd HD wt (.dK (kd d))) wt (.dK (putK (kd d) (Sum.inr z) y)) := ⟨_, rfl⟩
      rw [← hHE]
      have xE : Ext HD HE := by
        rw [hHE]
        exact (Ext.upd hwt).over hwt
      have wE : HE wt = some (.dK (kd (setD d z y))) := by rw [hHE, upd_same, put_kd]
      have sE := sD.ext xE
      have pE := pool_ext pD xE
      have bE : But H1 HE p := (bA.trans bAD).ext xE
      have lyS := ly_set ly mz oy
      clear hHE sD pD bAD bA pA
      -- moved
      refine ⟨_, rfl, _, rfl, _, rfl, ?_⟩
      unfold tNil
      refine moved_any sE.trS mz oy fun r wd v HF xF hr out => ?_
      refine ⟨r, _, rfl, SqT.of hr, rfl, _, _, rfl, _, _, rfl, rfl, ?_⟩
      have sF := sE.ext xF
      -- the old one stays
      refine ⟨_, rfl, _, rfl, _, rfl, h, u, fo, th, d, rfl, sF.houS, sF.uS, ly, acy, len, nd, fun t3 q3 HG xG _ _ tr3 => ?_⟩
      refine ne_trees Y.T (sF.trS.ext xG) tr3 fun HI xI => ?_
      refine ⟨_, rfl, ?_⟩
      refine iteF ?_
      have xFI := xG.trans xI
      have sI := sF.ext xFI
      refine ⟨_, rfl, _, rfl, _, rfl, _, rfl, t, h, u, l1, q, fo, th, d, rfl, sI.trS, sI.houS, sI.uS, sI.nuqS, by omega, sI.lfS, fun HJ xJ => ?_⟩
      refine ⟨_, rfl, ?_⟩
      refine iteF ?_
      have xEJ := xF.trans (xFI.trans xJ)
      have sJ := sE.ext xEJ
      have pJ := pool_ext pE xEJ
      have bJ := bE.ext xEJ
      have xFJ := xFI.trans xJ
      dsimp only [tNext, tIfS]
      refine test_hit (fo := fo) (ns := fo ++ th) (.inl sJ.uS) (ups_of ly) (by omega) oy rfl rfl rfl fun HK xK => ?_
      have sK := sJ.ext xK
      have pK := pool_ext pJ xK
      have bK := bJ.ext xK
      have xEK := xEJ.trans xK
      have wK := xEK _ _ wE
      refine ite2 (fun c => ?_) fun c => ?_
      · -- a ring
        obtain ⟨c0, cy⟩ := hit_cyc ly.ok acy c
        rcases out with ⟨_, t9, q9, _, _, tr9⟩ | ⟨rfl, t9, way, rfl, st, ring⟩
        · obtain ⟨_, _, _, _, _, _, _, _, _, acy9, _⟩ := tr9
          exact absurd cy (acy_nocyc acy9 c0)
        refine ⟨_, rfl, rfl, _, rfl, ?_⟩
        refine iteF ?_
        refine ⟨_, rfl, _, rfl, wt, t9, fo, th, setD d z y, way, rfl, wK, lyS, by omega, nd, okS, st.ext (xFJ.trans xK), ring, fun HL xL => ?_⟩
        refine ⟨_, rfl, ?_⟩
        refine iteF ?_
        exact ⟨u, t, q, d, _, _, _, _, _, _, _, rfl, sK.ext xL, pool_ext pK xL, bK.ext xL⟩
      · -- a tree
        have acyS := hit_acy ly.ok acy oy (Bool.eq_false_iff.mpr c)
        rcases out with ⟨rfl, t9, q9, rfl, hq9, tr9⟩ | ⟨_, t9, way, _, _, ring⟩
        rotate_left
        · obtain ⟨c0, cy⟩ := ring.cyc
          exact absurd cy (acy_nocyc acyS c0)
        have tr9K := tr9.ext (xFJ.trans xK)
        have nwq : wt ≠ q9 := fun e => by
          rw [← e, wE] at hq9
          cases hq9
        refine ⟨_, rfl, rfl, _, rfl, ?_⟩
        refine iteF ?_
        refine ⟨_, rfl, _, rfl, _, rfl, h, wt, fo, th, setD d z y, rfl, sK.houS, wK, lyS, acyS, len, nd, fun t8 q8 HL xL _ _ tr8 => ?_⟩
        refine ne_trees Y.T (tr9K.ext xL) tr8 fun HM xM => ?_
        refine ⟨_, rfl, ?_⟩
        refine iteF ?_
        have xKM := xL.trans xM
        have sM := sK.ext xKM
        refine ⟨_, rfl, _, rfl, _, rfl, _, rfl, t9, h, wt, l1, q9, fo, th, setD d z y, rfl, tr9K.ext xKM, sM.houS, xKM _ _ wK, nwq, by omega, sM.lfS, fun HN xN => ?_⟩
        refine ⟨_, rfl, ?_⟩
        refine iteF ?_
        have xKN := xKM.trans xN
        have sN := sK.ext xKN
        have tr9N := tr9K.ext xKN
        -- moved back
        obtain ⟨v, gz⟩ := getD_some (d := d) (z := z) (by rw [ly.keys]; exact mz)
        have ov : Opt fo v := by
          have := getD_opt ly.ok z
          rw [gz] at this
          exact this
        obtain ⟨dx9, fs9, ho9, g1, _, _, _, _, _, _, _, _, meth9⟩ := id tr9N
        have sb := set_back (y := y) ly nd mz gz
        refine ⟨_, rfl, t9, dx9, fs9, rfl, g1, meth9 _ (by decide), _, rfl, _, rfl, _, rfl, u, v, rfl, ?_, ?_⟩
        · have := dget_ly ly sN.uS mz
          rw [gz] at this
          exact this
        refine ⟨t9, q9, fo, th, setD d z y, .str z, v, rfl, tr9N, .inr ⟨z, rfl, mz, .inr ⟨ov, fun _ t10 q10 HO xO _ _ tr10 => ?_, fun d' t10 way HO xO h1 st h2 ring => ?_⟩⟩⟩
        · rw [sb] at tr10
          refine ⟨_, rfl, ?_⟩
          refine ne_trees Y.T tr10 (sN.trS.ext xO) fun HR xR => ?_
          refine ⟨_, rfl, ?_⟩
          refine iteF ?_
          have xKR := xKN.trans (xO.trans xR)
          have sR := sK.ext xKR
          refine ⟨_, rfl, _, rfl, _, _, rfl, ?_⟩
          exact ⟨wt, t9, q9, setD d z y, _, _, _, _, _, _, _, rfl, ⟨sR.plS, sR.lfS, sR.nlfS, sR.ltS, sR.nltS, sR.lnS, sR.nlnS, sR.houS, xKR _ _ wK, tr9K.ext xKR, nwq⟩, pool_ext pK xKR, bK.ext xKR⟩
        · rw [sb] at ring
          obtain ⟨c0, cy⟩ := ring.cyc
          exact absurd cy (acy_nocyc acy c0)
    · rintro σ HA ⟨u, t, q, d, v9, v10, v11, v12, v13, v14, v15, rfl, sA, pA, bA⟩
      obtain ⟨dx1, fs1, ho1, e1, e2, e3, e4, e5, ly, acy, len, _, meth⟩ := id sA.trS
      refine ⟨Nat.le_of_ble_eq_true rfl, fun a1 ha1 => ?_⟩
      have w1 := Ext.upd (o := .tup [.str "a"]) ha1
      refine ⟨Nat.le_of_ble_eq_true rfl, fun a2 ha2 => ?_⟩
      have w2 := Ext.upd (o := .lst [.str "a"]) ha2
      refine fun a3 ha3 => ?_
      have w3 := Ext.upd (o := .dK []) ha3
      refine ⟨Nat.le_of_ble_eq_true rfl, fun lo hlo => ?_⟩
      obtain ⟨xs, hxs⟩ : ∃ xs, xs = [V.int 5, .str "zz", .str "", .ref a1, .bl true, .ref a2, .ref a3] := ⟨_, rfl⟩
      have w4 := Ext.upd (o := .lst xs) hlo
      obtain ⟨H9, hH9⟩ : ∃ H9, H9 = L2.upd (L2.upd (L2.upd (L2.upd HA a1 (.tup [.str "a"])) a2 (.lst [.str "a"])) a3 (.dK [])) lo (.lst xs) := ⟨_, rfl⟩
      have x9 : Ext HA H9 := by
        rw [hH9]
        exact w1.trans (w2.trans (w3.trans w4))
      have o1 : H9 a1 = some (.tup [.str "a"]) := by rw [hH9]; exact (w2.trans (w3.trans w4)) _ _ upd_same
      have o2 : H9 a2 = some (.lst [.str "a"]) := by rw [hH9]; exact (w3.trans w4) _ _ upd_same
      have o3 : H9 a3 = some (.dK []) := by rw [hH9]; exact w4 _ _ upd_same
      have o4 : H9 lo = some (.lst xs) := by rw [hH9, upd_same]
      have n2p' : a2 ≠ p := pool_ne (pool_ext pA w1) ha2
      have n4p : lo ≠ p := pool_ne (pool_ext pA (w1.trans (w2.trans w3))) hlo
      have p9 := pool_ext pA x9
      rw [← hxs, ← hH9]
      refine ⟨_, rfl, p, 7, _, rfl, by decide, by decide, p9, by omega, fun r o r0 r7 gp => ?_⟩
      obtain ⟨r, rfl⟩ := Int.eq_ofNat_of_zero_le r0
      have rl : r < xs.length := by rw [hxs]; show r < 7; omega
      obtain ⟨HB, hHB⟩ : ∃ HB, HB = L2.upd H9 p o := ⟨_, rfl⟩
      rw [← hHB] at gp ⊢
      have bB : But H9 HB p := by
        rw [hHB]
        exact But.upd (ext_but Ext.rfl')
      have sB := (sA.ext x9).but bB gp
      obtain ⟨yp, hyp⟩ := p9.lst
      have q1 := bB _ _ (ne_of o1 hyp (fun z => nomatch z)) o1
      have q2 := bB _ _ n2p' o2
      have q3 := bB _ _ (ne_of o3 hyp (fun z => nomatch z)) o3
      have bb : But H1 HB p := (bA.ext x9).trans bB
      obtain ⟨v, hv⟩ : ∃ v, v = xs[r] := ⟨_, rfl⟩
      have mv : v ∈ xs := by rw [hv]; exact List.getElem_mem rl
      refine ⟨lo, _, _, v, rfl, rfl, SqL.of (bB _ _ n4p o4), atI_nat (by rw [List.getElem?_eq_getElem rl, hv]), ?_⟩
      have ev : v = .int 5 ∨ v = .str "zz" ∨ v = .str "" ∨ v = .ref a1 ∨ v = .bl true ∨ v = .ref a2 ∨ v = .ref a3 := by
        rw [hxs] at mv
        simpa using mv
      have odd : ∀ zs : List Str, (∀ z, z ∈ zs → z ∈ fo ++ th) → NotIn K HB zs v := fun zs sub => by
        rcases ev with rfl | rfl | rfl | rfl | rfl | rfl | rfl
        · exact .inl ⟨rfl, inV_no (fun _ => rfl) zs⟩
        · exact .inl ⟨rfl, inV_not fun m => (nms.2 _ (sub _ m)).2.2.2.2.2 "zz" (by decide) rfl⟩
        · exact .inl ⟨rfl, inV_not fun m => absurd (nms.2 _ (sub _ m)).1 (by decide)⟩
        · exact .inr (.inl ⟨a1, _, rfl, .inr (SqT.of q1)⟩)
        · exact .inl ⟨rfl, inV_no (fun _ => rfl) zs⟩
        · exact .inr (.inl ⟨a2, _, rfl, .inl (SqL.of q2)⟩)
        · exact .inr (.inr ⟨a3, _, rfl, q3⟩)
      have pv : plainV v = true := by rcases ev with rfl | rfl | rfl | rfl | rfl | rfl | rfl <;> rfl
      have vn : v ≠ .non := by rcases ev with rfl | rfl | rfl | rfl | rfl | rfl | rfl <;> exact fun e => nomatch e
      have nin := odd (fo ++ th) fun z h => h
      have ninf := odd fo fun z h => List.mem_append_left _ h
      have x0c : Ext HB HB := Ext.rfl'
      obtain ⟨f0, rf, hf0⟩ : ∃ f0 rf, fo = f0 :: rf := by
        cases fo with
        | nil => exact absurd rfl fne
        | cons a b => exact ⟨a, b, rfl⟩
      have mz0 : f0 ∈ fo ++ th := by rw [hf0]; exact List.mem_append_left _ List.mem_cons_self
      have n0 : (fo ++ th)[0]? = some f0 := by rw [hf0]; rfl
      refine ⟨_, rfl, _, rfl, _, rfl, t, q, fo, th, d, v, v, rfl, sB.trS.ext x0c, .inl ⟨nin, fun r1 H1 x1 _ hr1 => ?_⟩⟩
      refine ⟨_, rfl, Nat.le_of_ble_eq_true rfl, fun b1 hb1 => ?_⟩
      refine ⟨r1, b1, [.str "node", v], rfl, rfl, SqT.of ((Ext.upd hb1) _ _ hr1), SqT.of upd_same, by rw [List.all_cons, List.all_cons, pv]; rfl, _, rfl, ?_⟩
      refine iteF ?_
      have xn1 := x1.trans (Ext.upd (o := .tup [.str "node", v]) hb1)
      have x1c := x0c.trans xn1
      refine ⟨_, rfl, t, q, fo, th, d, .non, .str "zz", rfl, sB.trS.ext x1c, .inl ⟨.inl ⟨rfl, inV_non _⟩, fun r2 H2 x2 _ hr2 => ?_⟩⟩
      refine ⟨Nat.le_of_ble_eq_true rfl, fun b2 hb2 => ?_⟩
      refine ⟨r2, b2, [.str "node", .non], rfl, rfl, SqT.of ((Ext.upd hb2) _ _ hr2), SqT.of upd_same, rfl, _, rfl, ?_⟩
      refine iteF ?_
      have xn2 := x2.trans (Ext.upd (o := .tup [.str "node", .non]) hb2)
      have x2c := x1c.trans xn2
      refine ⟨_, rfl, _, rfl, t, q, fo, th, d, v, .non, rfl, sB.trS.ext x2c, .inl ⟨nin.ext x2c, fun r3 H3 x3 _ hr3 => ?_⟩⟩
      refine ⟨_, rfl, Nat.le_of_ble_eq_true rfl, fun b3 hb3 => ?_⟩
      refine ⟨r3, b3, [.str "node", v], rfl, rfl, SqT.of ((Ext.upd hb3) _ _ hr3), SqT.of upd_same, by rw [List.all_cons, List.all_cons, pv]; rfl, _, rfl, ?_⟩
      refine iteF ?_
      have xn3 := x3.trans (Ext.upd (o := .tup [.str "node", v]) hb3)
      have x3c := x2c.trans xn3
      refine ⟨_, rfl, _, rfl, _, rfl, l1, _, ((0 : Nat) : Int), .str f0, rfl, rfl, SqL.of (x3c _ _ sB.lfS), atI_nat (by rw [List.getElem?_map, hf0]; rfl), t, q, fo, th, d, v, .str f0, rfl, sB.trS.ext x3c, .inl ⟨nin.ext x3c, fun r4 H4 x4 _ hr4 => ?_⟩⟩
      refine ⟨_, rfl, Nat.le_of_ble_eq_true rfl, fun b4 hb4 => ?_⟩
      refine ⟨r4, b4, [.str "node", v], rfl, rfl, SqT.of ((Ext.upd hb4) _ _ hr4), SqT.of upd_same, by rw [List.all_cons, List.all_cons, pv]; rfl, _, rfl, ?_⟩
      refine iteF ?_
      have xn4 := x4.trans (Ext.upd (o := .tup [.str "node", v]) hb4)
      have x4c := x3c.trans xn4
      refine ⟨_, rfl, _, rfl, ln, _, ((0 : Nat) : Int), .str f0, rfl, rfl, SqL.of (x4c _ _ sB.lnS), atI_nat (by rw [List.getElem?_map, n0]; rfl), _, rfl, t, q, fo, th, d, .str f0, v, rfl, sB.trS.ext x4c, .inr ⟨f0, rfl, mz0, .inl ⟨vn, ninf.ext x4c, fun r5 H5 x5 _ hr5 => ?_⟩⟩⟩
      refine ⟨_, rfl, Nat.le_of_ble_eq_true rfl, fun b5 hb5 => ?_⟩
      refine ⟨r5, b5, [.str "folder", v], rfl, rfl, SqT.of ((Ext.upd hb5) _ _ hr5), SqT.of upd_same, by rw [List.all_cons, List.all_cons, pv]; rfl, _, rfl, ?_⟩
      refine iteF ?_
      have xn5 := x5.trans (Ext.upd (o := .tup [.str "folder", v]) hb5)
      have x5c := x4c.trans xn5
      refine ⟨_, rfl, Nat.zero_le _, fun le hle => ?_⟩
      have xle := Ext.upd (o := .lst []) hle
      have x6c := x5c.trans xle
      have okT : OkS th := fun z hz => okS z (List.mem_append_right _ hz)
      refine ⟨_, _, .lst (SqL.of (x6c _ _ sB.ltS)) (dpAll_str th), .lst (SqL.of upd_same) (dpAll_str []), shaped_strL th okT, shaped_strL [] (fun z hz => by cases hz), _, rfl, ?_⟩
      rw [show PyData.eqv (.list (th.map PyData.str)) (.list (([] : List Str).map PyData.str)) = decide (th = []) from eqvAll_str th []]
      refine ite2 (fun c => ?_) fun c => ?_
      · obtain ⟨t0, rt, ht0⟩ : ∃ t0 rt, th = t0 :: rt := by
          cases th with
          | nil => exact absurd c (by decide)
          | cons a b => exact ⟨a, b, rfl⟩
        have nt0 : NotIn K HB fo (.str t0) := .inl ⟨rfl, inV_not fun m => (List.nodup_append.mp nd).2.2 t0 m t0 (by rw [ht0]; exact List.mem_cons_self) rfl⟩
        refine ⟨_, rfl, _, rfl, ln, _, ((0 : Nat) : Int), .str f0, rfl, rfl, SqL.of (x6c _ _ sB.lnS), atI_nat (by rw [List.getElem?_map, n0]; rfl), _, rfl, l2, _, ((0 : Nat) : Int), .str t0, rfl, rfl, SqL.of (x6c _ _ sB.ltS), atI_nat (by rw [List.getElem?_map, ht0]; rfl), t, q, fo, th, d, .str f0, .str t0, rfl, sB.trS.ext x6c, .inr ⟨f0, rfl, mz0, .inl ⟨(fun e => nomatch e), nt0.ext x6c, fun r7 H7 x7 _ hr7 => ?_⟩⟩⟩
        refine ⟨_, rfl, l2, _, ((0 : Nat) : Int), .str t0, rfl, rfl, SqL.of ((x6c.trans x7) _ _ sB.ltS), atI_nat (by rw [List.getElem?_map, ht0]; rfl), Nat.le_of_ble_eq_true rfl, fun b7 hb7 => ?_⟩
        refine ⟨r7, b7, [.str "folder", .str t0], rfl, rfl, SqT.of ((Ext.upd hb7) _ _ hr7), SqT.of upd_same, rfl, _, rfl, ?_⟩
        refine iteF ?_
        have xn7 := x7.trans (Ext.upd (o := .tup [.str "folder", .str t0]) hb7)
        have x7c := x6c.trans xn7
        exact ⟨_, _, _, _, _, _, _, _, _, _, _, _, _, _, _, rfl, fin _ (bb.ext x7c)⟩
      · refine iteF ?_
        exact ⟨_, _, _, _, _, _, _, _, _, _, _, _, _, _, _, rfl, fin _ (bb.ext x6c)⟩
end
end My

namespace My
open PySem PySem.Spec PyProof.Rows L2 He
/-! ### what is looked up in the written part, as truths -/
def oexB (K : PySem.W.Frag) (C : Addr) : Bool := (match K.lookup C with
    | some ⟨.type t, _, .cls cd, sl⟩ => decide (t = "type") && (match cd.mro, sl.toList with
      | .ref C' :: bm, [_, _, _, _, some (.builtin n), _] => decide (C' = C) && (decide (n = "ValueError.__new__") && (!cd.hasDel && (cd.hasDict && PySem.HandSPX.refsVE bm)))
      | _, _ => false)
    | _ => false) && (decide (PySem.W.findIn K (.ref C) "__setattr__" = some (some (.builtin "object.__setattr__"))) && (decide (PySem.W.subIn K (.ref C) (.type "BaseException") = some true) &&
    (decide (PySem.W.typeIn K (.ref C) = some (.type "type")) && PySem.W.keepIn K (.ref C))))
theorem oexB_ok {K : PySem.W.Frag} {C : Addr} (h : oexB K C = true) : OexC K C := by
  obtain ⟨h1, h⟩ := ba h
  obtain ⟨h2, h⟩ := ba h
  obtain ⟨h3, h⟩ := ba h
  obtain ⟨h4, h5⟩ := ba h
  refine ⟨?_, of_decide_eq_true h2, of_decide_eq_true h3, of_decide_eq_true h4, h5⟩
  split at h1
  · rename_i t dd cd sl ho
    obtain ⟨k1, k2⟩ := ba h1
    obtain rfl := of_decide_eq_true k1
    split at k2
    · rename_i C' bm k0 k1 k2' k3 n k5 hm hs
      obtain ⟨e1, k2⟩ := ba k2
      obtain ⟨e2, k2⟩ := ba k2
      obtain ⟨e3, k2⟩ := ba k2
      obtain ⟨e4, e5⟩ := ba k2
      obtain rfl := of_decide_eq_true e1
      obtain rfl := of_decide_eq_true e2
      obtain ⟨nm, bs, mro, ns, qn, hd, sn, sub, ab, col, del⟩ := cd
      dsimp only at hm e3 e4
      subst hm
      obtain rfl : hd = true := e4
      obtain rfl : del = false := by
        cases del
        · rfl
        · cases e3
      have hsl : sl = #[k0, k1, k2', k3, some (.builtin "ValueError.__new__"), k5] := by
        obtain ⟨l⟩ := sl
        simp only at hs
        rw [hs]
      subst hsl
      exact ⟨nm, qn, ns, bs, bm, sn, sub, ab, col, dd, k0, k1, k2', k3, k5, ho, e5⟩
    · cases k2
  · cases h1
def kitCB (K : PySem.W.Frag) (C : Addr) : Bool := (PySem.W.clsIn K C).isSome && (decide (PySem.W.findIn K (.ref C) "__class__" = some (some (.builtin "object.__class__"))) &&
  (decide (PySem.W.specialIn K (.builtin "object.__class__") "__get__" = some (some (.builtin "getset_descriptor.__get__"))) && (decide (PySem.W.takesIn K (.builtin "object.__class__") = some true) && decide (PySem.W.mroIn K C (.type "object") = some true))))
theorem kitCB_ok {K : PySem.W.Frag} {C : Addr} (h : kitCB K C = true) : KitC K C := by
  obtain ⟨h1, h⟩ := ba h
  obtain ⟨h2, h⟩ := ba h
  obtain ⟨h3, h⟩ := ba h
  obtain ⟨h4, h5⟩ := ba h
  exact ⟨h1, of_decide_eq_true h2, of_decide_eq_true h3, of_decide_eq_true h4, of_decide_eq_true h5⟩
/-- a class with one field -/
def errB (K : PySem.W.Frag) (x f : Str) : Bool := oexB K (ga K x) && (xfB K (ga K x) && (kitCB K (ga K x) && (decide (PySem.W.findIn K (.ref (ga K x)) "__init__" = some (some (.ref (ma K (ga K x) "__init__")))) &&
  (decide (PySem.W.typeIn K (.ref (ma K (ga K x) "__init__")) = some (.type "function")) && decide (PySem.W.findIn K (.ref (ga K x)) f = some none)))))
theorem errB_ok {K : PySem.W.Frag} {mg : Str → Option Value} {x f : Str} (g : mg x = some (.ref (ga K x))) (h : errB K x f = true) : ErrC K mg x f (ga K x) (ma K (ga K x) "__init__") := by
  obtain ⟨h1, h⟩ := ba h
  obtain ⟨h2, h⟩ := ba h
  obtain ⟨h3, h⟩ := ba h
  obtain ⟨h4, h⟩ := ba h
  obtain ⟨h5, h6⟩ := ba h
  exact ⟨g, oexB_ok h1, xfB_ok h2, kitCB_ok h3, of_decide_eq_true h4, of_decide_eq_true h5, of_decide_eq_true h6⟩
/-! ### the look at the head: facts, defs, and one more truth -/
abbrev AlM : Type := AlD × Bool
def seenM (fa : List Fa) (fn : List DefD) (ex : PySem.W.Frag → Bool) (K : PySem.W.Frag) : AlM := (obsD fa fn K, ex K)
def seenMG (n : Nat) (fa : List Fa) (fn : List DefD) (ex : PySem.W.Frag → Bool) (g : Addr → Option Obj) : AlM := seenM fa fn ex (frG g (asD g n))
def hookM (n : Nat) (fa : List Fa) (fn : List DefD) (ex : PySem.W.Frag → Bool) : PySem.W.Hook where
  α := AlM
  obs := fun s => seenMG n fa fn ex s.heap.get?
  val := fun _ => (valD fn, true)
  says := fun _ h => ∃ K : PySem.W.Frag, K.In h ∧ (SaysD fa fn K ∧ ex K = true)
  of := fun _ _ e => ⟨_, frG_in, congrArg (fun z : AlM => z.1) e, congrArg (fun z : AlM => z.2) e⟩
  keeps := fun _ _ _ ⟨K, hK, c⟩ k => ⟨K, PySem.W.Frag.In.keeps hK k, c⟩
theorem seenMG_eq {n : Nat} {fa : List Fa} {fn : List DefD} {ex : PySem.W.Frag → Bool} {g : Addr → Option Obj} {s : Shared} (h : ∀ a, g a = s.heap.get? a) : seenMG n fa fn ex g = (hookM n fa fn ex).obs s := by
  have e : g = s.heap.get? := funext h
  rw [e] <;> rfl


def aDef (K : PySem.W.Frag) : Addr := dflAt ("House", some "__init__") 0 K
def d_BadHouse_init : DefD := ⟨("BadHouse", some "__init__"), "__init__", "BadHouse.__init__", defArgs (inCls (top 3) 0), defBody (inCls (top 3) 0), defScope (inCls (top 3) 0), [], []⟩
def d_NoNode_init : DefD := ⟨("NoNode", some "__init__"), "__init__", "NoNode.__init__", defArgs (inCls (top 4) 0), defBody (inCls (top 4) 0), defScope (inCls (top 4) 0), [], []⟩
def d_NoFolder_init : DefD := ⟨("NoFolder", some "__init__"), "__init__", "NoFolder.__init__", defArgs (inCls (top 5) 0), defBody (inCls (top 5) 0), defScope (inCls (top 5) 0), [], []⟩
def d_Ringed_init : DefD := ⟨("Ringed", some "__init__"), "__init__", "Ringed.__init__", defArgs (inCls (top 6) 0), defBody (inCls (top 6) 0), defScope (inCls (top 6) 0), [], []⟩
def d_is_list : DefD := ⟨("is_list", none), "is_list", "is_list", defArgs (top 10), defBody (top 10), defScope (top 10), [], []⟩
def d_is_name : DefD := ⟨("is_name", none), "is_name", "is_name", defArgs (top 11), defBody (top 11), defScope (top 11), [], []⟩
def d_wrong_name : DefD := ⟨("wrong_name", none), "wrong_name", "wrong_name", defArgs (top 13), defBody (top 13), defScope (top 13), [], []⟩
def d_wrong_part : DefD := ⟨("wrong_part", none), "wrong_part", "wrong_part", defArgs (top 14), defBody (top 14), defScope (top 14), [], []⟩
def d_House_init : DefD := ⟨("House", some "__init__"), "__init__", "House.__init__", defArgs (inCls (top 15) 0), defBody (inCls (top 15) 0), defScope (inCls (top 15) 0), [.adr aDef], []⟩
def d_House_len : DefD := ⟨("House", some "__len__"), "__len__", "House.__len__", defArgs (inCls (top 15) 1), defBody (inCls (top 15) 1), defScope (inCls (top 15) 1), [], []⟩
def d_House_contains : DefD := ⟨("House", some "__contains__"), "__contains__", "House.__contains__", defArgs (inCls (top 15) 2), defBody (inCls (top 15) 2), defScope (inCls (top 15) 2), [], []⟩
def d_House_iter : DefD := ⟨("House", some "__iter__"), "__iter__", "House.__iter__", defArgs (inCls (top 15) 3), defBody (inCls (top 15) 3), defScope (inCls (top 15) 3), [], []⟩
def d_House_eq : DefD := ⟨("House", some "__eq__"), "__eq__", "House.__eq__", defArgs (inCls (top 15) 4), defBody (inCls (top 15) 4), defScope (inCls (top 15) 4), [], []⟩
def d_must_be_node : DefD := ⟨("must_be_node", none), "must_be_node", "must_be_node", defArgs (top 16), defBody (top 16), defScope (top 16), [], []⟩
def d_must_be_folder : DefD := ⟨("must_be_folder", none), "must_be_folder", "must_be_folder", defArgs (top 17), defBody (top 17), defScope (top 17), [], []⟩
def d_ring : DefD := ⟨("ring", none), "ring", "ring", defArgs (top 19), defBody (top 19), defScope (top 19), [], []⟩
def d_Tree_init : DefD := ⟨("Tree", some "__init__"), "__init__", "Tree.__init__", defArgs (inCls (top 20) 0), defBody (inCls (top 20) 0), defScope (inCls (top 20) 0), [], []⟩
def d_Tree_over : DefD := ⟨("Tree", some "over"), "over", "Tree.over", defArgs (inCls (top 20) 1), defBody (inCls (top 20) 1), defScope (inCls (top 20) 1), [], []⟩
def d_Tree_above : DefD := ⟨("Tree", some "above"), "above", "Tree.above", defArgs (inCls (top 20) 2), defBody (inCls (top 20) 2), defScope (inCls (top 20) 2), [], []⟩
def d_Tree_below : DefD := ⟨("Tree", some "below"), "below", "Tree.below", defArgs (inCls (top 20) 3), defBody (inCls (top 20) 3), defScope (inCls (top 20) 3), [], []⟩
def d_Tree_lies : DefD := ⟨("Tree", some "lies"), "lies", "Tree.lies", defArgs (inCls (top 20) 4), defBody (inCls (top 20) 4), defScope (inCls (top 20) 4), [], []⟩
def d_Tree_moved : DefD := ⟨("Tree", some "moved"), "moved", "Tree.moved", defArgs (inCls (top 20) 5), defBody (inCls (top 20) 5), defScope (inCls (top 20) 5), [], []⟩
def d_Tree_eq : DefD := ⟨("Tree", some "__eq__"), "__eq__", "Tree.__eq__", defArgs (inCls (top 20) 8), defBody (inCls (top 20) 8), defScope (inCls (top 20) 8), [], []⟩
def d__law_cell : DefD := ⟨("_law_cell", none), "_law_cell", "_law_cell", defArgs (top 22), defBody (top 22), defScope (top 22), [], []⟩
def d__law_pool : DefD := ⟨("_law_pool", none), "_law_pool", "_law_pool", defArgs (top 23), defBody (top 23), defScope (top 23), [], []⟩
def d__law_take : DefD := ⟨("_law_take", none), "_law_take", "_law_take", defArgs (top 24), defBody (top 24), defScope (top 24), [], []⟩
def d__law_names : DefD := ⟨("_law_names", none), "_law_names", "_law_names", defArgs (top 25), defBody (top 25), defScope (top 25), [], []⟩
def d__law_house : DefD := ⟨("_law_house", none), "_law_house", "_law_house", defArgs (top 26), defBody (top 26), defScope (top 26), [], []⟩
def d__law_goes_round : DefD := ⟨("_law_goes_round", none), "_law_goes_round", "_law_goes_round", defArgs (top 27), defBody (top 27), defScope (top 27), [], []⟩
def d__law_tree : DefD := ⟨("_law_tree", none), "_law_tree", "_law_tree", defArgs (top 28), defBody (top 28), defScope (top 28), [], []⟩
def d__law_above : DefD := ⟨("_law_above", none), "_law_above", "_law_above", defArgs (top 29), defBody (top 29), defScope (top 29), [], []⟩
def d__law_made : DefD := ⟨("_law_made", none), "_law_made", "_law_made", defArgs (top 30), defBody (top 30), defScope (top 30), [], []⟩
def d__law_is_right : DefD := ⟨("_law_is_right", none), "_law_is_right", "_law_is_right", defArgs (top 31), defBody (top 31), defScope (top 31), [], []⟩
def d__law_moved : DefD := ⟨("_law_moved", none), "_law_moved", "_law_moved", defArgs (top 32), defBody (top 32), defScope (top 32), [], []⟩
def d__law_is_ring : DefD := ⟨("_law_is_ring", none), "_law_is_ring", "_law_is_ring", defArgs (top 33), defBody (top 33), defScope (top 33), [], []⟩
def d_law : DefD := ⟨("law", none), "law", "law", defArgs (top 34), defBody (top 34), defScope (top 34), [], []⟩
def fn : List DefD := ([d_BadHouse_init, d_NoNode_init, d_NoFolder_init, d_Ringed_init, d_is_list, d_is_name, d_wrong_name, d_wrong_part, d_House_init, d_House_len, d_House_contains, d_House_iter, d_House_eq, d_must_be_node] : List DefD) ++ ([d_must_be_folder, d_ring, d_Tree_init, d_Tree_over, d_Tree_above, d_Tree_below, d_Tree_lies, d_Tree_moved, d_Tree_eq, d__law_cell, d__law_pool, d__law_take, d__law_names, d__law_house] : List DefD) ++ ([d__law_goes_round, d__law_tree, d__law_above, d__law_made, d__law_is_right, d__law_moved, d__law_is_ring, d_law] : List DefD)
def fa : List Fa := ([.glo "BadHouse", .glo "NoNode", .glo "NoFolder", .glo "Ringed", .glo "is_list", .glo "is_name", .glo "wrong_name", .glo "wrong_part", .glo "House", .glo "must_be_node", .glo "must_be_folder", .glo "ring", .glo "Tree", .glo "_law_cell"] : List Fa) ++ ([.glo "_law_pool", .glo "_law_take", .glo "_law_names", .glo "_law_house", .glo "_law_goes_round", .glo "_law_tree", .glo "_law_above", .glo "_law_made", .glo "_law_is_right", .glo "_law_moved", .glo "_law_is_ring", .glo "law", .free "int", .free "len"] : List Fa) ++ ([.free "isinstance", .free "range", .free "all", .free "list", .free "tuple", .free "str", .free "enumerate", .free "iter", .free "max", .free "bool", .free "dict", .int "LONGEST" 8, .str "LETTERS" letters, .cls "House"] : List Fa) ++ ([.noat "House" "folders", .noat "House" "things", .noat "House" "nodes", .meth "House" "__len__", .meth "House" "__contains__", .meth "House" "__iter__", .meth "House" "__eq__", .mkr "House", .cls "Tree", .noat "Tree" "house", .noat "Tree" "lying", .meth "Tree" "over", .meth "Tree" "above", .meth "Tree" "below"] : List Fa) ++ ([.meth "Tree" "lies", .meth "Tree" "moved", .meth "Tree" "__eq__", .mkr "Tree", .exm "NoNode" "NoNode" true, .exm "NoFolder" "NoNode" false, .exm "NoFolder" "NoFolder" true, .exm "Ringed" "NoNode" false, .exm "Ringed" "NoFolder" false, .exm "Ringed" "Ringed" true] : List Fa)
def tyL : List String := ["NoneType", "list", "tuple", "int", "str"]
def dflB (K : PySem.W.Frag) : Bool := match K.lookup (aDef K) with
  | some ⟨.type t, _, .seq its _, _⟩ => decide (t = "tuple") && decide (its.toList = [])
  | _ => false
def treB (K : PySem.W.Frag) : Bool := kitCB K (ga K "Tree") && (decide (PySem.W.kitOne K (.ref (ga K "Tree")) (.ref (ga K "Tree")) = some true) && decide (PySem.W.findIn K (.ref (ga K "Tree")) "__ne__" = some (some (.builtin "object.__ne__"))))
def houB (K : PySem.W.Frag) : Bool := errB K "BadHouse" "index" && (kitCB K (ga K "House") && (decide (PySem.W.kitOne K (.ref (ga K "House")) (.ref (ga K "House")) = some true) && (decide (PySem.W.findIn K (.ref (ga K "House")) "__ne__" = some (some (.builtin "object.__ne__"))) &&
  (decide (PySem.W.subIn K (.ref (ga K "House")) (.type "str") = some false) && ((tyL.all fun T => PySem.W.notFirst K (ga K "House") (.type T) && decide (PySem.W.kitOne K (.type T) (.ref (ga K "House")) = some false)) && (dflB K && (errB K "NoNode" "node" && (errB K "NoFolder" "folder" && (errB K "Ringed" "folders" && treB K)))))))))
theorem dflB_ok {K : PySem.W.Frag} (h : dflB K = true) : ∀ H, SqT K H (aDef K) [] := fun H => by
  unfold dflB at h
  split at h
  · rename_i t dd its n sl ho
    obtain ⟨h1, h2⟩ := ba h
    obtain rfl := of_decide_eq_true h1
    have h3 : its.toList = [] := of_decide_eq_true h2
    refine .inr ⟨_, its, n, ho, rfl, rfl, ?_, by rw [h3]; exact .nil⟩
    rw [← Array.length_toList, h3]
    exact Nat.zero_le _
  · cases h

def loose : List PySem.Str := (["_wall", "HouseError", "BadHouse", "NoNode", "NoFolder", "Ringed", "is_list", "is_name", "wrong_name", "wrong_part", "House", "must_be_node", "must_be_folder", "ring"] : List PySem.Str) ++ (["Tree", "_law_cell", "_law_pool", "_law_take", "_law_names", "_law_house", "_law_goes_round", "_law_tree", "_law_above", "_law_made", "_law_is_right", "_law_moved", "_law_is_ring", "law"] : List PySem.Str) ++ (["LETTERS", "LONGEST", "int", "len", "isinstance", "range", "all", "list", "tuple", "str", "enumerate", "iter", "max", "bool"] : List PySem.Str) ++ (["dict"] : List PySem.Str)
abbrev Rw : PySem.W.OpenRow := PySem.W.OpenLaw.row PySem.Challenge.rw_whatopened_k04_trees_moved
abbrev hk : PySem.W.Hook := hookM 5 fa fn houB
def ob (s : PySem.W.SharedT) : AlM := seenMG 5 fa fn houB (HandSHeadRun.getT s)
theorem ob_eq (s : PySem.W.SharedT) : ob s = hk.obs s.abs := seenMG_eq (HandSHeadRun.getT_eq s)
end My

namespace My
open PySem PySem.Spec PyProof.Rows L2 He
section
variable {P : Program} {w : World} {K : PySem.W.Frag} {h : Heap} {mg : Str → Option Value} {base : Heap}
theorem facts {f : Addr} (X : K.In h) (G : h.Ns mainGlobals mg) (hfa : mg ("law" : Str) = some (.ref f)) (c : SaysD fa fn K) (e : houB K = true) :
    ∃ fd : FuncData, (∀ (s : Shared) (v : Value), BindsTo s fd ⟨[v], []⟩ [("_law_script", v)]) ∧ ∀ base : Heap, K.In base → base.Ns mainGlobals mg → FnOk P w K mg base CX0 12 f fd ["_law_script"] (spLaw K) := by
  obtain ⟨fd_BadHouse_init, F_BadHouse_init⟩ := c.def_ 0 (d := d_BadHouse_init) rfl
  obtain ⟨fd_NoNode_init, F_NoNode_init⟩ := c.def_ 1 (d := d_NoNode_init) rfl
  obtain ⟨fd_NoFolder_init, F_NoFolder_init⟩ := c.def_ 2 (d := d_NoFolder_init) rfl
  obtain ⟨fd_Ringed_init, F_Ringed_init⟩ := c.def_ 3 (d := d_Ringed_init) rfl
  obtain ⟨fd_is_list, F_is_list⟩ := c.def_ 4 (d := d_is_list) rfl
  obtain ⟨fd_is_name, F_is_name⟩ := c.def_ 5 (d := d_is_name) rfl
  obtain ⟨fd_wrong_name, F_wrong_name⟩ := c.def_ 6 (d := d_wrong_name) rfl
  obtain ⟨fd_wrong_part, F_wrong_part⟩ := c.def_ 7 (d := d_wrong_part) rfl
  obtain ⟨fd_House_init, F_House_init⟩ := c.def_ 8 (d := d_House_init) rfl
  obtain ⟨fd_House_len, F_House_len⟩ := c.def_ 9 (d := d_House_len) rfl
  obtain ⟨fd_House_contains, F_House_contains⟩ := c.def_ 10 (d := d_House_contains) rfl
  obtain ⟨fd_House_iter, F_House_iter⟩ := c.def_ 11 (d := d_House_iter) rfl
  obtain ⟨fd_House_eq, F_House_eq⟩ := c.def_ 12 (d := d_House_eq) rfl
  obtain ⟨fd_must_be_node, F_must_be_node⟩ := c.def_ 13 (d := d_must_be_node) rfl
  obtain ⟨fd_must_be_folder, F_must_be_folder⟩ := c.def_ 14 (d := d_must_be_folder) rfl
  obtain ⟨fd_ring, F_ring⟩ := c.def_ 15 (d := d_ring) rfl
  obtain ⟨fd_Tree_init, F_Tree_init⟩ := c.def_ 16 (d := d_Tree_init) rfl
  obtain ⟨fd_Tree_over, F_Tree_over⟩ := c.def_ 17 (d := d_Tree_over) rfl
  obtain ⟨fd_Tree_above, F_Tree_above⟩ := c.def_ 18 (d := d_Tree_above) rfl
  obtain ⟨fd_Tree_below, F_Tree_below⟩ := c.def_ 19 (d := d_Tree_below) rfl
  obtain ⟨fd_Tree_lies, F_Tree_lies⟩ := c.def_ 20 (d := d_Tree_lies) rfl
  obtain ⟨fd_Tree_moved, F_Tree_moved⟩ := c.def_ 21 (d := d_Tree_moved) rfl
  obtain ⟨fd_Tree_eq, F_Tree_eq⟩ := c.def_ 22 (d := d_Tree_eq) rfl
  obtain ⟨fd__law_cell, F__law_cell⟩ := c.def_ 23 (d := d__law_cell) rfl
  obtain ⟨fd__law_pool, F__law_pool⟩ := c.def_ 24 (d := d__law_pool) rfl
  obtain ⟨fd__law_take, F__law_take⟩ := c.def_ 25 (d := d__law_take) rfl
  obtain ⟨fd__law_names, F__law_names⟩ := c.def_ 26 (d := d__law_names) rfl
  obtain ⟨fd__law_house, F__law_house⟩ := c.def_ 27 (d := d__law_house) rfl
  obtain ⟨fd__law_goes_round, F__law_goes_round⟩ := c.def_ 28 (d := d__law_goes_round) rfl
  obtain ⟨fd__law_tree, F__law_tree⟩ := c.def_ 29 (d := d__law_tree) rfl
  obtain ⟨fd__law_above, F__law_above⟩ := c.def_ 30 (d := d__law_above) rfl
  obtain ⟨fd__law_made, F__law_made⟩ := c.def_ 31 (d := d__law_made) rfl
  obtain ⟨fd__law_is_right, F__law_is_right⟩ := c.def_ 32 (d := d__law_is_right) rfl
  obtain ⟨fd__law_moved, F__law_moved⟩ := c.def_ 33 (d := d__law_moved) rfl
  obtain ⟨fd__law_is_ring, F__law_is_ring⟩ := c.def_ 34 (d := d__law_is_ring) rfl
  obtain ⟨fd_law, F_law⟩ := c.def_ 35 (d := d_law) rfl
  have b_is_list : Binds K fd_is_list ["thing"] [] := FunD.bindsN F_is_list fun _ _ _ _ _ _ us hl => match us, hl with | [_], _ => rfl
  have b_is_name : Binds K fd_is_name ["thing"] [] := FunD.bindsN F_is_name fun _ _ _ _ _ _ us hl => match us, hl with | [_], _ => rfl
  have b_wrong_name : Binds K fd_wrong_name ["things"] [] := FunD.bindsN F_wrong_name fun _ _ _ _ _ _ us hl => match us, hl with | [_], _ => rfl
  have b_wrong_part : Binds K fd_wrong_part ["folders", "things"] [] := FunD.bindsN F_wrong_part fun _ _ _ _ _ _ us hl => match us, hl with | [_, _], _ => rfl
  have b_House_len : Binds K fd_House_len ["self"] [] := FunD.bindsN F_House_len fun _ _ _ _ _ _ us hl => match us, hl with | [_], _ => rfl
  have b_House_contains : Binds K fd_House_contains ["self", "x"] [] := FunD.bindsN F_House_contains fun _ _ _ _ _ _ us hl => match us, hl with | [_, _], _ => rfl
  have b_House_iter : Binds K fd_House_iter ["self"] [] := FunD.bindsN F_House_iter fun _ _ _ _ _ _ us hl => match us, hl with | [_], _ => rfl
  have b_House_eq : Binds K fd_House_eq ["self", "other"] [] := FunD.bindsN F_House_eq fun _ _ _ _ _ _ us hl => match us, hl with | [_, _], _ => rfl
  have b_must_be_node : Binds K fd_must_be_node ["house", "thing"] [] := FunD.bindsN F_must_be_node fun _ _ _ _ _ _ us hl => match us, hl with | [_, _], _ => rfl
  have b_must_be_folder : Binds K fd_must_be_folder ["house", "thing"] [] := FunD.bindsN F_must_be_folder fun _ _ _ _ _ _ us hl => match us, hl with | [_, _], _ => rfl
  have b_ring : Binds K fd_ring ["house", "lying"] [] := FunD.bindsN F_ring fun _ _ _ _ _ _ us hl => match us, hl with | [_, _], _ => rfl
  have b_Tree_init : Binds K fd_Tree_init ["self", "house", "over"] [] := FunD.bindsN F_Tree_init fun _ _ _ _ _ _ us hl => match us, hl with | [_, _, _], _ => rfl
  have b_Tree_over : Binds K fd_Tree_over ["self", "node"] [] := FunD.bindsN F_Tree_over fun _ _ _ _ _ _ us hl => match us, hl with | [_, _], _ => rfl
  have b_Tree_above : Binds K fd_Tree_above ["self", "node"] [] := FunD.bindsN F_Tree_above fun _ _ _ _ _ _ us hl => match us, hl with | [_, _], _ => rfl
  have b_Tree_below : Binds K fd_Tree_below ["self", "folder"] [] := FunD.bindsN F_Tree_below fun _ _ _ _ _ _ us hl => match us, hl with | [_, _], _ => rfl
  have b_Tree_lies : Binds K fd_Tree_lies ["self", "node", "folder"] [] := FunD.bindsN F_Tree_lies fun _ _ _ _ _ _ us hl => match us, hl with | [_, _, _], _ => rfl
  have b_Tree_moved : Binds K fd_Tree_moved ["self", "node", "folder"] [] := FunD.bindsN F_Tree_moved fun _ _ _ _ _ _ us hl => match us, hl with | [_, _, _], _ => rfl
  have b_Tree_eq : Binds K fd_Tree_eq ["self", "other"] [] := FunD.bindsN F_Tree_eq fun _ _ _ _ _ _ us hl => match us, hl with | [_, _], _ => rfl
  have b__law_cell : Binds K fd__law_cell ["_law_script", "_law_k"] [] := FunD.bindsN F__law_cell fun _ _ _ _ _ _ us hl => match us, hl with | [_, _], _ => rfl
  have b__law_pool : Binds K fd__law_pool ["_law_grain"] [] := FunD.bindsN F__law_pool fun _ _ _ _ _ _ us hl => match us, hl with | [_], _ => rfl
  have b__law_take : Binds K fd__law_take ["_law_pool_here", "_law_many"] [] := FunD.bindsN F__law_take fun _ _ _ _ _ _ us hl => match us, hl with | [_, _], _ => rfl
  have b__law_names : Binds K fd__law_names ["_law_pool_here", "_law_many"] [] := FunD.bindsN F__law_names fun _ _ _ _ _ _ us hl => match us, hl with | [_, _], _ => rfl
  have b__law_house : Binds K fd__law_house ["_law_pool_here", "_law_most", "_law_more"] [] := FunD.bindsN F__law_house fun _ _ _ _ _ _ us hl => match us, hl with | [_, _, _], _ => rfl
  have b__law_goes_round : Binds K fd__law_goes_round ["_law_ups", "_law_node", "_law_folder"] [] := FunD.bindsN F__law_goes_round fun _ _ _ _ _ _ us hl => match us, hl with | [_, _, _], _ => rfl
  have b__law_tree : Binds K fd__law_tree ["_law_pool_here", "_law_folders", "_law_things"] [] := FunD.bindsN F__law_tree fun _ _ _ _ _ _ us hl => match us, hl with | [_, _, _], _ => rfl
  have b__law_above : Binds K fd__law_above ["_law_ups", "_law_node"] [] := FunD.bindsN F__law_above fun _ _ _ _ _ _ us hl => match us, hl with | [_, _], _ => rfl
  have b__law_made : Binds K fd__law_made ["_law_house_here", "_law_ups"] [] := FunD.bindsN F__law_made fun _ _ _ _ _ _ us hl => match us, hl with | [_, _], _ => rfl
  have b__law_is_right : Binds K fd__law_is_right ["_law_tree_here", "_law_house_here", "_law_ups", "_law_folders"] [] := FunD.bindsN F__law_is_right fun _ _ _ _ _ _ us hl => match us, hl with | [_, _, _, _], _ => rfl
  have b__law_moved : Binds K fd__law_moved ["_law_tree_here", "_law_node", "_law_folder"] [] := FunD.bindsN F__law_moved fun _ _ _ _ _ _ us hl => match us, hl with | [_, _, _], _ => rfl
  have b__law_is_ring : Binds K fd__law_is_ring ["_law_ups", "_law_ring"] [] := FunD.bindsN F__law_is_ring fun _ _ _ _ _ _ us hl => match us, hl with | [_, _], _ => rfl
  have q := hfa.symm.trans (glo_ok X G (c.fact 25 (f := .glo "law") rfl))
  cases q
  have b := FunD.bindsA (ps := ["_law_script"]) F_law fun _ _ _ _ _ _ us hl => match us, hl with | [_], _ => rfl
  refine ⟨fd_law, fun s v => b s [v] rfl, fun base XB GB => ?_⟩
  obtain ⟨eB, e1⟩ := ba e
  obtain ⟨eK, e2⟩ := ba e1
  obtain ⟨eC, e3⟩ := ba e2
  obtain ⟨eN, e4⟩ := ba e3
  obtain ⟨eS, e5⟩ := ba e4
  obtain ⟨eT, e6⟩ := ba e5
  obtain ⟨eD, e7⟩ := ba e6
  obtain ⟨eN1, e8⟩ := ba e7
  obtain ⟨eN2, e9⟩ := ba e8
  obtain ⟨eN3, f0⟩ := ba e9
  obtain ⟨fK, f1⟩ := ba f0
  obtain ⟨fC, fN⟩ := ba f1
  have KC := kitCB_ok eK
  have KT := kitCB_ok fK
  have nb : ∀ T, T ∈ ["NoneType", "list", "tuple", "int", "str"] → PySem.W.notFirst K (ga K "House") (.type T) = true ∧ PySem.W.kitOne K (.type T) (.ref (ga K "House")) = some false := fun T hT => by
    obtain ⟨k1, k2⟩ := ba (List.all_eq_true.mp eT T hT)
    exact ⟨k1, of_decide_eq_true k2⟩
  have EB : ∀ base, Er P w K mg base "BadHouse" "index" (ga K "BadHouse") := fun base => by
    have T := errB_ok (glo_ok X G (c.fact 0 (f := .glo "BadHouse") rfl)) eB
    have S : FnScope ["self", "index"] ["self", "index"] (defScope s_BadHouse_init) := ⟨rfl, rfl, rfl, by decide +kernel, rfl, by decide +kernel, by decide +kernel⟩
    refine ⟨_, fd_BadHouse_init, T, ok_init (st := s_BadHouse_init) (qual := "BadHouse.__init__") T F_BadHouse_init S ⟨_, _, _, _, rfl⟩ (by decide) (by decide), FunD.bindsN F_BadHouse_init fun _ _ _ _ _ _ us hl => match us, hl with | [_, _], _ => rfl, fun s u v _ => ?_⟩
    obtain ⟨oc, od, dV, kV, doc, pm, an, cdv, ct, osl, rfl, lk, hcd, hD, hK⟩ := F_BadHouse_init.ex
    rcases hD with ⟨_, rfl⟩ | ⟨z, _⟩
    · exact .of_eq rfl
    · exact absurd rfl z
  have EN : ∀ base, Er P w K mg base "NoNode" "node" (ga K "NoNode") := fun base => by
    have T := errB_ok (glo_ok X G (c.fact 1 (f := .glo "NoNode") rfl)) eN1
    have S : FnScope ["self", "node"] ["self", "node"] (defScope s_NoNode_init) := ⟨rfl, rfl, rfl, by decide +kernel, rfl, by decide +kernel, by decide +kernel⟩
    refine ⟨_, fd_NoNode_init, T, ok_init (st := s_NoNode_init) (qual := "NoNode.__init__") T F_NoNode_init S ⟨_, _, _, _, rfl⟩ (by decide) (by decide), FunD.bindsN F_NoNode_init fun _ _ _ _ _ _ us hl => match us, hl with | [_, _], _ => rfl, fun s u v _ => ?_⟩
    obtain ⟨oc, od, dV, kV, doc, pm, an, cdv, ct, osl, rfl, lk, hcd, hD, hK⟩ := F_NoNode_init.ex
    rcases hD with ⟨_, rfl⟩ | ⟨z, _⟩
    · exact .of_eq rfl
    · exact absurd rfl z
  have EF : ∀ base, Er P w K mg base "NoFolder" "folder" (ga K "NoFolder") := fun base => by
    have T := errB_ok (glo_ok X G (c.fact 2 (f := .glo "NoFolder") rfl)) eN2
    have S : FnScope ["self", "folder"] ["self", "folder"] (defScope s_NoFolder_init) := ⟨rfl, rfl, rfl, by decide +kernel, rfl, by decide +kernel, by decide +kernel⟩
    refine ⟨_, fd_NoFolder_init, T, ok_init (st := s_NoFolder_init) (qual := "NoFolder.__init__") T F_NoFolder_init S ⟨_, _, _, _, rfl⟩ (by decide) (by decide), FunD.bindsN F_NoFolder_init fun _ _ _ _ _ _ us hl => match us, hl with | [_, _], _ => rfl, fun s u v _ => ?_⟩
    obtain ⟨oc, od, dV, kV, doc, pm, an, cdv, ct, osl, rfl, lk, hcd, hD, hK⟩ := F_NoFolder_init.ex
    rcases hD with ⟨_, rfl⟩ | ⟨z, _⟩
    · exact .of_eq rfl
    · exact absurd rfl z
  have ER : ∀ base, Er P w K mg base "Ringed" "folders" (ga K "Ringed") := fun base => by
    have T := errB_ok (glo_ok X G (c.fact 3 (f := .glo "Ringed") rfl)) eN3
    have S : FnScope ["self", "folders"] ["self", "folders"] (defScope s_Ringed_init) := ⟨rfl, rfl, rfl, by decide +kernel, rfl, by decide +kernel, by decide +kernel⟩
    refine ⟨_, fd_Ringed_init, T, ok_init (st := s_Ringed_init) (qual := "Ringed.__init__") T F_Ringed_init S ⟨_, _, _, _, rfl⟩ (by decide) (by decide), FunD.bindsN F_Ringed_init fun _ _ _ _ _ _ us hl => match us, hl with | [_, _], _ => rfl, fun s u v _ => ?_⟩
    obtain ⟨oc, od, dV, kV, doc, pm, an, cdv, ct, osl, rfl, lk, hcd, hD, hK⟩ := F_Ringed_init.ex
    rcases hD with ⟨_, rfl⟩ | ⟨z, _⟩
    · exact .of_eq rfl
    · exact absurd rfl z
  have T : HouC K (ga K "House") := ⟨cls_ok (c.fact 41 (f := .cls "House") rfl), noat_ok (c.fact 42 (f := .noat "House" "folders") rfl), noat_ok (c.fact 43 (f := .noat "House" "things") rfl), noat_ok (c.fact 44 (f := .noat "House" "nodes") rfl), KC.at_, KC.sp, KC.tk, KC.ob⟩
  have mt : ∀ m, Meth K (ga K "House") m (ma K (ga K "House") m) → OwnM K (ga K "House") m (ma K (ga K "House") m) := fun m z => ⟨z.at_, z.fn⟩
  obtain ⟨tL, gLL⟩ := str_ok X G (c.fact 40 (f := .str "LETTERS" letters) rfl)
  obtain ⟨t8, g88⟩ := int_ok X G (c.fact 39 (f := .int "LONGEST" 8) rfl)
  have IL : ∀ base, FnOk P w K mg base CX0 1 _ fd_is_list ["thing"] (spIsList K) := fun base => ok_isList F_is_list (free_ok X G (c.fact 28 (f := .free "isinstance") rfl)) (free_ok X G (c.fact 31 (f := .free "list") rfl)) (free_ok X G (c.fact 32 (f := .free "tuple") rfl))
  have WN : ∀ base, FnOk P w K mg base CX0 2 _ fd_wrong_name ["things"] (spWrongName K) := fun base => ok_wrongName F_wrong_name (ok_isName F_is_name (free_ok X G (c.fact 28 (f := .free "isinstance") rfl)) (free_ok X G (c.fact 33 (f := .free "str") rfl)) (free_ok X G (c.fact 27 (f := .free "len") rfl)) (free_ok X G (c.fact 30 (f := .free "all") rfl)) g88 gLL) (glo_ok X G (c.fact 5 (f := .glo "is_name") rfl)) F_is_name.kp b_is_name (free_ok X G (c.fact 34 (f := .free "enumerate") rfl))
  have WP : ∀ base, FnOk P w K mg base CX0 3 _ fd_wrong_part ["folders", "things"] (spWrongPart K) := fun base => ok_wrongPart F_wrong_part (IL base) (glo_ok X G (c.fact 4 (f := .glo "is_list") rfl)) F_is_list.kp b_is_list ((WN base).imp wn_imp) (glo_ok X G (c.fact 6 (f := .glo "wrong_name") rfl)) F_wrong_name.kp b_wrong_name (free_ok X G (c.fact 27 (f := .free "len") rfl))
  have HI : ∀ base, FnOk P w K mg base (L2.CX P w) 4 _ fd_House_init ["self", "folders", "things"] (spHInit K (ga K "House") (ga K "BadHouse")) := fun base => ok_hInit F_House_init T (WP base) (glo_ok X G (c.fact 7 (f := .glo "wrong_part") rfl)) F_wrong_part.kp b_wrong_part (EB base) (free_ok X G (c.fact 32 (f := .free "tuple") rfl))
  obtain ⟨d3, vd3, bI⟩ := FunD.binds1 (ps := ["self", "folders", "things"]) F_House_init 3 1 (by simp [DefD.dvs, d_House_init]) rfl fun T kV doc pm an cdv ct us its hu hi => by
    match us, hu, its, hi with
    | [_, _, _], _, [_], _ => exact ⟨_, rfl, rfl⟩
  obtain ⟨d2, vd2, bD⟩ := FunD.binds1 (ps := ["self", "folders", "things"]) F_House_init 2 0 (by simp [DefD.dvs, d_House_init]) rfl fun T kV doc pm an cdv ct us its hu hi => by
    match us, hu, its, hi with
    | [_, _], _, [_], _ => exact ⟨_, rfl, rfl⟩
  have nD : ∀ H, SqT K H (aDef K) [] := dflB_ok eD
  have e3' : d3 = [] := by
    cases vd3
    rfl
  subst e3'
  obtain ⟨u2, e2', ru2⟩ := vd2.one
  subst e2'
  have eu : u2 = .ref (aDef K) := ru2
  have HE : ∀ base, FnOk P w K mg base CX0 1 _ fd_House_eq ["self", "other"] (spHEq K (ga K "House")) := fun base => ok_hEq F_House_eq T (free_ok X G (c.fact 28 (f := .free "isinstance") rfl)) (glo_ok X G (c.fact 8 (f := .glo "House") rfl)) (of_decide_eq_true eC)
  let Z : HouseTxt P w K mg (ga K "House") (ga K "BadHouse") := {
    T := T, gH := (glo_ok X G (c.fact 8 (f := .glo "House") rfl)), kCC := of_decide_eq_true eC, ne := of_decide_eq_true eN, noStr := of_decide_eq_true eS, nb := nb,
    fI := _, fdI := fd_House_init, M := mkr_ok (c.fact 49 (f := .mkr "House") rfl), I := HI, bI := bI, uD := u2, bD := bD, aD := aDef K, eD := eu, tD := nD,
    fL := _, fdL := fd_House_len, mL := (mt _ (meth_ok (c.fact 45 (f := .meth "House" "__len__") rfl))), L := fun base => ok_hLen F_House_len T (free_ok X G (c.fact 27 (f := .free "len") rfl)), bL := b_House_len,
    fS := _, fdS := fd_House_contains, mS := (mt _ (meth_ok (c.fact 46 (f := .meth "House" "__contains__") rfl))), S := fun base => ok_hHas F_House_contains T (of_decide_eq_true eS) (mt _ (meth_ok (c.fact 48 (f := .meth "House" "__eq__") rfl))) (HE base) b_House_eq (nb "str" (by decide)).2, bS := b_House_contains,
    fW := _, fdW := fd_House_iter, mW := (mt _ (meth_ok (c.fact 47 (f := .meth "House" "__iter__") rfl))), W := fun base => ok_hIter F_House_iter T (free_ok X G (c.fact 35 (f := .free "iter") rfl)), bW := b_House_iter,
    fE := _, fdE := fd_House_eq, mE := (mt _ (meth_ok (c.fact 48 (f := .meth "House" "__eq__") rfl))), E := HE, bE := b_House_eq }
  have HN : ∀ base, HasX P w K mg base 4 "must_be_node" ["house", "thing"] (spMustNode K (ga K "House") (ga K "NoNode")) := fun base => ⟨_, fd_must_be_node, ok_mustNode F_must_be_node Z (EN base), (glo_ok X G (c.fact 9 (f := .glo "must_be_node") rfl)), F_must_be_node.kp, b_must_be_node⟩
  have HF : ∀ base, HasX P w K mg base 4 "must_be_folder" ["house", "thing"] (spMustFolder K (ga K "House") (ga K "NoFolder")) := fun base => ⟨_, fd_must_be_folder, ok_mustFolder F_must_be_folder Z (EF base), (glo_ok X G (c.fact 10 (f := .glo "must_be_folder") rfl)), F_must_be_folder.kp, b_must_be_folder⟩
  have HR : ∀ base, Has P w K mg base 2 "ring" ["house", "lying"] (spRing K (ga K "House")) := fun base => ⟨_, fd_ring, ok_ring F_ring Z (free_ok X G (c.fact 32 (f := .free "tuple") rfl)), (glo_ok X G (c.fact 11 (f := .glo "ring") rfl)), F_ring.kp, b_ring⟩
  have TT : TreC K (ga K "Tree") := ⟨cls_ok (c.fact 50 (f := .cls "Tree") rfl), noat_ok (c.fact 51 (f := .noat "Tree" "house") rfl), noat_ok (c.fact 52 (f := .noat "Tree" "lying") rfl), KT.at_, KT.sp, KT.tk, KT.ob⟩
  have mtT : ∀ m, Meth K (ga K "Tree") m (ma K (ga K "Tree") m) → OwnM K (ga K "Tree") m (ma K (ga K "Tree") m) := fun m z => ⟨z.at_, z.fn⟩
  have TI : ∀ base, FnOk P w K mg base (L2.CX P w) 6 _ fd_Tree_init ["self", "house", "over"] (spTInit K (ga K "Tree") (ga K "House") (ga K "NoFolder") (ga K "Ringed")) := fun base => ok_tInit F_Tree_init Z TT (HN base) (HF base) (HR base) (ER base)
  have TV : ∀ base, FnOk P w K mg base (L2.CX P w) 5 _ fd_Tree_over ["self", "node"] (spTOver K (ga K "Tree") (ga K "House") (ga K "NoNode")) := fun base => ok_tOver F_Tree_over TT (HN base)
  have TA : ∀ base, FnOk P w K mg base (L2.CX P w) 6 _ fd_Tree_above ["self", "node"] (spTAbove K (ga K "Tree") (ga K "House") (ga K "NoNode")) := fun base => ok_tAbove F_Tree_above TT (meth_ok (c.fact 53 (f := .meth "Tree" "over") rfl)) (TV base) b_Tree_over (free_ok X G (c.fact 32 (f := .free "tuple") rfl))
  let Y : TreeTxt P w K mg (ga K "Tree") (ga K "House") (ga K "NoNode") (ga K "NoFolder") (ga K "Ringed") := {
    T := TT, gT := (glo_ok X G (c.fact 12 (f := .glo "Tree") rfl)), kTT := of_decide_eq_true fC, ne := of_decide_eq_true fN,
    fI := _, fdI := fd_Tree_init, M0 := mkr_ok (c.fact 59 (f := .mkr "Tree") rfl), I := TI, bI := b_Tree_init,
    fV := _, fdV := fd_Tree_over, mV := meth_ok (c.fact 53 (f := .meth "Tree" "over") rfl), V := TV, bV := b_Tree_over,
    fA := _, fdA := fd_Tree_above, mA := meth_ok (c.fact 54 (f := .meth "Tree" "above") rfl), A := TA, bA := b_Tree_above,
    fW := _, fdW := fd_Tree_below, mW := meth_ok (c.fact 55 (f := .meth "Tree" "below") rfl), W := fun base => ok_tBelow F_Tree_below TT Z (meth_ok (c.fact 54 (f := .meth "Tree" "above") rfl)) (TA base) b_Tree_above (HF base) (free_ok X G (c.fact 32 (f := .free "tuple") rfl)), bW := b_Tree_below,
    fL := _, fdL := fd_Tree_lies, mL := meth_ok (c.fact 56 (f := .meth "Tree" "lies") rfl), L := fun base => ok_tLies F_Tree_lies TT (meth_ok (c.fact 54 (f := .meth "Tree" "above") rfl)) (TA base) b_Tree_above (HF base), bL := b_Tree_lies,
    fM := _, fdM := fd_Tree_moved, mM := meth_ok (c.fact 57 (f := .meth "Tree" "moved") rfl), M := fun base => ok_tMoved F_Tree_moved TT Z (HN base) (mkr_ok (c.fact 59 (f := .mkr "Tree") rfl)) (TI base) b_Tree_init (glo_ok X G (c.fact 12 (f := .glo "Tree") rfl)), bM := b_Tree_moved,
    fE := _, fdE := fd_Tree_eq, mE := (mtT _ (meth_ok (c.fact 58 (f := .meth "Tree" "__eq__") rfl))), E := fun base => ok_tEq F_Tree_eq TT Z (free_ok X G (c.fact 28 (f := .free "isinstance") rfl)) (glo_ok X G (c.fact 12 (f := .glo "Tree") rfl)) (of_decide_eq_true fC), bE := b_Tree_eq }
  have TK : FnOk P w K mg base CX0 1 _ fd__law_take ["_law_pool_here", "_law_many"] spTake := ok_take F__law_take (free_ok X G (c.fact 26 (f := .free "int") rfl))
  have hT : Has P w K mg base 1 "_law_take" ["_law_pool_here", "_law_many"] spTake := ⟨_, fd__law_take, TK, (glo_ok X G (c.fact 15 (f := .glo "_law_take") rfl)), F__law_take.kp, b__law_take⟩
  have NM : FnOk P w K mg base CX0 2 _ fd__law_names ["_law_pool_here", "_law_many"] (spNames K) := ok_names F__law_names TK (glo_ok X G (c.fact 15 (f := .glo "_law_take") rfl)) F__law_take.kp b__law_take (free_ok X G (c.fact 29 (f := .free "range") rfl))
  have N1 := errB_ok (glo_ok X G (c.fact 1 (f := .glo "NoNode") rfl)) eN1
  have N2 := errB_ok (glo_ok X G (c.fact 2 (f := .glo "NoFolder") rfl)) eN2
  have N3 := errB_ok (glo_ok X G (c.fact 3 (f := .glo "Ringed") rfl)) eN3
  have hGo : Has P w K mg base 1 "_law_goes_round" ["_law_ups", "_law_node", "_law_folder"] (spGoes K) := ⟨_, fd__law_goes_round, ok_goes F__law_goes_round (free_ok X G (c.fact 29 (f := .free "range") rfl)) (free_ok X G (c.fact 27 (f := .free "len") rfl)), (glo_ok X G (c.fact 18 (f := .glo "_law_goes_round") rfl)), F__law_goes_round.kp, b__law_goes_round⟩
  have hAb : Has P w K mg base 1 "_law_above" ["_law_ups", "_law_node"] (spAbove K) := ⟨_, fd__law_above, ok_above F__law_above (free_ok X G (c.fact 29 (f := .free "range") rfl)) (free_ok X G (c.fact 27 (f := .free "len") rfl)), (glo_ok X G (c.fact 20 (f := .glo "_law_above") rfl)), F__law_above.kp, b__law_above⟩
  have R : RefT K mg (ga K "NoNode") (ga K "NoFolder") (ga K "Ringed") := ⟨N1.gl, N2.gl, N3.gl, N1.xf, N2.xf, N3.xf, N1.no, N2.no, N3.no, exm_ok (c.fact 60 (f := .exm "NoNode" "NoNode" true) rfl), exm_ok (c.fact 61 (f := .exm "NoFolder" "NoNode" false) rfl), exm_ok (c.fact 62 (f := .exm "NoFolder" "NoFolder" true) rfl), exm_ok (c.fact 63 (f := .exm "Ringed" "NoNode" false) rfl), exm_ok (c.fact 64 (f := .exm "Ringed" "NoFolder" false) rfl), exm_ok (c.fact 65 (f := .exm "Ringed" "Ringed" true) rfl)⟩
  exact ok_law F_law Z Y
    ⟨_, fd__law_cell, ok_cell F__law_cell (free_ok X G (c.fact 27 (f := .free "len") rfl)), (glo_ok X G (c.fact 13 (f := .glo "_law_cell") rfl)), F__law_cell.kp, b__law_cell⟩
    ⟨_, fd__law_pool, ok_pool F__law_pool (free_ok X G (c.fact 26 (f := .free "int") rfl)), (glo_ok X G (c.fact 14 (f := .glo "_law_pool") rfl)), F__law_pool.kp, b__law_pool⟩ hT
    ⟨_, fd__law_house, ok_house F__law_house TK (glo_ok X G (c.fact 15 (f := .glo "_law_take") rfl)) F__law_take.kp b__law_take NM (glo_ok X G (c.fact 16 (f := .glo "_law_names") rfl)) F__law_names.kp b__law_names (free_ok X G (c.fact 36 (f := .free "max") rfl)), (glo_ok X G (c.fact 17 (f := .glo "_law_house") rfl)), F__law_house.kp, b__law_house⟩
    ⟨_, fd__law_tree, ok_tree F__law_tree hT hGo (free_ok X G (c.fact 27 (f := .free "len") rfl)), (glo_ok X G (c.fact 19 (f := .glo "_law_tree") rfl)), F__law_tree.kp, b__law_tree⟩
    ⟨_, fd__law_made, ok_made F__law_made Y (free_ok X G (c.fact 38 (f := .free "dict") rfl)), (glo_ok X G (c.fact 21 (f := .glo "_law_made") rfl)), F__law_made.kp, b__law_made⟩
    ⟨_, fd__law_moved, ok_lmoved F__law_moved Y R, (glo_ok X G (c.fact 23 (f := .glo "_law_moved") rfl)), F__law_moved.kp, b__law_moved⟩
    ⟨_, fd__law_is_right, ok_right F__law_is_right Y Z hAb (free_ok X G (c.fact 32 (f := .free "tuple") rfl)) (free_ok X G (c.fact 30 (f := .free "all") rfl)) (free_ok X G (c.fact 28 (f := .free "isinstance") rfl)) (free_ok X G (c.fact 37 (f := .free "bool") rfl)), (glo_ok X G (c.fact 22 (f := .glo "_law_is_right") rfl)), F__law_is_right.kp, b__law_is_right⟩
    ⟨_, fd__law_is_ring, ok_isRing F__law_is_ring (free_ok X G (c.fact 32 (f := .free "tuple") rfl)) (free_ok X G (c.fact 31 (f := .free "list") rfl)) (free_ok X G (c.fact 28 (f := .free "isinstance") rfl)) (free_ok X G (c.fact 27 (f := .free "len") rfl)), (glo_ok X G (c.fact 24 (f := .glo "_law_is_ring") rfl)), F__law_is_ring.kp, b__law_is_ring⟩
    hAb (free_ok X G (c.fact 29 (f := .free "range") rfl)) (free_ok X G (c.fact 27 (f := .free "len") rfl)) (free_ok X G (c.fact 38 (f := .free "dict") rfl))
end
end My

namespace My
open PySem PySem.Spec PyProof.Rows L2 He
theorem run (w : World) : HandSHeadRun.RunEq Rw (PySem.W.view Rw.prog [34]) hk ob 8000 loose w := by
  intro os
  kernel_rfl
end My

open PySem PySem.W PySem.Calls PyProof.Rows
theorem PySem.Challenge.cw_whatopened_k04_trees_moved_holds : PySem.Challenge.rw_whatopened_k04_trees_moved.Holds := by
  w_on; o_law
  refine HandSHeadRun.head_any (r := OpenLaw.row PySem.Challenge.rw_whatopened_k04_trees_moved) (q := view (OpenLaw.row PySem.Challenge.rw_whatopened_k04_trees_moved).prog [34]) (H := My.hk) (ob := My.ob) (M := 8000) (loose := My.loose) (d := HandSHeadRun.topDef (OpenLaw.row PySem.Challenge.rw_whatopened_k04_trees_moved).prog 34) (kwd := []) My.ob_eq
    (by kernel_rfl) (fun s => by kernel_rfl) My.run (by kernel_rfl) (by kernel_rfl) (by kernel_rfl) (by rfl) (by first | assumption | decide +kernel) (by decide +kernel) ⟨rfl, rfl, rfl, rfl, rfl, by decide +kernel⟩ ?hw ?hc
  case hw => w_witness2
  case hc =>
    refine L2.walk_ofE (l := PySem.Challenge.rw_whatopened_k04_trees_moved) (n := 63) (k := 12) (x := "_law_script") (CX := L2.CX0) rfl (by decide) (by kernel_rfl) ⟨rfl, by decide, by decide⟩ ?F (fun _ _ _ _ z => z)
    intro w mg fa h Y G hmg0
    obtain ⟨K, KX, c, e⟩ := Y
    have hmg : mg ("law" : PySem.Str) = some (.ref fa) := by
      have e : (HandSHeadRun.topDef (OpenLaw.row PySem.Challenge.rw_whatopened_k04_trees_moved).prog 34).name = ("law" : PySem.Str) := by kernel_rfl
      rw [← e]
      exact hmg0
    obtain ⟨fd, hb, hF⟩ := My.facts (P := (PySem.Challenge.rw_whatopened_k04_trees_moved).prog) (w := w) KX G hmg c e
    exact ⟨K, fd, My.spLaw K, KX, hb, fun H a ns hl _ hS => ⟨a, ns, rfl, hS, fun _ => rfl⟩, hF⟩
#print axioms PySem.Challenge.cw_whatopened_k04_trees_moved_holds

