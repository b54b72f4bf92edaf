import PyProof.Rows.All
import Wide.All
import OpenK.AllK
import Wide.FinOn
import HandS.ForMost
import HandS.ForExc
import HandS.Defaults
import HandS.IsInst
import HandS.ExcInit
import HandS.OwnEq
import PySem.Challenge.RW_whatopened_k21_texts_refused
import HandS.ExcValue
import HandS.ExcField
import HandS.MakeKw
import KE.KExcIs
import HandS.LawCells
import HandS.OwnIter
import PyProof.InstEq
import HandS.IterVal
import HandS.Walk
import KE.GoesMore
import KE.GoesEnum
import PyProof.Draws
import HandS.Star
import HandS.TupAny
import HandS.WordsExc
import HandS.CallSlots
import HandS.Style
import HandS.Codes
import HandS.NoneIn
import HandS.Deep
import HandS.Lambda
import HandS.TryMany
import KE.KOpsOwn
import KE.KStateDown
import Lean
import HandS.Head0
import HandS.Head1
import HandS.Head2
import HandS.HeadEnd
import HandS.HeadHook1
import HandS.HeadHook2
import HandS.ListItems
import HandS.Conv
import KE.KDictItemsList
import KE.KDictCopyH
import KE.KDictZip
import KE.KTurns
import PyProof.ListNew
import HandS.Zip
import KE.KUnpackStar
import HandS.Text
import PyProof.StrLawsTight
import PyProof.StrLawsChain
import PyProof.Rows.StrItems
import PyProof.Rows.StrFin3
import HandS.Comp
import HandS.DictComp
import HandS.WordsDict
import HandS.More
import HandS.ListEq
import KE.DataEq
set_option Elab.async false
set_option linter.all false
set_option maxRecDepth 100000
set_option maxHeartbeats 0
namespace My
open PySem PySem.Spec PyProof.Rows L2
def top (i : Nat) : Stmt := PySem.Challenge.pw_whatopened_k21_texts_refused.main.body.getD i (.Pass ⟨0, 0, 0, 0⟩)
abbrev FnP (K : PySem.W.Frag) (x : Str) (st : Stmt) (f : Addr) (fd : FuncData) : Prop := FunD K x x (defArgs st) (defBody st) (defScope st) [] [] f fd
def inCls (s : Stmt) (i : Nat) : Stmt := match s with
  | .ClassDef (body := b) .. => b.getD i (.Pass ⟨0, 0, 0, 0⟩)
  | _ => .Pass ⟨0, 0, 0, 0⟩
abbrev s__wall : Stmt := top 0
abbrev s_BadHouse_init : Stmt := inCls (top 3) 0
abbrev s_BadFact_init : Stmt := inCls (top 4) 0
abbrev s_BadText_init : Stmt := inCls (top 5) 0
abbrev s_is_list : Stmt := top 9
abbrev sIsList : Stmt := top 9
abbrev s_is_name : Stmt := top 10
abbrev sIsName : Stmt := top 10
abbrev s_is_fact : Stmt := top 13
abbrev s_wrong_fact : Stmt := top 14
abbrev s_as_told : Stmt := top 15
abbrev s_each_once : Stmt := top 16
abbrev s_Facts_init : Stmt := inCls (top 17) 0
abbrev s_Facts_told : Stmt := inCls (top 17) 1
abbrev s_Facts_without : Stmt := inCls (top 17) 2
abbrev s_Facts_add : Stmt := inCls (top 17) 3
abbrev s_Facts_len : Stmt := inCls (top 17) 4
abbrev s_Facts_contains : Stmt := inCls (top 17) 5
abbrev s_Facts_iter : Stmt := inCls (top 17) 6
abbrev s_Facts_eq : Stmt := inCls (top 17) 7
abbrev s_wrong_name : Stmt := top 19
abbrev sWrongName : Stmt := top 19
abbrev s_wrong_part : Stmt := top 20
abbrev sWrongPart : Stmt := top 20
abbrev s_House_init : Stmt := inCls (top 21) 0
abbrev sHInit : Stmt := inCls (top 21) 0
abbrev s_House_len : Stmt := inCls (top 21) 1
abbrev sHLen : Stmt := inCls (top 21) 1
abbrev s_House_contains : Stmt := inCls (top 21) 2
abbrev sHHas : Stmt := inCls (top 21) 2
abbrev s_House_iter : Stmt := inCls (top 21) 3
abbrev sHIter : Stmt := inCls (top 21) 3
abbrev s_House_eq : Stmt := inCls (top 21) 4
abbrev sHEq : Stmt := inCls (top 21) 4
abbrev s_house_of : Stmt := top 24
abbrev s_fact_of : Stmt := top 25
abbrev s_read : Stmt := top 26
abbrev s__law_cell : Stmt := top 28
abbrev sCell : Stmt := top 28
abbrev s__law_pool : Stmt := top 29
abbrev sPool : Stmt := top 29
abbrev s__law_take : Stmt := top 30
abbrev sTake : Stmt := top 30
abbrev s__law_mixed : Stmt := top 31
abbrev s__law_names : Stmt := top 32
abbrev sNames : Stmt := top 32
abbrev s__law_house : Stmt := top 33
abbrev sHouse : Stmt := top 33
abbrev s__law_fact : Stmt := top 34
abbrev s__law_is_name : Stmt := top 35
abbrev s__law_are_new : Stmt := top 36
abbrev s__law_can_stand : Stmt := top 37
abbrev s__law_due : Stmt := top 38
abbrev s__law_refused : Stmt := top 39
abbrev s__law_spoilt : Stmt := top 40
abbrev s_law : Stmt := top 41
end My

namespace My
open PySem PySem.Spec PyProof.Rows L2
/-! ### the pool -/
/-- a pool stands at p, at most n draws of its second kind were made -/
def Pool (H : Hp) (p : Addr) (n : Int) : Prop := ∃ g m c : Int, H p = some (.lst [.int g, .int m, .int c]) ∧ 0 ≤ g ∧ 0 ≤ m ∧ m < 1000000007 ∧ 0 ≤ c ∧ c ≤ n
def spCell1 (K : PySem.W.Frag) : Sp := fun vs H Q _ => ∃ (l : Addr) (ns : List Int) (j : Nat), vs = [.ref l, .int (j : Int)] ∧ SqL K H l (ns.map V.int) ∧ ∀ i : Int, Q (.int i) H
def spPool : Sp := fun vs H Q _ => ∃ g : Int, vs = [.int g] ∧ ∀ p H', H p = none → (∃ a b : Int, 0 ≤ a ∧ 0 ≤ b ∧ b < 1000000007 ∧ H' = upd H p (.lst [.int a, .int b, .int 0])) → Q (.ref p) H'
def spTake : Sp := fun vs H Q _ => ∃ (p : Addr) (many n : Int), vs = [.ref p, .int many] ∧ 0 < many ∧ many < 1073741824 ∧ Pool H p n ∧ n < 1099511627776 ∧
  ∀ (r : Int) (o : HO), 0 ≤ r → r < many → Pool (upd H p o) p (n + 1) → Q (.int r) (upd H p o)
theorem scCell : FnScope ["_law_script", "_law_k"] ["_law_script", "_law_k"] (defScope sCell) := ⟨rfl, rfl, rfl, by decide +kernel, rfl, by decide +kernel, by decide +kernel⟩
theorem scPool : FnScope ["_law_grain", "_law_folded"] ["_law_grain"] (defScope sPool) := ⟨rfl, rfl, rfl, by decide +kernel, rfl, by decide +kernel, by decide +kernel⟩
theorem scTake : FnScope ["_law_pool_here", "_law_many", "_law_draw", "_law_mixed_here"] ["_law_pool_here", "_law_many"] (defScope sTake) := ⟨rfl, rfl, rfl, by decide +kernel, rfl, by decide +kernel, by decide +kernel⟩
section
variable {P : Program} {w : World} {K : PySem.W.Frag} {mg : Str → Option Value} {base : Heap} {f : Addr} {fd : FuncData}
theorem ok_cell (F : FnP K "_law_cell" sCell f fd) (gL : mg "len" = none) : FnOk P w K mg base CX0 1 f fd ["_law_script", "_law_k"] (spCell1 K) := by
  refine F.ok scCell (fun vs H Q E h => ?_) (fun cdv A outer s H vs Q E hr h => ⟨_, PSs.nox (pss_cons (ps_if (pt_cmpR op_lt (pv 1) (pe_callB call_len (by rfl) gL boot_len (pa_cons (pv 0) pa_nil)) (nomark _)) (pss_one (ps_ret (pe_ix ix_list (pv 0) (pv 1) (fun _ _ => rfl)))) pss_nil) (pss_one (ps_ret pe_int))), ?_⟩)
  · obtain ⟨l, ns, j, rfl, _⟩ := h
    rfl
  · obtain ⟨l, ns, j, rfl, hS, q⟩ := h
    refine ⟨_, rfl, _, rfl, _, _, rfl, .inl ⟨_, hS, rfl⟩, _, _, rfl, rfl, _, rfl, ?_⟩
    refine ite2 (fun hj => ?_) (fun _ => ?_)
    · have hj' : j < ns.length := by
        have z := of_decide_eq_true hj
        rw [List.length_map] at z
        omega
      refine ⟨_, rfl, _, rfl, l, _, _, _, rfl, rfl, hS, atI_nat (by rw [List.getElem?_map, List.getElem?_eq_getElem hj'] <;> rfl), q _⟩
    · exact q 0
theorem ok_pool (F : FnP K "_law_pool" sPool f fd) (gI : mg "int" = none) : FnOk P w K mg base CX0 1 f fd ["_law_grain"] spPool := by
  refine F.ok scPool (fun vs H Q E h => ?_) (fun cdv A outer s H vs Q E hr h => ⟨_, PSs.nox (
    pss_cons (ps_set (i := 1) scPool.nd rfl (.inl rfl) (pe_op op_mul pe_int (pv 0)))
    (pss_cons (ps_if (pt_cmpR op_lt (pv 0) pe_int (nomark _)) (pss_one (ps_set (i := 1) scPool.nd rfl (.inl rfl) (pe_op op_sub (pe_op op_sub pe_int (pe_op op_mul pe_int (pv 0))) pe_int))) pss_nil)
    (pss_cons (ps_if (pt_cmpR op_ge (pv 1) (pe_op op_pow pe_int pe_int) (nomark _)) (pss_one (ps_ret (pe_lst (pa_cons (pv 1) (pa_cons (pe_op op_mod (pe_callTy call_int1 (by rfl) gI (by decide +kernel) (pa_cons (pv 1) pa_nil)) pe_int) (pa_cons pe_int pa_nil)))))) pss_nil)
    (pss_one (ps_ret (pe_lst (pa_cons pe_int (pa_cons (pe_op op_mod (pe_callTy call_int1 (by rfl) gI (by decide +kernel) (pa_cons (pv 1) pa_nil)) pe_int) (pa_cons pe_int pa_nil))))))))), ?_⟩)
  · obtain ⟨g, rfl, _⟩ := h
    rfl
  · obtain ⟨g, rfl, q⟩ := h
    refine ⟨_, rfl, _, _, rfl, rfl, .inl ⟨by decide, by decide⟩, _, rfl, _, _, rfl, rfl, _, rfl, ?_⟩
    have m1 : ∀ z : Int, 0 ≤ z % 1000000007 := fun z => Int.emod_nonneg z (by decide)
    have m2 : ∀ z : Int, z % 1000000007 < 1000000007 := fun z => Int.emod_lt_of_pos z (by decide)
    have lst3 : ∀ a b c : V, ([a, b, c] : List V).length ≤ sizeLine := fun a b c => by show 3 ≤ sizeLine; decide
    refine ite2 (fun hn => ?_) (fun hn => ?_)
    · have hn' := of_decide_eq_true hn
      refine ⟨_, rfl, _, _, rfl, rfl, .inl ⟨by decide, by decide⟩, _, _, rfl, rfl, _, _, rfl, rfl, ?_⟩
      refine ⟨_, rfl, _, _, rfl, rfl, ⟨by decide, by decide, by decide⟩, _, _, rfl, rfl, _, rfl, ?_⟩
      refine ite2 (fun _ => ?_) (fun _ => ?_)
      · refine ⟨_, rfl, _, rfl, .inl ⟨_, rfl, _, _, rfl, rfl, (show (0 : Int) < 1000000007 by decide), lst3 _ _ _, fun p hp => q p _ hp ⟨_, _, ?_, m1 _, m2 _, rfl⟩⟩⟩
        omega
      · refine ⟨_, rfl, .inl ⟨_, rfl, _, _, rfl, rfl, (show (0 : Int) < 1000000007 by decide), lst3 _ _ _, fun p hp => q p _ hp ⟨_, _, by decide, m1 _, m2 _, rfl⟩⟩⟩
    · have hn' : ¬ g < 0 := fun z => hn (decide_eq_true z)
      refine ⟨_, rfl, _, _, rfl, rfl, ⟨by decide, by decide, by decide⟩, _, _, rfl, rfl, _, rfl, ?_⟩
      refine ite2 (fun _ => ?_) (fun _ => ?_)
      · refine ⟨_, rfl, _, rfl, .inl ⟨_, rfl, _, _, rfl, rfl, (show (0 : Int) < 1000000007 by decide), lst3 _ _ _, fun p hp => q p _ hp ⟨_, _, ?_, m1 _, m2 _, rfl⟩⟩⟩
        omega
      · refine ⟨_, rfl, .inl ⟨_, rfl, _, _, rfl, rfl, (show (0 : Int) < 1000000007 by decide), lst3 _ _ _, fun p hp => q p _ hp ⟨_, _, by decide, m1 _, m2 _, rfl⟩⟩⟩
theorem ok_take (F : FnP K "_law_take" sTake f fd) (gI : mg "int" = none) : FnOk P w K mg base CX0 1 f fd ["_law_pool_here", "_law_many"] spTake := by
  refine F.ok scTake (fun vs H Q E h => ?_) (fun cdv A outer s H vs Q E hr h => ⟨_, PSs.nox (
    pss_cons (ps_if (pt_cmpR op_gt (pe_ix ix_list (pv 0) pe_int (fun _ _ => rfl)) pe_int (nomark _))
      (pss_cons (ps_set (i := 2) scTake.nd rfl (.inl rfl) (pe_op op_mod (pe_callTy call_int1 (by rfl) gI (by decide +kernel) (pa_cons (pe_ix ix_list (pv 0) pe_int (fun _ _ => rfl)) pa_nil)) (pv 1)))
      (pss_cons (ps_asg (pe_op op_fdiv (pe_ix ix_list (pv 0) pe_int (fun _ _ => rfl)) (pv 1)) (pg_sub (pv 0) pe_int set_list))
      (pss_one (ps_ret (pv 2))))) pss_nil)
    (pss_cons (ps_asg (pe_op op_add (pe_ix ix_list (pv 0) pe_int (fun _ _ => rfl)) pe_int) (pg_sub (pv 0) pe_int set_list))
    (pss_cons (ps_set (i := 3) scTake.nd rfl (.inl rfl) (pe_op op_mod (pe_callTy call_int1 (by rfl) gI (by decide +kernel) (pa_cons (pe_op op_pow (pe_op op_add (pe_op op_add (pe_ix ix_list (pv 0) pe_int (fun _ _ => rfl)) (pe_op op_mul pe_int (pe_ix ix_list (pv 0) pe_int (fun _ _ => rfl)))) pe_int) pe_int) pa_nil)) pe_int))
    (pss_one (ps_ret (pe_op op_mod (pe_op op_mod (pe_callTy call_int1 (by rfl) gI (by decide +kernel) (pa_cons (pe_op op_mul (pe_op op_add (pv 3) (pe_ix ix_list (pv 0) pe_int (fun _ _ => rfl))) pe_int) pa_nil)) pe_int) (pv 1))))))), ?_⟩)
  · obtain ⟨p, many, n, rfl, _⟩ := h
    rfl
  · obtain ⟨p, many, n, rfl, hm0, hm1, ⟨g, m, c, hp, hg, hm, hm', hc, hcn⟩, hn, q⟩ := h
    have SL : ∀ {H : Hp} {xs : List V}, H p = some (.lst xs) → SqL K H p xs := fun h => SqL.of h
    refine ⟨_, rfl, p, _, 0, .int g, rfl, rfl, SL hp, rfl, _, _, rfl, rfl, _, rfl, ?_⟩
    refine ite2 (fun hg0 => ?_) (fun _ => ?_)
    · refine ⟨_, rfl, p, _, 0, .int g, rfl, rfl, SL hp, rfl, .inl ⟨_, rfl, _, rfl, _, _, rfl, rfl, hm0, ?_⟩⟩
      refine ⟨_, rfl, p, _, 0, .int g, rfl, rfl, SL hp, rfl, _, rfl, _, _, rfl, rfl, ⟨hm0, hm1⟩, _, rfl, p, _, 0, 0, rfl, rfl, hp, rfl, ?_⟩
      refine ⟨_, rfl, q _ _ (Int.emod_nonneg _ (by omega)) (Int.emod_lt_of_pos _ hm0) ⟨g / many, m, c, upd_same, Int.ediv_nonneg hg (by omega), hm, hm', hc, by omega⟩⟩
    · refine ⟨_, rfl, p, _, 2, .int c, rfl, rfl, SL hp, rfl, _, _, rfl, rfl, _, rfl, p, _, 2, 2, rfl, rfl, hp, rfl, ?_⟩
      have h2 : upd H p (.lst (List.set [V.int g, V.int m, V.int c] 2 (V.int (c + 1)))) p = some (.lst [.int g, .int m, .int (c + 1)]) := upd_same
      refine ⟨_, rfl, p, _, 1, .int m, rfl, rfl, SL h2, rfl, _, rfl, p, _, 2, .int (c + 1), rfl, rfl, SL h2, rfl, _, _, rfl, rfl, .inl ⟨by decide, by decide⟩, _, _, rfl, rfl, _, _, rfl, rfl, _, _, rfl, rfl, ⟨by decide, by decide, ?_⟩, .inl ⟨_, rfl, _, _, rfl, rfl, (show (0 : Int) < 2147483647 by decide), ?_⟩⟩
      · omega
      refine ⟨_, rfl, _, rfl, p, _, 2, .int (c + 1), rfl, rfl, SL h2, rfl, _, _, rfl, rfl, _, _, rfl, rfl, .inr ⟨by decide, by decide⟩, .inl ⟨_, rfl, _, _, rfl, rfl, (show (0 : Int) < 2147483629 by decide), _, rfl, _, _, rfl, rfl, hm0, ?_⟩⟩
      exact q _ _ (Int.emod_nonneg _ (by omega)) (Int.emod_lt_of_pos _ hm0) ⟨g, m, c + 1, upd_same, hg, hm, hm', by omega, by omega⟩
end
end My

namespace PySem
namespace MyX
open PySem.HandSPX Builtin Builtin.ObjectAttr
section
variable {M : Model} {A : Around} {E : Value → Shared → Prop} {h : Heap} {g : Array GenState} {d : Drawn} {t : Nat} {os : OsState}
variable {nm q : Str} {C N : Addr} {bs bm mb : List Value} {hdct : Bool} {sn : List Str} {sub : List Value} {ab : Bool} {col : Option Bool} {dd : Option Addr} {k0 k1 k2 k3 k5 : Option Value} {B idN idI : String}
theorem chk_new (F : ExcBaseFacts B idN idI mb) (hT : ∀ X : String, bm.contains (.type X) = mb.contains (.type X)) {rs : List Value} {kw : List (Str × Value)} {Q : Unit → Shared → Prop}
    (hC : h.get? C = some (excClassObj nm q C N bs bm hdct sn sub ab col dd k0 k1 k2 k3 k5 idN)) (hq : Q () ⟨h, g, d, t, os⟩) :
    wpAny M A (checkBuiltinCall idN ⟨.ref C :: rs, kw⟩) Q E ⟨h, g, d, t, os⟩ := by
  have c1 : (Value.ref C :: bm).contains (.type B) = true := by
    rw [List.contains_cons, hT, F.hasB, Bool.or_true]
  have c2 := F.noStar
  simp only [checkBuiltinCall, F.newKind, F.newSplit, F.newRow]
  repeat (first | refine wpAny_loadPart_at hC ?_ | (refine wpAny_isSubtype_exc hC ?_; rw [c1]) | refine wpAny_staticBase_exc hC ?_ | refine wpAny_madeBy_exc hC ?_ | simp only [bne_self_eq_false, Bool.false_eq_true, if_false] | wp_step)
  exact hq
end
section
variable {prog : Program} {w : World} {A : Around} {E : Value → Shared → Prop} {R : Result → Shared → Prop} {h : Heap} {g : Array GenState} {d : Drawn} {t : Nat} {os : OsState}
variable {nm q : Str} {C N : Addr} {bs bm mb : List Value} {hdct : Bool} {sn : List Str} {sub : List Value} {ab : Bool} {col : Option Bool} {dd : Option Addr} {k0 k1 k2 k3 k5 : Option Value} {B idN idI : String}
theorem new_kw (F : ExcBaseFacts B idN idI mb) (hT : ∀ X : String, bm.contains (.type X) = mb.contains (.type X)) {rs : List Value} {kw : List (Str × Value)}
    (hC : h.get? C = some (excClassObj nm q C N bs bm hdct sn sub ab col dd k0 k1 k2 k3 k5 idN))
    (hq : R (.ok (.ret (.ref (h.objs.size + 1)))) ⟨(h.push (W.kdv_tup rs)).push (excO C h.objs.size), g, d, t, os⟩) (hrs : rs.length ≤ sizeLine) :
    codeAny (model prog w) A (.builtin idN ⟨.ref C :: rs, kw⟩) R ⟨h, g, d, t, os⟩ := by
  have c0 := F.ends
  have c1 : (Value.ref C :: bm).contains (.type B) = true := by
    rw [List.contains_cons, hT, F.hasB, Bool.or_true]
  have c2 : (Value.ref C :: bm).contains (.type "AttributeError") = false := by
    rw [List.contains_cons, hT, F.noAttr]; rfl
  have c3 : (Value.ref C :: bm).contains (.type "NameError") = false := by
    rw [List.contains_cons, hT, F.noName]; rfl
  refine codeAny_builtinAt F.entry ?_
  unfold Builtin.«BaseException.__new__»
  refine wpAt_bind ?_
  show wpAt _ _ _ (stack >>= _) _ _ _
  refine wpAt_bind (wpAt_stack fun p below => wpAt_of_wpAny ?_)
  wp_walk
  refine wpAt_of_wpAny ?_
  rw [F.owner]
  repeat (first | with_reducible refine wpAny_madeHere_exc F.canon hC ?_ | with_reducible refine wpAny_loadPart_at hC ?_ | (with_reducible refine wpAny_isSubtype_exc hC ?_; first | rw [c1] | rw [c2] | rw [c3]) | wp_step)
  show R _ _
  rw [Heap.size_push]
  exact hq
theorem tcall_kw (F : ExcBaseFacts B idN idI mb) (hT : ∀ X : String, bm.contains (.type X) = mb.contains (.type X)) {rs : List Value} {kw : List (Str × Value)} {fI : Addr} {Q : Fin → Shared → Prop}
    (hC : h.get? C = some (excClassObj nm q C N bs bm hdct sn sub ab col dd k0 k1 k2 k3 k5 idN))
    (hi : W.Looks (model prog w) h (typeLookup (.ref C) "__init__") (some (.ref fI))) (hb : ∀ self, W.Looks (model prog w) h (bindSpecial (.ref fI) self) (.ref fI, [self])) (hrs : rs.length ≤ sizeLine)
    (hq : codeAny (model prog w) A (.call (.ref fI) ⟨.ref (h.objs.size + 1) :: rs, kw⟩)
      (fun r s' => match r with | .ok (.ret v) => v = .none ∧ Q (.done (.ret (.ref (h.objs.size + 1)))) s' | .ok _ => False | .error e => E e s')
      ⟨(h.push (W.kdv_tup rs)).push (excO C h.objs.size), g, d, t, os⟩) :
    wpAny (model prog w) A (Builtin.«type.__call__» ⟨.ref C :: rs, kw⟩) Q E ⟨h, g, d, t, os⟩ := by
  repeat (first | with_reducible refine wpAny_loadPart_at hC ?_ | with_reducible refine wpAny_madeBy_exc hC ?_ | wp_step)
  refine codeAny_call_builtin_code (Code.quiet_builtin _ F.quiet) (chk_new F hT hC ?_)
  refine new_kw F hT hC ?_ hrs
  show wpAny _ _ _ _ _ _
  have k : ∀ b o, h.get? b = some o → ((h.push (W.kdv_tup rs)).push (excO C h.objs.size)).get? b = some o := fun b o e => Heap.get?_push_of_some _ (Heap.get?_push_of_some _ e)
  have hC1 := k _ _ hC
  have hget : ((h.push (W.kdv_tup rs)).push (excO C h.objs.size)).get? (h.objs.size + 1) = some (excO C h.objs.size) := by heap_get
  have hcC : (Value.ref C :: bm).contains (.ref C) = true := by simp
  have i1 := hi.keeps k
  have b1 := (hb (.ref (h.objs.size + 1))).keeps k
  unfold isInstance
  repeat (first | with_reducible refine wpAny_loadPart_at hget ?_ | (with_reducible refine wpAny_isSubtype_exc hC1 ?_; rw [hcC]) | wp_step)
  show wpAny _ _ (typeLookup (.ref C) _) _ _ _
  refine i1.at ?_
  refine wpAny_holding (wpAny_bind (b1.at ?_))
  refine wpAny_bind (wpAny_call (codeAny_mono hq fun r s' z => ?_))
  rcases r with e | (v | _ | _ | _) <;> first | exact z | exact z.elim | skip
  obtain ⟨rfl, z⟩ := z
  first
    | exact wpAny_pure (wpAny_pure z)
    | (wp_walk; exact z)
theorem call_kw (F : ExcBaseFacts B idN idI mb) (hT : ∀ X : String, bm.contains (.type X) = mb.contains (.type X)) {rs : List Value} {kw : List (Str × Value)} {fI : Addr}
    (hC : h.get? C = some (excClassObj nm q C N bs bm hdct sn sub ab col dd k0 k1 k2 k3 k5 idN))
    (hi : W.Looks (model prog w) h (typeLookup (.ref C) "__init__") (some (.ref fI))) (hb : ∀ self, W.Looks (model prog w) h (bindSpecial (.ref fI) self) (.ref fI, [self])) (hrs : rs.length ≤ sizeLine)
    (hq : codeAny (model prog w) (A.under (.builtin "type.__call__" ⟨.ref C :: rs, kw⟩)) (.call (.ref fI) ⟨.ref (h.objs.size + 1) :: rs, kw⟩) (W.InitBack (h.objs.size + 1) R)
      ⟨(h.push (W.kdv_tup rs)).push (excO C h.objs.size), g, d, t, os⟩) :
    codeAny (model prog w) A (.call (.ref C) ⟨rs, kw⟩) R ⟨h, g, d, t, os⟩ := by
  have f1 := tc_lookup
  have f2 := tc_bind (.ref C)
  have hTy : (⟨h, g, d, t, os⟩ : Shared).TypeIs (.ref C) "type" := ⟨_, hC, rfl⟩
  refine codeAny_of_tree ?_
  show wpAny _ _ (callAny (.ref C) _) _ _ _
  repeat (any_goals (first | assumption | with_reducible refine wpAny_loadPart_at hC ?_ | wp_step))
  refine ⟨rfl, ?_⟩
  refine codeAny_call_builtin_at (Code.quiet_builtin _ (by decide +kernel)) entry_typeCall (wpAny_check_type_call_sub hC (tcall_kw F hT hC hi hb hrs ?_))
  refine codeAny_mono hq fun r s' z => ?_
  rcases r with e | (v | _ | _ | _) <;> exact z
end
end MyX
end PySem

namespace My
open PySem PySem.Spec PyProof.Rows L2
/-! ### own exceptions as values -/
/-- what isinstance asks of the class of an exception -/
structure KitC (K : PySem.W.Frag) (C : Addr) : Prop where
  cl : (PySem.W.clsIn K C).isSome = true
  at_ : PySem.W.findIn K (.ref C) "__class__" = some (some (.builtin "object.__class__"))
  sp : PySem.W.specialIn K (.builtin "object.__class__") "__get__" = some (some (.builtin "getset_descriptor.__get__"))
  tk : PySem.W.takesIn K (.builtin "object.__class__") = some true
  ob : PySem.W.mroIn K C (.type "object") = some true
/-- an exception of the class at C stands at a: its one field f holds v -/
def ErrAt (H : Hp) (a C : Addr) (f : Str) (v : V) : Prop := ∃ d, H a = some (exo a C (some d)) ∧ H d = some (exd d [(f, v)])
theorem ErrAt.ext {H H' : Hp} {a C : Addr} {f : Str} {v : V} (e : ErrAt H a C f v) (x : Ext H H') : ErrAt H' a C f v := by
  obtain ⟨d, h1, h2⟩ := e
  exact ⟨d, x _ _ h1, x _ _ h2⟩
section
variable {X : Cx} {CX : CXT} {k : Nat} {C fI : Addr} {fd : FuncData} {ps : List Str} {sp : Sp}
theorem run_err {pins : List (Addr × Obj)} {σ : L2.St} {H : Hp} {s : Shared} {Q : VK} {us uz : List Value} {kw : List (Str × Value)} {vs : List V} (T : OexC X.K C) (iC : PySem.W.findIn X.K (.ref C) "__init__" = some (some (.ref fI)))
    (tI : PySem.W.typeIn X.K (.ref fI) = some (.type "function")) (Fn : FnOk X.prog X.w X.K X.mg X.base CX k fI fd ps sp) (hr : Room (k + 1) X.A) (hx : Passes CX X E0)
    (hb : ∀ (s : Shared) (a : Addr), X.K.In s.heap → BindsTo s fd ⟨.ref a :: us, kw⟩ (ps.zip (.ref a :: uz))) (hl : us.length ≤ 1000) (I : Inv X pins σ H s) (r : Vals vs uz)
    (h : ∀ a, H a = none → sp (.ref a :: vs) (upd H a (exo a C none)) (fun v H2 => v = .non ∧ Q (.ref a) H2) E0) :
    wpAny (model X.prog X.w) X.A (call (.ref C) us kw) (EP X pins σ Q) X.xe s := by
  obtain ⟨nm, q, N, bs, bm, sn, sub, ab, col, dd, k0, k1, k2, k3, k5, hC, hbm⟩ := T.cls
  obtain ⟨hp, g, dr, tk, os⟩ := s
  have hz : hp.objs.size ≤ hp.objs.size + 1 := Nat.le_succ _
  have hn : H (hp.objs.size + 1) = none := I.hok.fresh hz
  have hq := h (hp.objs.size + 1) hn
  have kk : ∀ b o, hp.get? b = some o → ((hp.push (PySem.W.kdv_tup us)).push (PySem.HandSPX.excO C hp.objs.size)).get? b = some o := fun b o e =>
    Heap.get?_push_of_some _ (Heap.get?_push_of_some _ e)
  have hg : ((hp.push (PySem.W.kdv_tup us)).push (PySem.HandSPX.excO C hp.objs.size)).get? (hp.objs.size + 1) = some (PySem.HandSPX.excO C hp.objs.size) := by
    heap_get
  have I2 : Inv X pins σ (upd H (hp.objs.size + 1) (exo (hp.objs.size + 1) C none)) ⟨(hp.push (PySem.W.kdv_tup us)).push (PySem.HandSPX.excO C hp.objs.size), g, dr, tk, os⟩ :=
    I.laid (t' := tk) (a := hp.objs.size + 1) (o := exo (hp.objs.size + 1) C none) (h' := (hp.push (PySem.W.kdv_tup us)).push (PySem.HandSPX.excO C hp.objs.size)) kk hz (exo_ok hg)
  have r2 : Vals (V.ref (hp.objs.size + 1) :: vs) (Value.ref (hp.objs.size + 1) :: uz) := .cons rfl r
  have hus : us.length ≤ sizeLine := by
    rw [sizeLine_eq]
    omega
  refine wpAny_call (PySem.MyX.call_kw PySem.F.excBase_ValueError (fun Y => PySem.HandSPX.refsVE_contains Y bm hbm) (I.kIn _ _ hC) (PySem.W.looks_findIn I.kIn iC) (fun self => PySem.W.bind_fn I.kIn self tI) hus
    (codeAny_mono (Fn.run _ X.stack _ _ ⟨Value.ref (hp.objs.size + 1) :: us, kw⟩ (Value.ref (hp.objs.size + 1) :: uz) _ _ E0 (hr.make C us kw) (I2.env0.make C us kw) (hb _ _ I2.kIn) r2 hq) fun r s' hq' => ?_))
  cases r with
  | error er => exact hx pins σ _ _ er s' I2 hq'
  | ok fl =>
    cases fl with
    | ret u =>
      obtain ⟨v, H', I3, rv, ev, q3⟩ := I2.after hq'
      subst ev
      exact ⟨rv, ⟨V.ref (hp.objs.size + 1), H', I3, rfl, q3⟩⟩
    | next => exact False.elim hq'
    | brk => exact False.elim hq'
    | cont => exact False.elim hq'
/-- C(e, ..) as a value -/
def tErr (C : Addr) (sp : Sp) (ta : TA) : TE := fun σ H Q => ta σ H fun vs H1 => vs.length ≤ 1000 ∧ ∀ a, H1 a = none → sp (.ref a :: vs) (upd H1 a (exo a C none)) (fun v H2 => v = .non ∧ Q (.ref a) H2) E0
theorem pe_err {x : Str} {e : Expr} {es : List Expr} {ta : TA} {p pos : Pos} (T : OexC X.K C) (iC : PySem.W.findIn X.K (.ref C) "__init__" = some (some (.ref fI)))
    (tI : PySem.W.typeIn X.K (.ref fI) = some (.type "function")) (Fn : FnOk X.prog X.w X.K X.mg X.base CX k fI fd ps sp) (hr : Room (k + 1) X.A) (hx : Passes CX X E0) (hb : Binds X.K fd ps [])
    (hg : Gl X x) (hm : X.mg x = some (.ref C)) (ha : PA X (e :: es) ta)
    (hdb : (x == ("__debug__" : Str)) = false := by decide) (he : starEach (e :: es) X.env = (false, eval e X.env) :: starEach es X.env := by rfl) (hpl : (backTo pos (starEach es X.env)).any (·.1) = false := by rfl) :
    PE X (.Call (.Name x p) (e :: es) [] pos) (tErr C sp ta) := by
  refine ⟨fun pins s σ H Q I h => ?_⟩
  refine wpAny_Call_Name_kw (ld_glob I hg hm ?_ hdb)
  refine PySem.W.callWith_K (h₀ := X.base) I.ok.mod.kin T.kC (thn (ha.run pos pins s σ H _ I h) fun us s1 ⟨vs, H1, I1, r1, hz, q1⟩ => ⟨I1.kIn, ?_⟩) he hpl
  have l0 : us.length ≤ 1000 := by
    rw [← Paired.length r1]
    exact hz
  have l1 : vs.length + 1 = ps.length := Fn.len _ _ _ _ (q1 (s1.heap.objs.size + 1) (I1.hok.fresh (Nat.le_succ _)))
  refine run_err T iC tI Fn hr hx (fun s a KX => ?_) l0 I1 r1 q1
  have z := hb s (Value.ref a :: us) KX (by rw [List.append_nil, List.length_cons, ← Paired.length r1]; exact l1)
  rw [List.append_nil] at z
  exact z
/-- C(f = e) as a value -/
theorem pe_errK {x kn : Str} {kws : List Keyword} {tk : TA} {p pos : Pos} (T : OexC X.K C) (iC : PySem.W.findIn X.K (.ref C) "__init__" = some (some (.ref fI)))
    (tI : PySem.W.typeIn X.K (.ref fI) = some (.type "function")) (Fn : FnOk X.prog X.w X.K X.mg X.base CX k fI fd ps sp) (hr : Room (k + 1) X.A) (hx : Passes CX X E0)
    (hb : ∀ (s : Shared) (u v : Value), X.K.In s.heap → BindsTo s fd ⟨[u], [(kn, v)]⟩ (ps.zip [u, v])) (hg : Gl X x) (hm : X.mg x = some (.ref C)) (hkw : PK X kws tk)
    (hall : (backToKw pos (keywordEach kws X.env)).all (·.1.isSome) = true := by rfl) (hks : (backToKw pos (keywordEach kws X.env)).filterMap (·.1) = [kn] := by rfl) (hdb : (x == ("__debug__" : Str)) = false := by decide)
    (hpl : ((backTo pos (starEach [] X.env)).any (·.1) || (backToKw pos (keywordEach kws X.env)).any (·.1.isNone)) = false := by rfl) :
    PE X (.Call (.Name x p) [] kws pos) (fun σ H Q => tk σ H fun vs H1 => ∃ v, vs = [v] ∧ tErr C sp (fun _ H Q => Q [v] H) σ H1 Q) := by
  refine ⟨fun pins s σ H Q I h => ?_⟩
  refine wpAny_Call_Name_kw (ld_glob I hg hm ?_ hdb)
  refine PySem.W.callWith_KW0 (h₀ := X.base) I.ok.mod.kin T.kC hall ?_ hpl
  refine thn (hkw.run pos pins s σ H _ I h) fun ws s2 ⟨zs, H2, I2, rz, v, ez, l2, q2⟩ => ⟨I2.kIn, ?_⟩
  rw [hks]
  subst ez
  cases rz with
  | cons rv rn =>
    cases rn
    exact run_err (us := []) T iC tI Fn hr hx (fun s a KX => hb s (.ref a) _ KX) (by decide) I2 (.cons rv .nil) q2
/-- e.f of such a value -/
def tErF (K : PySem.W.Frag) (f : Str) (te : TE) : TE := fun σ H Q => te σ H fun x H1 => ∃ a C v, x = .ref a ∧ ErrAt H1 a C f v ∧ XfC K C ∧ PySem.W.findIn K (.ref C) f = some none ∧ Q v H1
theorem pe_erF {e : Expr} {te : TE} {n : Str} {pos : Pos} (he : PE X e te) (hb : attributeBase e n X.env (eval e X.env) = eval e X.env := by rfl) : PE X (.Attribute e n pos) (tErF X.K n te) := by
  refine ⟨fun pins s σ H Q I h => ?_⟩
  refine attr_of hb (thn (he.run pins s σ H _ I h) fun u s1 hh => ?_)
  obtain ⟨x, H1, I1, rx, a, C, v, ex, ⟨d, ha, hd⟩, T, hno, q⟩ := hh
  subst ex
  obtain rfl : u = Value.ref a := rx
  obtain ⟨t1, ho⟩ := exo_at I1.hok ha
  obtain ⟨mA, hns, hr⟩ := exd_at I1.hok hd
  obtain ⟨od, hod, hl⟩ := lookIn_ns hns
  have l : List.lookup n [(n, v)] = some v := by
    simp [List.lookup]
  obtain ⟨u, hu, ru⟩ := RelO.some_of (v := v) (o := mA n) (by rw [← l]; exact hr n)
  have J : PySem.W.InstAt s1.heap a { cls := .ref C, dict := some d, data := .fields #[.ref t1, .none, .none, .none, .bool false, .none] } C (some od) := ⟨ho, rfl, rfl, hod⟩
  exact HandSPX.exc_get I1.kIn J T.ga T.gg T.exC (PySem.W.findObj_own T.hdC hno rfl (by rw [hl, hu])) (handed_of ru) ⟨v, H1, I1.tok _, ru, q⟩
/-- isinstance(e, D) of such a value, or of one without fields -/
def rIsX (K : PySem.W.Frag) : List V → Hp → VK → Prop := fun xs H Q => ∃ (a C : Addr) (c : V) (u : Value) (b : Bool), xs = [.ref a, c] ∧ ClsV c u ∧ ((∃ f v, ErrAt H a C f v) ∨ H a = some (ExO (.ref C) a)) ∧ XfC K C ∧ KitC K C ∧
  PySem.W.kitOne K (.ref C) u = some b ∧ Q (.bl b) H
theorem call_isX : CallR X (.builtin "isinstance") (rIsX X.K) := by
  intro pins s σ H xs us Q I r h
  obtain ⟨a, C, c, u, b, rfl, kc, ha, T, Z, e, q⟩ := h
  obtain ⟨u1, u2, rfl, r1, r2⟩ := vals2 r
  obtain rfl : u1 = Value.ref a := r1
  have e2 := kc.eq r2
  subst e2
  rcases ha with ⟨f, v, d, ha, hd⟩ | ha
  · obtain ⟨t1, ho⟩ := exo_at I.hok ha
    obtain ⟨mA, hns, hr⟩ := exd_at I.hok hd
    obtain ⟨od, hod, hl⟩ := lookIn_ns hns
    have J : PySem.W.InstAt s.heap a { cls := .ref C, dict := some d, data := .fields #[.ref t1, .none, .none, .none, .bool false, .none] } C (some od) := ⟨ho, rfl, rfl, hod⟩
    exact PySem.W.kia_one (PySem.W.kitx_exc Z.cl T.ga T.gg T.exC Z.at_ Z.sp Z.tk Z.ob) I.kIn J e (fun z => nomatch z) fun tk => ⟨.bl b, H, I.tok tk, rfl, q⟩
  · obtain ⟨⟨oe, vs, ho, hz, hdt, _⟩, _, _⟩ := I.hok a _ ha
    have J : PySem.W.InstAt s.heap a oe C none := ⟨ho, hz.1, by unfold PySem.W.notCls; rw [hdt] <;> rfl, by rw [hz.2]; exact True.intro⟩
    exact PySem.W.kia_one (PySem.W.kitx_exc Z.cl T.ga T.gg T.exC Z.at_ Z.sp Z.tk Z.ob) I.kIn J e (fun z => nomatch z) fun tk => ⟨.bl b, H, I.tok tk, rfl, q⟩
/-- C(), a class without fields -/
theorem pe_exc0 {bmB : List Value} {B newId initId : String} {x : Str} {p pos : Pos} (F : ExcBaseFacts B newId initId bmB) (q : PySem.W.excIn X.K C bmB newId = true) (gC : X.mg x = some (.ref C)) (kC : PySem.W.keepIn X.K (.ref C) = true) (hg : Gl X x)
    (hdb : (x == ("__debug__" : Str)) = false := by decide) :
    PE X (.Call (.Name x p) [] [] pos) (fun _ H Q => ∀ a, H a = none → Q (.ref a) (upd H a (ExO (.ref C) a))) := by
  refine ⟨fun pins s σ H Q I h => ?_⟩
  refine wpAny_Call_Name_kw (ld_glob I hg gC ?_ hdb)
  refine PySem.W.callWith_K0 I.kIn kC ?_
  obtain ⟨bm, N, nm, qn, bs, hdct, sn, sub, ab, col, dd, k0, k1, k2, k3, k5, mN, hC, hN, hni, T⟩ := exc_obj I.kIn q
  refine wpAny_call_exc_subT F T hC hN hni (fun h' a hm => ?_) (Nat.zero_le _)
  have hn : H a = none := I.hok.gone hm.new
  obtain ⟨t, ht, _, _⟩ := hm.there
  exact ⟨.ref a, upd H a (ExO (.ref C) a), I.laidN hm.keeps hm.new hn (exO_ok ht ⟨rfl, rfl⟩ rfl rfl rfl (show 4 < 6 by decide)), rfl, h a hn⟩
end
end My

namespace My
open PySem PySem.Spec PyProof.Rows L2
/-! ### a class of errors with one field -/
/-- what the written part says of the class at C, called x, with the field f; its __init__ stands at fI -/
structure ErrC (K : PySem.W.Frag) (mg : Str → Option Value) (x f : Str) (C fI : Addr) : Prop where
  gl : mg x = some (.ref C)
  oex : OexC K C
  xf : XfC K C
  kit : KitC K C
  iC : PySem.W.findIn K (.ref C) "__init__" = some (some (.ref fI))
  tI : PySem.W.typeIn K (.ref fI) = some (.type "function")
  no : PySem.W.findIn K (.ref C) f = some none
/-- __init__ of an error: the field is stored -/
def spInit (C : Addr) (f : Str) : Sp := fun vs H Q _ => ∃ (a : Addr) (v : V), vs = [.ref a, v] ∧ H a = some (exo a C none) ∧
  ∀ dx, H dx = none → dx ≠ a → Q .non (upd (upd H dx (exd dx [(f, v)])) a (exo a C (some dx)))
section
variable {P : Program} {w : World} {K : PySem.W.Frag} {mg : Str → Option Value} {base : Heap} {C fI : Addr} {fd : FuncData} {x f : Str}
theorem ok_init {st : Stmt} {qual : Str} (T : ErrC K mg x f C fI) (F : FunD K "__init__" qual (defArgs st) (defBody st) (defScope st) [] [] fI fd) (S : FnScope ["self", f] ["self", f] (defScope st))
    (hb : ∃ q1 q2 q3 q4, defBody st = [.Assign [.Attribute (.Name "self" q1) f q2] (.Name f q3) q4]) (d1 : (f == ("__debug__" : Str)) = false) (d2 : (f == ("__classdict__" : Str)) = false) :
    FnOk P w K mg base CX0 1 fI fd ["self", f] (spInit C f) := by
  obtain ⟨q1, q2, q3, q4, hb⟩ := hb
  refine F.ok S (fun vs H Q E h => ?_) (fun cdv A outer s H vs Q E hr h => ⟨_, PSs.nox (by
    rw [hb]
    exact pss_one (ps_ost (pe_var (i := 0) rfl (vis_par S List.mem_cons_self)) (pe_var (i := 1) rfl (vis_par S (List.mem_cons_of_mem _ List.mem_cons_self)) d1 d2))), ?_⟩)
  · obtain ⟨a, v, rfl, _⟩ := h
    rfl
  · obtain ⟨a, v, rfl, ha, q⟩ := h
    exact ⟨_, rfl, _, rfl, a, C, rfl, T.oex, T.no, .inl ⟨ha, fun dx n ne => q dx n ne⟩⟩
/-- all that a caller wants of such a class -/
def Er (P : Program) (w : World) (K : PySem.W.Frag) (mg : Str → Option Value) (base : Heap) (x f : Str) (C : Addr) : Prop := ∃ (fI : Addr) (fd : FuncData), ErrC K mg x f C fI ∧ FnOk P w K mg base CX0 1 fI fd ["self", f] (spInit C f) ∧
  Binds K fd ["self", f] [] ∧ ∀ (s : Shared) (u v : Value), K.In s.heap → BindsTo s fd ⟨[u], [(f, v)]⟩ ((["self", f] : List Str).zip [u, v])
/-- C(e), C(f = e) as values -/
def tEr (C : Addr) (f : Str) (te : TE) : TE := fun σ H Q => te σ H fun v H1 => ∀ a H', H1 a = none → Ext H1 H' → ErrAt H' a C f v → Q (.ref a) H'
theorem tEr_of {C : Addr} {f : Str} {v : V} {H : Hp} {Q : VK} (h : ∀ a H', H a = none → Ext H H' → ErrAt H' a C f v → Q (.ref a) H') {a : Addr} (ha : H a = none) :
    spInit C f [.ref a, v] (upd H a (exo a C none)) (fun z H2 => z = .non ∧ Q (.ref a) H2) E0 := by
  refine ⟨a, v, rfl, upd_same, fun dx n ne => ⟨rfl, ?_⟩⟩
  have hn : H dx = none := by
    rw [upd_ne ne] at n
    exact n
  refine h a _ ha (fun b o e => ?_) ⟨dx, upd_same, ?_⟩
  · rw [upd_ne (ne_of_none e ha), upd_ne (ne_of_none e hn), upd_ne (ne_of_none e ha)]
    exact e
  · rw [upd_ne ne, upd_same]
end
section
variable {X : Cx} {x f : Str} {C : Addr} {e : Expr} {te : TE} {p pos kpos : Pos}
theorem pe_er (E : Er X.prog X.w X.K X.mg X.base x f C) (hr : Room 2 X.A) (he : PE X e te) (hg : Gl X x := by rfl) (hdb : (x == ("__debug__" : Str)) = false := by decide)
    (h1 : starEach [e] X.env = (false, eval e X.env) :: starEach [] X.env := by rfl) (h2 : (backTo pos (starEach [] X.env)).any (·.1) = false := by rfl) :
    PE X (.Call (.Name x p) [e] [] pos) (tEr C f te) := by
  obtain ⟨fI, fd, T, F, b, _⟩ := E
  refine ⟨fun pins s σ H Q I h => ?_⟩
  refine wpAny_Call_Name_kw (ld_glob I hg T.gl ?_ hdb)
  refine PySem.W.callWith_K (h₀ := X.base) I.ok.mod.kin T.oex.kC ?_ h1 h2
  have ha : PA X [e] (tCons te tNil) := pa_cons he pa_nil h1
  refine thn (ha.run pos pins s σ H (fun vs H1 => match vs with | [v] => ∀ a H', H1 a = none → Ext H1 H' → ErrAt H' a C f v → Q (.ref a) H' | _ => False) I h) fun us s1 ⟨vs, H1, I1, r1, q1⟩ => ⟨I1.kIn, ?_⟩
  cases r1 with
  | nil => exact False.elim q1
  | cons rv rn =>
    cases rn with
    | cons _ _ => exact False.elim q1
    | nil =>
      refine run_err T.oex T.iC T.tI F hr pass0 (fun s a KX => b s [Value.ref a, _] KX rfl) (show 1 ≤ 1000 by decide) I1 (.cons rv .nil) fun a ha => tEr_of q1 ha
theorem pe_erK (E : Er X.prog X.w X.K X.mg X.base x f C) (hr : Room 2 X.A) (he : PE X e te) (hg : Gl X x := by rfl) (hdb : (x == ("__debug__" : Str)) = false := by decide)
    (hall : (backToKw pos (keywordEach [⟨some f, e, kpos⟩] X.env)).all (·.1.isSome) = true := by rfl) (hks : (backToKw pos (keywordEach [⟨some f, e, kpos⟩] X.env)).filterMap (·.1) = [f] := by rfl)
    (hpl : ((backTo pos (starEach [] X.env)).any (·.1) || (backToKw pos (keywordEach [⟨some f, e, kpos⟩] X.env)).any (·.1.isNone)) = false := by rfl) :
    PE X (.Call (.Name x p) [] [⟨some f, e, kpos⟩] pos) (tEr C f te) := by
  obtain ⟨fI, fd, T, F, _, b⟩ := E
  refine ⟨fun pins s σ H Q I h => ?_⟩
  refine wpAny_Call_Name_kw (ld_glob I hg T.gl ?_ hdb)
  refine PySem.W.callWith_KW0 (h₀ := X.base) I.ok.mod.kin T.oex.kC hall ?_ hpl
  have ha : PK X [⟨some f, e, kpos⟩] (tCons te tNil) := pk_cons he pk_nil
  refine thn (ha.run pos pins s σ H (fun vs H1 => match vs with | [v] => ∀ a H', H1 a = none → Ext H1 H' → ErrAt H' a C f v → Q (.ref a) H' | _ => False) I h) fun us s1 ⟨vs, H1, I1, r1, q1⟩ => ⟨I1.kIn, ?_⟩
  rw [hks]
  cases r1 with
  | nil => exact False.elim q1
  | cons rv rn =>
    cases rn with
    | cons _ _ => exact False.elim q1
    | nil => exact run_err (us := []) T.oex T.iC T.tI F hr pass0 (fun s a KX => b s _ _ KX) (by decide) I1 (.cons rv .nil) fun a ha => tEr_of q1 ha
end
/-! ### many errors at once -/
def AllErr (H : Hp) (v : V) : List Addr → List (Addr × Str) → Prop
  | [], [] => True
  | a :: as, c :: cs => ErrAt H a c.1 c.2 v ∧ AllErr H v as cs
  | _, _ => False
theorem AllErr.ext {H H' : Hp} {v : V} (x : Ext H H') : ∀ {as : List Addr} {cs : List (Addr × Str)}, AllErr H v as cs → AllErr H' v as cs
  | [], [], _ => True.intro
  | a :: as, c :: cs, h => ⟨h.1.ext x, AllErr.ext x h.2⟩
  | [], _ :: _, h => h.elim
  | _ :: _, [], h => h.elim
theorem AllErr.len {H : Hp} {v : V} : ∀ {as : List Addr} {cs : List (Addr × Str)}, AllErr H v as cs → as.length = cs.length
  | [], [], _ => rfl
  | a :: as, c :: cs, h => by rw [List.length_cons, List.length_cons, AllErr.len h.2]
  | [], _ :: _, h => h.elim
  | _ :: _, [], h => h.elim
theorem AllErr.app {H : Hp} {v : V} : ∀ {as bs : List Addr} {cs ds : List (Addr × Str)}, AllErr H v as cs → AllErr H v bs ds → AllErr H v (as ++ bs) (cs ++ ds)
  | [], _, [], _, _, k => k
  | a :: as, _, c :: cs, _, h, k => ⟨h.1, AllErr.app h.2 k⟩
  | [], _, _ :: _, _, h, _ => h.elim
  | _ :: _, _, [], _, h, _ => h.elim
theorem AllErr.at_ {H : Hp} {v : V} : ∀ {as : List Addr} {cs : List (Addr × Str)} {i : Nat} {c : Addr × Str}, AllErr H v as cs → cs[i]? = some c → ∃ a, as[i]? = some a ∧ ErrAt H a c.1 c.2 v
  | [], [], _, _, _, e => by simp at e
  | a :: as, c :: cs, 0, _, h, e => ⟨a, rfl, by cases e; exact h.1⟩
  | a :: as, c :: cs, i + 1, _, h, e => AllErr.at_ (i := i) h.2 e
  | [], _ :: _, _, _, h, _ => h.elim
  | _ :: _, [], _, _, h, _ => h.elim
def tErL : List (Addr × Str) → TE → TA
  | [], _ => tNil
  | c :: cs, te => tCons (tEr c.1 c.2 te) (tErL cs te)
theorem erL_run {i : Nat} {σ : L2.St} {v : V} (hi : σ[i]? = some (some v)) : ∀ (cs : List (Addr × Str)) (H : Hp) (Q : List V → Hp → Prop), (∀ as H', Ext H H' → AllErr H' v as cs → Q (as.map V.ref) H') → tErL cs (tVar i) σ H Q
  | [], H, Q, h => h [] H Ext.rfl' True.intro
  | c :: cs, H, Q, h => ⟨v, hi, fun a H1 _ x1 e1 => erL_run hi cs H1 _ fun as H2 x2 e2 => h (a :: as) H2 (x1.trans x2) ⟨e1.ext x2, e2⟩⟩
end My

namespace PySem
namespace MyD
open PySem.W Builtin
section
variable {prog : Program} {w : World} {A : Around} {E : Value → Shared → Prop} {s : Shared} {K : Frag} {x C f : Addr} {ox : Obj} {od : Option Obj}
/-- y in x, x an instance with an own __contains__ -/
theorem contains_own {M : Model} {y : Value} {Q : Bool → Shared → Prop} (X : K.In s.heap) (I : InstAt s.heap x ox C od) (hs : findIn K (.ref C) "__contains__" = some (some (.ref f))) (hf : isFn K (.ref f) = true)
    (h : wpAny M A (call (.ref f) [.ref x, y]) (fun r s' => ∃ b, r = .bool b ∧ Q b s') E s) : wpAny M A (contains (.ref x) y) Q E s := by
  have body : wpAny M A (callSpecialUnlessNone? (.ref x) "__contains__" [y] (do rule "in.none"; raiseError "TypeError" s!"'{← typeNameOf (.ref x)}' object is not a container")) (fun r s' => ∃ b, r = some (.bool b) ∧ Q b s') E s := by
    unfold callSpecialUnlessNone?
    refine wpAny_bind (wpAny_bind (I.type.here ((looks_findIn X hs).here ?_)))
    refine wpAny_holding (wpAny_bind ((bind_fn X _ (beq_iff_eq.mp hf)).here ?_))
    refine wpAny_bind (wpAny_mono h (fun r s' hr => ?_) fun _ _ e => e)
    obtain ⟨b, rfl, q⟩ := hr
    exact wpAny_pure ⟨b, rfl, q⟩
  unfold contains
  refine wpAny_holding ?_
  refine wpAny_bind (wpAny_bind (I.type.here ((looks_findIn X hs).here ?_)))
  rw [if_neg (show ¬ (some (Value.ref f) == some Value.none) = true from Bool.false_ne_true)]
  refine wpAny_bind (wpAny_mono body (fun r s' hr => ?_) fun _ _ e => e)
  obtain ⟨b, rfl, q⟩ := hr
  exact wpAny_truthy_bool q
/-- x != b, the class of x with an own __eq__ and object's __ne__ -/
theorem ne_own {b tb : Value} {Q : Value → Shared → Prop} (hu : A.units + 1 < cLine) (X : K.In s.heap) (I : InstAt s.heap x ox C od) (hb : Looks (model prog w) s.heap (typeOf b) tb) (hn : notFirst K C tb = true)
    (hne : findIn K (.ref C) "__ne__" = some (some (.builtin "object.__ne__"))) (hob : mroIn K C (.type "object") = some true) (hs : findIn K (.ref C) "__eq__" = some (some (.ref f))) (hf : isFn K (.ref f) = true)
    (h : wpAny (model prog w) A.in1 (call (.ref f) [.ref x, b]) (fun r s' => ∃ k, r = .bool k ∧ Q (.bool (!k)) s') E s) : wpAny (model prog w) A (richCompare .NotEq (.ref x) b) Q E s := by
  have sub : Looks (model prog w) s.heap (isInstance (.ref x) (.type "object")) true := I.type.andThen (looks_mroIn X hob)
  have go : wpAny (model prog w) A (call (.builtin "object.__ne__") ([.ref x] ++ [b])) (fun v s' => ∃ k, v = .bool (!k) ∧ Q (.bool (!k)) s') E s := by
    show wpAny _ _ (call (.builtin "object.__ne__") [.ref x, b]) _ _ _
    refine wpAny_call (codeAny_call_builtin F.cmp_object.ne.plain F.cmpEntry_ne ?_)
    refine check_slot F.cmpKind_ne F.cmpSplit_ne sub (F.cmpArgs_ne _ _) ?_
    unfold Builtin.«object.__ne__»
    refine wpAny_bind (wpAny_of_eq (a := ((Value.ref x : Value), [b])) (by first | rfl | (simp only [slotArgs]; rfl)) ?_)
    refine wpAny_bind (wpAny_cRoomFor hu ?_)
    refine wpAny_bind (ifBound_K X I hs hf (wpAny_mono h (fun v s' hv => ?_) fun _ _ e => e))
    obtain ⟨k, rfl, q⟩ := hv
    refine wpAny_bind (wpAny_truthy_bool ?_)
    exact wpAny_pure ⟨k, rfl, q⟩
  have bnd : wpAny (model prog w) A (callSpecialIfBound? (.ref x) "__ne__" [b]) (fun r s' => ∃ k, r = some (.bool (!k)) ∧ Q (.bool (!k)) s') E s := by
    simp only [callSpecialIfBound?, bindSpecialIfBound?]
    refine wpAny_holding (wpAny_bind (wpAny_bind (wpAny_bind (I.type.here ((looks_findIn X hne).here ?_)))))
    refine wpAny_bind (wpAny_askSetting (wpAny_ite ?_))
    have fin : wpAny (model prog w) A (call (.builtin "object.__ne__") ([.ref x] ++ [b]) >>= fun v => pure (some v)) (fun r s' => ∃ k, r = some (.bool (!k)) ∧ Q (.bool (!k)) s') E s := by
      refine wpAny_bind (wpAny_mono go (fun v s' hv => ?_) fun _ _ e => e)
      obtain ⟨k, rfl, q⟩ := hv
      exact wpAny_pure ⟨k, rfl, q⟩
    split
    · exact wpAny_bind (wpAny_of_eq (F.cmp_object.ne.bind _) (wpAny_pure (by exact fin)))
    · exact wpAny_tryCatch (wpAny_bind (wpAny_of_eq (F.cmp_object.ne.bind _) (wpAny_pure (by exact fin))))
  have one : wpAny (model prog w) A (tryCompare (.ref x) "__ne__" b) (fun r s' => ∃ v, r = some v ∧ Q v s') E s := by
    unfold tryCompare
    refine wpAny_bind (wpAny_mono bnd (fun r s' hv => ?_) fun _ _ e => e)
    obtain ⟨k, rfl, q⟩ := hv
    exact wpAny_pure ⟨_, rfl, q⟩
  unfold richCompare
  simp only [oneThing_ref]
  refine wpAny_holding (wpAny_bind (wpAny_cRoomFor (by omega) ?_))
  refine wpAny_bind (I.type.here (wpAny_bind (hb.here ?_)))
  split
  · rename_i q
    have e : subIn K tb (.ref C) = some false := by
      rcases Bool.or_eq_true_iff.mp hn with e | e
      · rw [beq_iff_eq.mp e] at q
        simp at q
      · exact beq_iff_eq.mp e
    refine wpAny_bind ((looks_subIn X e).here ?_)
    simp only [Bool.false_eq_true, if_false]
    refine wpAny_bind (wpAny_mono one (fun r s' z => ?_) fun _ _ e => e)
    obtain ⟨v, rfl, hq⟩ := z
    exact wpAny_pure hq
  · refine wpAny_bind (wpAny_pure ?_)
    simp only [Bool.false_eq_true, if_false]
    refine wpAny_bind (wpAny_mono one (fun r s' z => ?_) fun _ _ e => e)
    obtain ⟨v, rfl, hq⟩ := z
    exact wpAny_pure hq
end
end MyD
end PySem

namespace L2
open PySem PySem.Spec PyProof.Rows
/-! ### own operators, run -/
section
variable {X : Cx} {pins : List (Addr × Obj)} {σ : St} {H : Hp} {s : Shared} {CI : CXT} {f : Addr} {fd : FuncData} {ps : List Str} {sp : Sp} {EI : XK} {n : Nat} {A1 : Around}
theorem envSub (I : Inv X pins σ H s) (sb : Sub X n A1) : Env0 X.prog X.w X.K X.mg X.base A1 X.stack s H := by
  have e := I.env0
  exact ⟨by rw [sb.fr]; exact e.frames, e.mod, e.bs, e.bsz, e.funs, e.frf, e.hok, e.bare⟩
theorem rv2 (a : Addr) {y : V} {u : Value} (r : RelV y u) : Vals [V.ref a, y] [Value.ref a, u] := .cons rfl (.cons r .nil)
/-- a known def runs somewhere below the body -/
theorem run_sub {xs : List V} {us : List Value} {Q : VK} {base : Heap} (sb : Sub X n A1) (F : FnOk X.prog X.w X.K X.mg base CI n f fd ps sp) (e0 : Env0 X.prog X.w X.K X.mg base A1 X.stack s H) (hb : Binds X.K fd ps []) (hx : Passes CI X EI)
    (I : Inv X pins σ H s) (rv : Vals xs us) (hsp : sp xs H Q EI) : wpAny (model X.prog X.w) A1 (call (.ref f) us) (EP X pins σ Q) X.xe s := by
  have hl := F.len _ _ _ _ hsp
  have hl' : us.length = ps.length := by rw [← rv.length]; exact hl
  refine wpAny_call (codeAny_mono (F.run A1 X.stack s H ⟨us, []⟩ us xs Q EI sb.room e0 (by
    have := hb s us I.kIn (by simpa using hl')
    simpa using this) rv hsp) fun r s' hq => ?_)
  cases r with
  | error e => exact hx pins σ H s e s' I hq
  | ok fl =>
    cases fl with
    | ret u => exact I.after hq
    | next => exact False.elim hq
    | brk => exact False.elim hq
    | cont => exact False.elim hq
/-- a method under its name -/
structure OwnM (K : PySem.W.Frag) (C : Addr) (m : Str) (f : Addr) : Prop where
  at_ : PySem.W.findIn K (.ref C) m = some (some (.ref f))
  fn : PySem.W.isFn K (.ref f) = true
/-- x in o -/
def rInO (C : Addr) (sp : Sp) (E : XK) : R2 := fun x y H Q => ∃ a dx fs, y = .ref a ∧ H a = some (.ins C dx fs) ∧ sp [.ref a, x] H (fun v H' => ∃ b, v = .bl b ∧ Q (.bl b) H') E
theorem op_inO {C : Addr} (hr : Room n X.A) (M : OwnM X.K C "__contains__" f) (F : FnOk X.prog X.w X.K X.mg X.base CI n f fd ps sp) (hb : Binds X.K fd ps []) (hx : Passes CI X EI) : OpR X (compareOp .In) (rInO C sp EI) := by
  intro pins s σ H x y v u Q I rx ry h
  obtain ⟨a, dx, fs, rfl, ha, hsp⟩ := h
  cases ry
  obtain ⟨mA, J, _⟩ := ins_get I.hok ha
  obtain ⟨od, J, _⟩ := J.look
  show wpAny _ _ (contains (.ref a) v >>= fun z => pure (Value.bool z)) _ _ s
  refine wpAny_bind (wpAny_mono (MyD.contains_own (Q := fun b s' => EP X pins σ Q (.bool b) s') I.kIn J M.at_ M.fn ?_) (fun b s' hb => wpAny_pure hb) fun _ _ z => z)
  refine wpAny_mono (run_sub ⟨hr, rfl⟩ F (envSub I ⟨hr, rfl⟩) hb hx I (rv2 a rx) hsp) (fun w s' hq => ?_) fun _ _ z => z
  obtain ⟨z, H', I', rz, b, rfl, q⟩ := hq
  cases rz
  exact ⟨b, rfl, .bl b, H', I', rfl, q⟩
/-- o == y, o an instance with its own __eq__, y anything whose type is not one below o's class -/
def rEqO (K : PySem.W.Frag) (C : Addr) (sp : Sp) (E : XK) : R2 := fun x y H Q => ∃ a dx fs t, x = .ref a ∧ H a = some (.ins C dx fs) ∧ TyX K H y t ∧ PySem.W.notFirst K C t = true ∧ sp [.ref a, y] H (fun v H' => ∃ b, v = .bl b ∧ Q (.bl b) H') E
theorem op_eqO {C : Addr} (hr : Room n X.A) (M : OwnM X.K C "__eq__" f) (F : FnOk X.prog X.w X.K X.mg X.base CI n f fd ps sp) (hb : Binds X.K fd ps []) (hx : Passes CI X EI) : OpR X (compareOp .Eq) (rEqO X.K C sp EI) := by
  intro pins s σ H x y v u Q I rx ry h
  obtain ⟨a, dx, fs, t, rfl, ha, ty, nf, hsp⟩ := h
  cases rx
  obtain ⟨mA, J, _⟩ := ins_get I.hok ha
  obtain ⟨od, J, _⟩ := J.look
  obtain ⟨m, hF⟩ := I.fr
  obtain ⟨P, Z, p, hx'⟩ := kit_of I ry ty
  show wpAny _ _ (richCompare .Eq (.ref a) u) _ _ _
  refine PySem.W.cmp_K (op := .Eq) (tb := t) hr.units0 hF I.ok.mod.kin J (Z.ty _ _ I.kIn p) nf M.at_ M.fn ?_
  refine wpAny_mono (run_sub ⟨hr, rfl⟩ F (envSub I ⟨hr, rfl⟩) hb hx I (rv2 a ry) hsp) (fun w s' hq => ?_) fun _ _ z => z
  obtain ⟨z, H', I', rz, b, rfl, q⟩ := hq
  cases rz
  exact ⟨.bl b, H', I', rfl, q⟩
/-- o != y -/
def rNeO (K : PySem.W.Frag) (C : Addr) (sp : Sp) (E : XK) : R2 := fun x y H Q => ∃ a dx fs t, x = .ref a ∧ H a = some (.ins C dx fs) ∧ TyX K H y t ∧ PySem.W.notFirst K C t = true ∧ sp [.ref a, y] H (fun v H' => ∃ b, v = .bl b ∧ Q (.bl (!b)) H') E
theorem op_neO {C : Addr} (hr : Room (n + 1) X.A) (M : OwnM X.K C "__eq__" f) (hne : PySem.W.findIn X.K (.ref C) "__ne__" = some (some (.builtin "object.__ne__"))) (hob : PySem.W.mroIn X.K C (.type "object") = some true)
    (F : FnOk X.prog X.w X.K X.mg X.base CI n f fd ps sp) (hb : Binds X.K fd ps []) (hx : Passes CI X EI) : OpR X (compareOp .NotEq) (rNeO X.K C sp EI) := by
  intro pins s σ H x y v u Q I rx ry h
  obtain ⟨a, dx, fs, t, rfl, ha, ty, nf, hsp⟩ := h
  cases rx
  obtain ⟨mA, J, _⟩ := ins_get I.hok ha
  obtain ⟨od, J, _⟩ := J.look
  obtain ⟨P, Z, p, hx'⟩ := kit_of I ry ty
  have sb : Sub X n X.A.in1 := Sub.in1 (⟨hr, rfl⟩ : Sub X (n + 1) X.A)
  show wpAny _ _ (richCompare .NotEq (.ref a) u) _ _ _
  refine MyD.ne_own (by have := hr.un; omega) I.kIn J (Z.ty _ _ I.kIn p) nf hne hob M.at_ M.fn ?_
  refine wpAny_mono (run_sub sb F (envSub I sb) hb hx I (rv2 a ry) hsp) (fun w s' hq => ?_) fun _ _ z => z
  obtain ⟨z, H', I', rz, b, rfl, q⟩ := hq
  cases rz
  exact ⟨b, rfl, .bl (!b), H', I', rfl, q⟩
/-- len(o) -/
def rLenO (C : Addr) (sp : Sp) (E : XK) : List V → Hp → VK → Prop := fun xs H Q => ∃ a dx fs, xs = [.ref a] ∧ H a = some (.ins C dx fs) ∧ sp [.ref a] H (fun v H' => ∃ k : Int, v = .int k ∧ 0 ≤ k ∧ k < 2 ^ 63 ∧ Q (.int k) H') E
theorem call_lenO {C : Addr} (hr : Room (n + 1) X.A) (M : OwnM X.K C "__len__" f) (F : FnOk X.prog X.w X.K X.mg X.base CI n f fd ps sp) (hb : Binds X.K fd ps []) (hx : Passes CI X EI) : CallR X (.builtin "len") (rLenO C sp EI) := by
  intro pins s σ H xs us Q I rv h
  obtain ⟨a, dx, fs, rfl, ha, hsp⟩ := h
  obtain ⟨u, rfl, ru⟩ := rv.one
  cases ru
  obtain ⟨mA, J, _⟩ := ins_get I.hok ha
  obtain ⟨od, J, _⟩ := J.look
  obtain ⟨m, hF⟩ := I.fr
  have sb : Sub X n X.A.in1 := Sub.in1 (⟨hr, rfl⟩ : Sub X (n + 1) X.A)
  refine PySem.W.len_K hF I.ok.mod.kin J M.at_ M.fn ?_
  refine wpAny_mono (run_sub sb F (envSub I sb) hb hx I rv hsp) (fun w s' hq => ?_) fun _ _ z => z
  obtain ⟨z, H', I', rz, k, rfl, k0, k1, q⟩ := hq
  obtain ⟨t, rfl⟩ := rz
  exact ⟨⟨k0, k1⟩, .int k, H', I'.tok _, ⟨_, rfl⟩, q⟩
end
end L2

namespace L2
open PySem PySem.Spec PyProof.Rows
/-! ### a base with room behind it: what is not in it is young -/
def deadO : Obj := ⟨.none, none, .freed, #[]⟩
def padB (h : Heap) (n : Nat) : Heap := ⟨h.objs ++ Array.replicate n deadO, h.life⟩
theorem padB_get (h : Heap) (n : Nat) (b : Addr) : (padB h n).get? b = h.get? b := by
  by_cases k : b < h.objs.size
  · have e : (padB h n).objs[b]? = h.objs[b]? := by show (h.objs ++ Array.replicate n deadO)[b]? = _; rw [Array.getElem?_append_left k]
    unfold Heap.get?
    rw [e]
  · have e : h.get? b = none := by
      unfold Heap.get?
      rw [Array.getElem?_eq_none (Nat.le_of_not_lt k)]
    rw [e]
    unfold Heap.get?
    have e2 : (padB h n).objs[b]? = (Array.replicate n deadO)[b - h.objs.size]? := by
      show (h.objs ++ Array.replicate n deadO)[b]? = _
      rw [Array.getElem?_append_right (Nat.le_of_not_lt k)]
    rw [e2, Array.getElem?_replicate]
    split
    · rename_i q
      split at q
      · cases q; rfl
      · cases q
    · rename_i q
      split at q
      · exact absurd rfl (q _ _ _)
      · rw [if_neg (by assumption)]
theorem padB_size (h : Heap) (n : Nat) : (padB h n).objs.size = h.objs.size + n := by
  show (h.objs ++ Array.replicate n deadO).size = _
  rw [Array.size_append, Array.size_replicate]
theorem padB_keeps (h : Heap) (n : Nat) : ∀ b o, h.get? b = some o → (padB h n).get? b = some o := fun b o e => by rw [padB_get]; exact e
theorem Mod.pad {K : PySem.W.Frag} {mg : Str → Option Value} {base : Heap} (m : Mod K mg base) (n : Nat) : Mod K mg (padB base n) :=
  ⟨fun a o e => padB_keeps _ _ _ _ (m.kin a o e), m.glob.keeps (padB_keeps _ _), m.blt.elim fun mb h => ⟨mb, h.1.keeps (padB_keeps _ _), h.2⟩, m.nolimit.keeps (padB_keeps _ _)⟩
theorem funFrames_pad {h base : Heap} (n : Nat) : ∀ {l : List Env}, h.FunFrames base l → h.FunFrames (padB base n) l
  | [], _ => True.intro
  | _ :: _, ⟨a, ⟨L, o, e1, e2, e3⟩, r⟩ => ⟨a, ⟨L, o, e1, by rw [padB_get]; exact e2, e3⟩, funFrames_pad n r⟩
theorem Env0.pad {P : Program} {w : World} {K : PySem.W.Frag} {mg : Str → Option Value} {base : Heap} {A : Around} {outer : List Env} {s : Shared} {H : Hp} (e : Env0 P w K mg base A outer s H) {n : Nat} (hn : base.objs.size + n ≤ s.heap.objs.size) :
    Env0 P w K mg (padB base n) A outer s H := ⟨e.frames, e.mod.pad n, fun b o q => e.bs b o (by rw [padB_get] at q; exact q), by rw [padB_size]; exact hn, funFrames_pad n e.funs, e.frf, e.hok, e.bare⟩
/-! ### iter(tuple) as a value -/
def itT (l : Addr) (i : Nat) : Obj := { cls := .type "tuple_iterator", data := .fields #[.ref l, .int i 0] }
def ItoT (l it : Addr) : HO := .ext fun h => h.get? it = some (itT l 0)
theorem itoT_ok {P : Program} {w : World} {H : Hp} {h : Heap} {l it : Addr} (e : h.get? it = some (itT l 0)) : ObjOk P w H h it (ItoT l it) := ⟨e, ⟨_, e⟩, fun h1 h2 q k => k _ q⟩
def rIterT (K : PySem.W.Frag) (n : Nat) : List V → Hp → VK → Prop := fun xs H Q => ∃ (l : Addr) (zs : List V), xs = [.ref l] ∧ SqT K H l zs ∧ ∀ it, H it = Option.none → n ≤ it → Q (.ref it) (upd H it (ItoT l it))
section
variable {X : Cx} {pins : List (Addr × Obj)} {σ : St} {H : Hp} {s : Shared}
theorem call_iter_tup {prog : Program} {w : World} {A : Around} {E : Value → Shared → Prop} {l : Addr} {items : Array Value} {Q : Value → Shared → Prop} (hl : s.heap.IsTuple l items) (h : Q (.ref s.heap.objs.size) { s with heap := s.heap.push (itT l 0) }) : wpAny (model prog w) A (call (.builtin "iter") [.ref l]) Q E s := by
  refine Calls.call_function_entry (by decide +kernel) (by decide +kernel) PySem.W.kdk_entry_iter (PySem.W.kdk_args_iter _) ?_
  unfold Builtin.«iter»
  refine wpAny_bind (m := someArgs "iter" 1 2 _) (wpAny_of_eq (a := [Value.ref l]) (by first | rfl | kernel_rfl!) ?_)
  show wpAny _ _ (pyIter (.ref l) >>= _) _ _ _
  refine wpAny_bind (wpAny_pyIter_tuple hl ?_)
  exact wpAny_pure ⟨_, rfl, h⟩
theorem call_iterT : CallR X (.builtin "iter") (rIterT X.K X.base.objs.size) := by
  intro pins s σ H xs us Q I r h
  obtain ⟨l, zs, rfl, hq, q⟩ := h
  obtain ⟨u, rfl, ru⟩ := vals1 r
  cases ru
  obtain ⟨its, rv, pl, hz⟩ := I.tuple hq
  refine call_iter_tup (show s.heap.IsTuple l its.toArray from pl) ?_
  exact ⟨.ref s.heap.objs.size, _, I.laid (t' := s.toks) (fun b u e => Heap.get?_push_of_some _ e) (Nat.le_refl _) (itoT_ok (Heap.get?_push_size _ rfl)), rfl, q _ (I.hok.fresh (Nat.le_refl _)) (Nat.le_trans I.ok.bsz I.sz)⟩
theorem rv1 (a : Addr) : Vals [V.ref a] [Value.ref a] := .cons rfl .nil
/-! ### walked: an instance whose __iter__ gives iter(tuple) -/
/-- what __iter__ promises: N of the instance is a tuple at l -/
def spIter (K : PySem.W.Frag) (C : Addr) (N : Str) (n : Nat) : Sp := fun vs H Q _ => ∃ a dx fs l zs, vs = [.ref a] ∧ H a = some (.ins C dx fs) ∧ fs.lookup N = some (.ref l) ∧ SqT K H l zs ∧ ∀ it, H it = none → n ≤ it → Q (.ref it) (upd H it (ItoT l it))
def iOwn (K : PySem.W.Frag) (C : Addr) (N : Str) (te : TE) : TI := fun σ H R => te σ H fun x H1 => ∃ a dx fs l zs, x = .ref a ∧ H1 a = some (.ins C dx fs) ∧ fs.lookup N = some (.ref l) ∧ SqT K H1 l zs ∧ R (Itt K l) H1
variable {tg e : Expr} {te : TE} {C f : Addr} {fd : FuncData} {N : Str} {ps : List Str} {n : Nat}
theorem pi_own (hr : Room n X.A) (M : OwnM X.K C "__iter__" f) (Fi : ∀ base, FnOk X.prog X.w X.K X.mg base CX0 n f fd ps (spIter X.K C N base.objs.size)) (hb : Binds X.K fd ps []) (he : PE X e te) : PI X tg e (iOwn X.K C N te) := by
  refine ⟨fun pins s σ H R I h => ?_⟩
  refine thn (he.run pins s σ H _ I h) fun v s1 ⟨x, H1, I1, r1, q1⟩ => ?_
  obtain ⟨a, dx, fs, l, zs, rfl, ha, hf, hl, q⟩ := q1
  cases r1
  obtain ⟨mA, J, _⟩ := ins_get I1.hok ha
  obtain ⟨od, J, _⟩ := J.look
  obtain ⟨m, hF⟩ := I1.fr
  have sb : Sub X n X.A := ⟨hr, rfl⟩
  refine PySem.W.owit_iter hF I1.ok.mod.kin J M.at_ M.fn ?_
  have hsz : X.base.objs.size + (X.s_0.heap.objs.size - X.base.objs.size) = X.s_0.heap.objs.size := by have := I1.ok.bsz; omega
  have e0 := (envSub I1 sb).pad (n := X.s_0.heap.objs.size - X.base.objs.size) (by rw [hsz]; exact I1.sz)
  refine wpAny_mono (run_sub (Q := fun v H' => ∃ it, v = .ref it ∧ H1 it = none ∧ X.s_0.heap.objs.size ≤ it ∧ H' = upd H1 it (ItoT l it)) sb (Fi _) e0 hb (EI := fun _ _ _ => False) pass0 I1 (rv1 a) ⟨a, dx, fs, l, zs, rfl, ha, hf, hl, fun it h1 h2 => ⟨it, rfl, h1, by rw [padB_size, hsz] at h2; exact h2, rfl⟩⟩) (fun w s' hq => ?_) fun _ _ z => z
  obtain ⟨z, H', I', rz, it, rfl, hn, hy, rfl⟩ := hq
  cases rz
  have hit : upd H1 it (ItoT l it) it = some (ItoT l it) := upd_same
  have eo : s'.heap.get? it = some (itT l 0) := (I'.hok it _ hit).1
  have st : s'.heap.IsTupleIter it l 0 := ⟨_, eo, rfl, rfl⟩
  unfold PySem.W.OwitIt
  refine wpAny_specialOf st.typeIs PySem.F.slot_tuple_iterator_next.lookup ?_
  have hd : ItX.dropH (upd H1 it (ItoT l it)) it = H1 := ItX.dropH_upd hn
  have I2 := ItX.inv_drop I' (a := it) (φ := fun h => h.get? it = some (itT l 0)) hit
  have fp := ItX.inv_fp I' hit hy
  rw [hd] at I2 fp
  refine ⟨it, [it], _, _, H1, rfl, I2, turn_tuple l it, st, fun b hb => ?_, q⟩
  have e : b = it := by simpa using hb
  rw [e]
  exact fp
end
end L2

namespace PySem
namespace MyE
open PySem.W
/-- enumerate(v), one argument -/
theorem new1 {v : Value} {o : Obj} {H : Heap → Prop} (B : Begins v o H) :
    Meets (Builtin.«enumerate.__new__» ⟨[.type "enumerate", v], []⟩) (fun _ R s => H s.heap ∧
      R (.ok (.ret (.ref (s.heap.push o).objs.size))) { s with heap := (s.heap.push o).push { cls := .type "enumerate", data := .fields #[.none, .bool false, .ref s.heap.objs.size, rawInt 0, .none, .none] } }) :=
  .of_wp fun P1 w1 A1 R1 s1 z => by
    obtain ⟨hp, gs, dr, tk, oz⟩ := s1
    obtain ⟨z1, z2⟩ := z
    have subE := sub_enumerate
    have its : ∀ {A' : Around} {E : Value → Shared → Prop} {Q : Value → Shared → Prop}, Q (.ref hp.objs.size) ⟨hp.push o, gs, dr, tk, oz⟩ → wpAny (model P1 w1) A' (pyIter v) Q E ⟨hp, gs, dr, tk, oz⟩ :=
      fun q => B.iter P1 w1 _ _ ⟨hp, gs, dr, tk, oz⟩ _ z1 q
    wp_walk using its
    refine wpAny_stack_any fun _ => wpAny_pure ?_
    split
    · rename_i c _ _ _ _ _
      cases (c == Value.type "enumerate") <;> (wp_walk using its; exact ⟨_, rfl, z2⟩)
    · wp_walk using its
      exact ⟨_, rfl, z2⟩
theorem call1 {prog : Program} {w : World} {A : Around} {E : Value → Shared → Prop} {s : Shared} {v : Value} {o : Obj} {H : Heap → Prop} {Q : Value → Shared → Prop} (B : Begins v o H) (h1 : H s.heap)
    (h : ∀ h', IsEnum h' (s.heap.objs.size + 1) s.heap.objs.size 0 .none → h'.get? s.heap.objs.size = some o → (∀ b u, s.heap.get? b = some u → h'.get? b = some u) → Q (.ref (s.heap.objs.size + 1)) { s with heap := h' }) :
    wpAny (model prog w) A (call (.type "enumerate") [v]) Q E s := by
  refine callType_new F.called_enumerate (by decide) (F.typeCall_enumerate_1 _) (F.newCall_enumerate_1 _) (fun obj => F.args_object_init_2 obj _) F.entry_enumerate_new (new1 B) ⟨h1, ?_⟩
  have hz : (s.heap.push o).objs.size = s.heap.objs.size + 1 := Heap.size_push ..
  have he := Heap.get?_push_size (s.heap.push o) (o := { cls := .type "enumerate", data := .fields #[.none, .bool false, .ref s.heap.objs.size, rawInt 0, .none, .none] }) rfl
  show _ ∧ _
  rw [hz] at he ⊢
  exact ⟨⟨_, he, rfl⟩, h _ he (Heap.get?_push_of_some _ (Heap.get?_push_size _ B.free)) fun b u x => Heap.get?_push_of_some _ (Heap.get?_push_of_some _ x)⟩
end MyE
end PySem
namespace L2
open PySem PySem.Spec PyProof.Rows
/-! ### enumerate(tuple) -/
def IteT (K : PySem.W.Frag) (a : Addr) : It :=
  ⟨fun i H => ∃ (xs : List V) (x : V), SqT K H a xs ∧ xs[i]? = some x, fun i H v H' => ∃ T x, v = .ref T ∧ H T = none ∧ H' = upd H T (.tup [.int (i : Nat), x]) ∧ ∀ xs, SqT K H a xs → xs[i]? = some x, fun i H => ∃ xs : List V, SqT K H a xs ∧ xs.length = i⟩
theorem enum_ne {h : Heap} {e it l : Addr} {i : Int} {old : Value} {items : Array Value} (he : IsEnum h e it i old) (hl : h.IsTuple l items) : l ≠ e := fun z => by
  obtain ⟨o, ho, _, n, hd⟩ := hl
  rw [z, he] at ho
  cases ho
  cases hd
theorem iterT_ne {h : Heap} {it l : Addr} {i : Nat} {items : Array Value} (hi : h.IsTupleIter it l i) (hl : h.IsTuple l items) : l ≠ it := fun z => by
  obtain ⟨o, ho, _, n, hd⟩ := hl
  obtain ⟨o2, ho2, _, hd2⟩ := hi
  rw [z, ho2] at ho
  cases ho
  rw [hd2] at hd
  cases hd
theorem turn_enumT {P : Program} {w : World} {K : PySem.W.Frag} {elts : List Expr} {kk : Nat} {tpos : Pos} (a e it : Addr) :
    Turn P w K (.Tuple elts kk tpos) (IteT K a) [e, it] e (fun i h => (∃ old, IsEnum h e it ((i : Nat) : Int) old) ∧ h.IsTupleIter it a i ∧ e ≠ it) where
  mem := List.mem_cons_self
  obj := fun i h st b hb => by
    obtain ⟨⟨old, he⟩, ⟨o, ho, hc, hd⟩, _⟩ := st
    rcases List.mem_cons.mp hb with rfl | hb
    · exact ⟨_, he, fun v q => nomatch q⟩
    · rw [List.mem_singleton.mp hb]
      exact ⟨o, ho, fun v q => by rw [hd] at q; cases q⟩
  keep := fun i h h' st k => ⟨st.1.elim fun old z => ⟨old, k e List.mem_cons_self _ z⟩, st.2.1.at fun o q => k it (List.mem_cons_of_mem _ List.mem_cons_self) o q, st.2.2⟩
  item := by
    intro X hP hw hK hc i pins s σ H E I hf st hg
    subst hP hw hK
    obtain ⟨⟨old, he⟩, hit, hne⟩ := st
    obtain ⟨xs, x, hq, hx⟩ := hg
    obtain ⟨its, rv, p, hz⟩ := I.tuple hq
    obtain ⟨u, hu, ru⟩ := rv.get hx
    have pt : s.heap.IsTuple a its.toArray := p
    have hel : e < s.heap.objs.size := Heap.lt_size he
    have hlen : i < its.toArray.size := by
      rw [List.size_toArray]
      exact (List.getElem?_eq_some_iff.mp hu).1
    refine wpAny_pyNext_enum_itemD (Draws.tuple (A := X.A.in1) (I.ok.hd hc) it a (iterT_ne hit pt) its.toArray) he ⟨hit, pt⟩ hlen hne (by
      intro z
      rcases List.mem_cons.mp z with z | z
      · exact hne z
      · exact enum_ne he pt (List.mem_singleton.mp z).symm) fun y h' tk hy ho hit' hT hsz hk => ?_
    have ey : y = u := by
      rw [List.getElem?_toArray, hu] at hy
      exact (Option.some.inj hy).symm
    subst ey
    refine ⟨_, rfl, wpAny_letOwnedTupleGo_enum (s := { s with heap := h', toks := tk + 1 }) ho fun h'' he' sb => ?_⟩
    have hT2 : h''.get? s.heap.objs.size = some { cls := .type "tuple", data := .seq #[.int i tk, y] } := (sb.2 _ (Nat.ne_of_gt hel)).trans hT
    have new : ObjOk X.prog X.w (upd H s.heap.objs.size (.tup [.int (i : Nat), x])) h'' s.heap.objs.size (.tup [.int (i : Nat), x]) :=
      ⟨Nat.le_of_ble_eq_true rfl, [.int i tk, y], .cons ⟨_, rfl⟩ (.cons ru .nil), ⟨_, hT2, rfl, _, rfl⟩⟩
    have I1 : Inv X pins σ (upd H s.heap.objs.size (.tup [.int (i : Nat), x])) { s with heap := h'', toks := tk + 1 } :=
      I.turnedNew (ch := [e, it]) (fun b ob hb q => (sb.2 b (fun z => hb (by simp [z]))).trans (hk b ob (fun z => hb (by simp [z])) (fun z => hb (by simp [z])) q)) hf (Nat.le_refl _) new
    have hfr : H s.heap.objs.size = none := I.hok.fresh (Nat.le_refl _)
    refine ⟨.ref s.heap.objs.size, _, I1, rfl, ⟨_, x, rfl, hfr, rfl, fun ys hy => by rw [I.tuple_inj hy hq]; exact hx⟩, ⟨⟨y, ?_⟩, hit'.1.at fun o q => (sb.2 it (Ne.symm hne)).trans q, hne⟩, fun b hb => ?_⟩
    · have e1 : ((i + 1 : Nat) : Int) = (i : Int) + 1 := by omega
      rw [e1]
      exact he'
    · have bl : b < s.heap.objs.size := by
        rcases List.mem_cons.mp hb with rfl | hb
        · exact hel
        · rw [List.mem_singleton.mp hb]
          obtain ⟨_, z, _⟩ := hit
          exact Heap.lt_size z
      rw [upd_ne (Nat.ne_of_lt bl)]
      exact (hf b hb).1
  done := by
    intro X hP hw hK hc i pins s σ H E I hf st hg
    subst hP hw hK
    obtain ⟨⟨old, he⟩, hit, hne⟩ := st
    obtain ⟨xs, hq, hx⟩ := hg
    obtain ⟨its, rv, p, hz⟩ := I.tuple hq
    obtain ⟨f0, f1, f2, f3, f4, f5⟩ := hf it (List.mem_cons_of_mem _ List.mem_cons_self)
    have pt : s.heap.IsTuple a its.toArray := p
    have hn : its.toArray.size = i := by
      rw [List.size_toArray, ← rv.length]
      exact hx
    exact wpAny_pyNext_enum_endD (Draws.tuple (A := X.A.in1) (I.ok.hd hc) it a (iterT_ne hit pt) its.toArray) he (by rw [hn]; exact ⟨hit, pt⟩) fun h' eb => ⟨rfl, I.turned (t' := s.toks) (fun b o hb q => eb b o hb q) f0 f1 f3 f4 f5⟩
  self := fun A i s Q E st h => st.1.elim fun _ he => wpAny_pyIter_enum he h
def iEnumT (K : PySem.W.Frag) (ta : TA) : TI := fun σ H R => ta σ H fun vs H1 => ∃ a xs, vs = [.ref a] ∧ SqT K H1 a xs ∧ R (IteT K a) H1
/-- enumerate of a list or of a tuple -/
def iEnumS (K : PySem.W.Frag) (ta : TA) : TI := fun σ H R => ta σ H fun vs H1 => ∃ a xs, vs = [.ref a] ∧ ((SqL K H1 a xs ∧ R (Ite K a) H1) ∨ (SqT K H1 a xs ∧ R (IteT K a) H1))
theorem pi_enumS {X : Cx} {e : Expr} {ta : TA} {p pos tpos : Pos} {elts : List Expr} {kk : Nat} (hg : Gl X "enumerate") (hm : X.mg "enumerate" = none) (ha : PA X [e] ta) (hs : starEach [e] X.env = [(false, eval e X.env)] := by rfl) :
    PI X (.Tuple elts kk tpos) (.Call (.Name "enumerate" p) [e] [] pos) (iEnumS X.K ta) := by
  refine ⟨fun pins s σ H R I h => ?_⟩
  refine Call_ (ld_blt I hg hm boot_enumerate (PyProof.Rows.callWith_type1 (thn (ha.run pos pins s σ H _ I h) fun us s1 ⟨vs, H1, I1, r1, q1⟩ => ?_) hs rfl))
  obtain ⟨a, xs, rfl, q⟩ := q1
  obtain ⟨u, rfl, ru⟩ := r1.one
  cases ru
  have young : ∀ b, b ∈ [s1.heap.objs.size + 1, s1.heap.objs.size] → s1.heap.objs.size ≤ b := fun b hb => by
    rcases List.mem_cons.mp hb with z | z
    · rw [z]; exact Nat.le_add_right _ _
    · rw [List.mem_singleton.mp z]; exact Nat.le_refl _
  rcases q with ⟨hq, q⟩ | ⟨hq, q⟩
  · obtain ⟨its, rv, p', hz⟩ := I1.list hq
    refine MyE.call1 (begins_list a its.toArray) p'.isList fun h' he hit hk => wpAny_pyIter_enum he ?_
    exact ⟨s1.heap.objs.size + 1, [s1.heap.objs.size + 1, s1.heap.objs.size], _, _, H1, rfl, I1.kept (t' := s1.toks) hk, turn_enum a (s1.heap.objs.size + 1) s1.heap.objs.size, ⟨⟨.none, he⟩, ⟨_, hit, rfl, rfl⟩, Nat.succ_ne_self _⟩, fun b hb => I1.fpOk (young b hb) (I1.hok.fresh (young b hb)), q⟩
  · obtain ⟨its, rv, p', hz⟩ := I1.tuple hq
    refine MyE.call1 (begins_tuple a its.toArray) (show s1.heap.IsTuple a its.toArray from p') fun h' he hit hk => wpAny_pyIter_enum he ?_
    exact ⟨s1.heap.objs.size + 1, [s1.heap.objs.size + 1, s1.heap.objs.size], _, _, H1, rfl, I1.kept (t' := s1.toks) hk, turn_enumT a (s1.heap.objs.size + 1) s1.heap.objs.size, ⟨⟨.none, he⟩, ⟨_, hit, rfl, rfl⟩, Nat.succ_ne_self _⟩, fun b hb => I1.fpOk (young b hb) (I1.hok.fresh (young b hb)), q⟩
theorem walk_enumT {K : PySem.W.Frag} {a : Addr} {xs : List V} : Walk (IteT K a) xs.length (fun H => SqT K H a xs) (YPair (fun i => some (.int (i : Nat))) (fun i => xs[i]?)) := by
  refine ⟨fun i _ hi q => ⟨xs, xs[i], q, by simp [hi]⟩, fun _ q => ⟨xs, q, rfl⟩, fun i H v H' _ q y => ?_⟩
  obtain ⟨T, x, h1, h2, h3, h4⟩ := y
  exact ⟨T, .int (i : Nat), x, h1, h2, h3, rfl, h4 xs q⟩
end L2

namespace L2
open PySem
theorem SqT.extX {K : PySem.W.Frag} {H H' : Hp} {a : Addr} {xs : List V} (h : SqT K H a xs) (e : Ext H H') : SqT K H' a xs := SqT.ext h e
theorem TyX.ext {K : PySem.W.Frag} {H H' : Hp} {x : V} {t : Value} (h : TyX K H x t) (e : Ext H H') : TyX K H' x t := by
  cases h with
  | base h =>
    refine .base ?_
    cases h with
    | non => exact .non
    | bl x => exact .bl x
    | int i => exact .int i
    | str x => exact .str x
    | flt x => exact .flt x
    | lst z => exact .lst (e _ _ z)
    | frz z => exact .frz (e _ _ z)
    | tup z => exact .tup (e _ _ z)
    | dK z => exact .dK (e _ _ z)
    | dT z => exact .dT (e _ _ z)
    | ins z a b c d f => exact .ins (e _ _ z) a b c d f
  | byt b => exact .byt b
  | set z => exact .set (e _ _ z)
  | kList z c => exact .kList z c
  | kTuple z c => exact .kTuple z c
  | kDict z c => exact .kDict z c
  | fTuple z => exact .fTuple (e _ _ z)
  | fDict z => exact .fDict (e _ _ z)
/-- a place that was free may be written -/
theorem Ext.over {H H' : Hp} {D : Addr} {o : HO} (x : Ext H H') (h : H D = none) : Ext H (L2.upd H' D o) := fun a u e => by
  rw [upd_ne (ne_of_none e h)]
  exact x a u e
theorem tyx_lst {K : PySem.W.Frag} {H : Hp} {a : Addr} {xs : List V} (h : H a = some (.lst xs)) : TyX K H (.ref a) (.type "list") := .base (.lst h)
theorem tyx_tup {K : PySem.W.Frag} {H : Hp} {a : Addr} {xs : List V} (h : H a = some (.tup xs)) : TyX K H (.ref a) (.type "tuple") := .base (.tup h)
end L2
namespace My
open PySem PySem.Spec PyProof.Rows L2
theorem scIsList : FnScope ["thing"] ["thing"] (defScope sIsList) := ⟨rfl, rfl, rfl, by decide +kernel, rfl, by decide +kernel, by decide +kernel⟩
theorem scIsName : FnScope ["thing", "letter"] ["thing"] (defScope sIsName) := ⟨rfl, rfl, rfl, by decide +kernel, rfl, by decide +kernel, by decide +kernel⟩
theorem lcYes {σ : L2.St} {H : Hp} {A B : Hp → Prop} (h : A H) : tYes σ H (fun b H3 => if b = true then A H3 else B H3) := by
  show (if true = true then A H else B H)
  rw [if_pos rfl]
  exact h
def letters : Str := "abcdefghijklmnopqrstuvwxyz"
def signB (z : Str) : List Bool := z.cps.toList.map fun c => decide (c ∈ letters.cps.toList)
theorem sign_snoc {z : Str} {i c : Nat} (h : z.cps[i]? = some c) : (signB z).take i ++ [decide (c ∈ letters.cps.toList)] = (signB z).take (i + 1) := by
  have e : (signB z)[i]? = some (decide (c ∈ letters.cps.toList)) := by
    unfold signB
    rw [List.getElem?_map, Array.getElem?_toList, h]
    rfl
  rw [List.take_add_one, e]
  rfl
def nameB (z : Str) : Bool := decide ((1 : Int) ≤ z.length) && (decide ((z.length : Int) ≤ 8) && (signB z).all id)
/-- isinstance(x, (list, tuple)) -/
def spIsList (K : PySem.W.Frag) : Sp := fun vs H Q _ => ∃ x t b, vs = [x] ∧ TyX K H x t ∧ PySem.W.kitAny K t [.type "list", .type "tuple"] = some b ∧ ∀ H', Ext H H' → Q (.bl b) H'
/-- whether x is a name -/
def spIsName (K : PySem.W.Frag) : Sp := fun vs H Q _ => ∃ x, vs = [x] ∧ ((∃ z, x = .str z ∧ z.length ≤ sizeLine ∧ ∀ H', Ext H H' → Q (.bl (nameB z)) H') ∨ (∃ t, TyX K H x t ∧ PySem.W.kitOne K t (.type "str") = some false ∧ ∀ H', Ext H H' → Q (.bl false) H'))
section
variable {P : Program} {w : World} {K : PySem.W.Frag} {mg : Str → Option Value} {base : Heap} {f : Addr} {fd : FuncData}
theorem ok_isList (Fn : FnP K "is_list" sIsList f fd) (gI : mg "isinstance" = none) (gL : mg "list" = none) (gT : mg "tuple" = none) : FnOk P w K mg base CX0 1 f fd ["thing"] (spIsList K) := by
  refine Fn.ok scIsList (fun vs H Q E h => ?_) (fun cdv A outer s H vs Q E hr h => ⟨_, PSs.nox
    (pss_one (ps_ret (pe_callB call_isiT (by rfl) gI boot_isinstance (pa_cons (pv 0) (pa_cons (pe_tup (pa_cons (pe_bltn (v := .ty "list") (by rfl) gL boot_list rfl) (pa_cons (pe_bltn (v := .ty "tuple") (by rfl) gT boot_tuple rfl) pa_nil))) pa_nil))))), ?_⟩)
  · obtain ⟨x, t, b, rfl, _⟩ := h
    rfl
  · obtain ⟨x, t, b, rfl, ty, kt, q⟩ := h
    exact ⟨_, rfl, Nat.le_of_ble_eq_true rfl, fun p hp => ⟨x, p, [.ty "list", .ty "tuple"], t, _, b, rfl, upd_same, .cons (.ty _) (.cons (.ty _) .nil), ty.ext (Ext.upd hp), kt, q _ (Ext.upd hp)⟩⟩
theorem ok_isName (Fn : FnP K "is_name" sIsName f fd) (gI : mg "isinstance" = none) (gS : mg "str" = none) (gN : mg "len" = none) (gA : mg "all" = none) {t8 tL : Tok} (g8 : mg "LONGEST" = some (.int 8 t8)) (gL : mg "LETTERS" = some (.str letters tL)) :
    FnOk P w K mg base CX0 1 f fd ["thing"] (spIsName K) := by
  refine Fn.ok scIsName (fun vs H Q E h => ?_) (fun cdv A outer s H vs Q E hr h => ⟨_, PSs.nox
    (pss_cons (ps_if (PW.pt (pw_or (pt_not (pt_val (pe_callB call_isi (by rfl) gI boot_isinstance (pa_cons (pv 0) (pa_cons (pe_bltn (v := .ty "str") (by rfl) gS boot_str rfl) pa_nil)))))
        (pw_or1 (pt_not (pt_chain op_le op_le pe_int (pe_callB call_len (by rfl) gN boot_len (pa_cons (pv 0) pa_nil)) (pe_glob (v := .int 8) (by rfl) g8 ⟨_, rfl⟩)))))) (pss_one (ps_ret pe_bl)) pss_nil)
    (pss_one (ps_ret (pe_callB (cr_all rfl) (by rfl) gA boot_all (pa_cons (pe_lc (own := [("letter", 1)]) (g := gName 1) (tt := tYes) rfl scIsName.nd (pi_str (pv 0)) (blkOk_by (N := ["thing", "letter"]) (sc := defScope sIsName) (by decide +kernel))
      (fun _ _ _ _ _ => pg_name (i := 1) scIsName.nd rfl (Or.inl rfl)) (fun _ _ _ _ _ => pts_nil) (fun _ _ _ _ _ => pe_cmpR op_in_sign (pv 1) (pe_glob (v := .str letters) (by rfl) gL ⟨_, rfl⟩) (by rfl))) pa_nil))))), ?_⟩)
  · obtain ⟨x, rfl, _⟩ := h
    rfl
  · obtain ⟨x, rfl, h⟩ := h
    rcases h with ⟨z, rfl, hz, q⟩ | ⟨t, ty, kt, q⟩
    · refine ⟨_, rfl, .str z, .ty "str", .type "str", .type "str", true, rfl, .ty _, .base (.str _), kit_ty (by decide +kernel), true, rfl, ?_⟩
      refine iteF ?_
      refine ⟨_, rfl, .str z, z.length, rfl, ⟨hz, rfl⟩, _, _, rfl, rfl, _, rfl, ?_⟩
      refine ite2 (fun h1 => ?_) (fun h1 => ?_)
      · refine ⟨_, _, rfl, rfl, _, rfl, ?_⟩
        refine ite2 (fun h2 => ?_) (fun h2 => ?_)
        · have h2' : (!decide ((z.length : Int) ≤ 8)) = true := h2
          have q1 := q H Ext.rfl'
          have e : nameB z = false := by
            unfold nameB
            rw [show decide ((z.length : Int) ≤ 8) = false by simpa using h2', Bool.false_and, Bool.and_false]
          rw [e] at q1
          exact q1
        · have e2 : decide ((z.length : Int) ≤ 8) = true := by simpa using h2
          have e1 : decide ((1 : Int) ≤ z.length) = true := h1
          refine ⟨_, rfl, _, rfl, fun D hD => lc_it (walk_str (z := z)) (fun i H' => Ext H H' ∧ H' D = some (.lst (((signB z).take i).map V.bl))) ⟨Ext.upd hD, upd_same⟩ (fun _ _ _ _ => True.intro) ?_ ?_⟩
          · intro i x H1 H2 hi ⟨x1, l1⟩ hy
            obtain ⟨rfl, c, hc, rfl⟩ := hy
            refine ⟨rfl, ?_⟩
            refine lcYes ?_
            refine ⟨_, rfl, c, letters, rfl, rfl, _, l1, ?_, ?_, ?_⟩
            · rw [List.length_map, List.length_take]
              exact Nat.lt_of_le_of_lt (Nat.min_le_left _ _) (Nat.lt_of_lt_of_le hi hz)
            · exact x1.over hD
            · rw [upd_same, ← sign_snoc hc, List.map_append]
              rfl
          · intro H1 ⟨x1, l1⟩
            refine ⟨D, signB z, rfl, ?_, ?_⟩
            · have e : (signB z).take z.cps.size = signB z := by
                rw [List.take_of_length_le]
                unfold signB
                rw [List.length_map, Array.length_toList]
                exact Nat.le_refl _
              rw [e] at l1
              exact SqL.of l1
            · have e : nameB z = (signB z).all id := by
                unfold nameB
                rw [e1, e2, Bool.true_and, Bool.true_and]
              rw [← e]
              exact q H1 x1
      · have e1 : decide ((1 : Int) ≤ z.length) = false := by simpa using h1
        have e : nameB z = false := by
          unfold nameB
          rw [e1, Bool.false_and]
        have q1 := q H Ext.rfl'
        rw [e] at q1
        exact ⟨_, rfl, q1⟩
    · refine ⟨_, rfl, x, .ty "str", t, .type "str", false, rfl, .ty _, ty, kt, false, rfl, ?_⟩
      exact q _ Ext.rfl'
end
end My

namespace My
open PySem PySem.Spec PyProof.Rows L2
theorem scWrongName : FnScope ["things", "at", "thing"] ["things"] (defScope sWrongName) := ⟨rfl, rfl, rfl, by decide +kernel, rfl, by decide +kernel, by decide +kernel⟩
/-- what may be told to is_name -/
def Thing (K : PySem.W.Frag) (H : Hp) (x : V) : Prop := (∃ z, x = .str z ∧ z.length ≤ sizeLine) ∨ ((∀ z, x ≠ .str z) ∧ ∃ t, TyX K H x t ∧ PySem.W.kitOne K t (.type "str") = some false)
theorem Thing.ext {K : PySem.W.Frag} {H H' : Hp} {x : V} (h : Thing K H x) (e : Ext H H') : Thing K H' x := by
  rcases h with h | ⟨n, t, ty, k⟩
  · exact .inl h
  · exact .inr ⟨n, t, ty.ext e, k⟩
def nameV : V → Bool
  | .str z => nameB z
  | _ => false
theorem nameV_flat {x : V} (h : nameV x = true) : flatV x = true := by
  cases x <;> first | rfl | exact absurd (show false = true from h) Bool.false_ne_true
/-- the i-th is no name or stood before -/
def badAt (xs : List V) (i : Nat) : Bool := match xs[i]? with
  | some y => !nameV y || inV y (xs.take i)
  | none => false
def SeqAt2 (K : PySem.W.Frag) (H : Hp) (a : Addr) (xs : List V) : Prop := SqL K H a xs ∨ SqT K H a xs
theorem SeqAt2.ext {K : PySem.W.Frag} {H H' : Hp} {a : Addr} {xs : List V} (h : SeqAt2 K H a xs) (e : Ext H H') : SeqAt2 K H' a xs := h.elim (fun z => .inl (z.ext e)) fun z => .inr (z.ext e)
/-- the first wrong one's place | None -/
def spWrongName (K : PySem.W.Frag) : Sp := fun vs H Q _ => ∃ a xs, vs = [.ref a] ∧ SeqAt2 K H a xs ∧ (∀ y ∈ xs, Thing K H y) ∧ (∀ H', Ext H H' → (∀ i, i < xs.length → badAt xs i = false) → Q .non H') ∧
  ∀ i H', Ext H H' → i < xs.length → badAt xs i = true → (∀ j, j < i → badAt xs j = false) → Q (.int (i : Nat)) H'
theorem cut_take {xs : List V} {i : Nat} (h : i < xs.length) : cutV xs none (some ((i : Nat) : Int)) = xs.take i := by
  unfold cutV
  rw [HT.sIx_none, HT.sIx_nat, Nat.min_eq_left (Nat.le_of_lt h), Nat.sub_zero, List.drop_zero]
theorem flat_take {xs : List V} {i : Nat} (hb : ∀ j, j < i → badAt xs j = false) : (xs.take i).all flatV = true := by
  rw [List.all_eq_true]
  intro y hy
  obtain ⟨j, hj, e⟩ := List.getElem_of_mem hy
  rw [List.length_take] at hj
  have h2 : xs[j]? = some y := by
    rw [List.getElem_take] at e
    rw [← e]
    exact List.getElem?_eq_getElem _
  have h3 := hb j (Nat.lt_of_lt_of_le hj (Nat.min_le_left _ _))
  unfold badAt at h3
  rw [h2] at h3
  have h4 : nameV y = true := by
    cases h5 : nameV y with
    | true => rfl
    | false =>
      rw [show (match some y with | some y => !nameV y || inV y (xs.take j) | none => false) = (!nameV y || inV y (xs.take j)) from rfl, h5] at h3
      exact absurd h3 (by simp)
  exact nameV_flat h4
section
variable {P : Program} {w : World} {K : PySem.W.Frag} {mg : Str → Option Value} {base : Heap} {f fN : Addr} {fd fdN : FuncData}
theorem ok_wrongName (Fn : FnP K "wrong_name" sWrongName f fd) (FN : FnOk P w K mg base CX0 1 fN fdN ["thing"] (spIsName K)) (gN : mg "is_name" = some (.ref fN)) (kN : PySem.W.keepIn K (.ref fN) = true) (bN : Binds K fdN ["thing"] []) (gE : mg "enumerate" = none) :
    FnOk P w K mg base CX0 2 f fd ["things"] (spWrongName K) := by
  refine Fn.ok scWrongName (fun vs H Q E h => ?_) (fun cdv A outer s H vs Q E hr h => ⟨_, PSs.nox
    (pss_cons (ps_for PassesOwn.never rfl (pi_enumS (by rfl) gE (pa_cons (pv 0) pa_nil)) (pg_tup rfl (pgs_cons (pg_name (i := 1) scWrongName.nd rfl (Or.inl rfl)) (pgs_cons (pg_name (i := 2) scWrongName.nd rfl (Or.inl rfl)) pgs_nil)))
      (pss_one (ps_if (PW.pt (pw_or (pt_not (pt_val (pe_call FN hr (by rfl) gN kN bN .nil pass0 (pa_cons (pv 2) pa_nil))))
        (pw_or1 (pt_cmpR op_in_seq (pv 2) (pe_slice (sl_list.or sl_tupA) (pv 0) po_none (po_some (pv 1))) (by rfl))))) (pss_one (ps_ret (pv 1))) pss_nil)))
    (pss_one (ps_ret pe_non))), ?_⟩)
  · obtain ⟨a, xs, rfl, _⟩ := h
    rfl
  · obtain ⟨a, xs, rfl, sq, th, q0, q1⟩ := h
    refine ⟨_, rfl, a, xs, rfl, ?_⟩
    rcases sq with sq | sq
    · refine .inl ⟨sq, ?_⟩
      refine for_it (walk_enum (xs := xs)) (fun i σ H' => Ext H H' ∧ (∃ u v, σ = [some (.ref a), u, v]) ∧ ∀ j, j < i → badAt xs j = false) ⟨Ext.rfl', ⟨none, none, rfl⟩, fun j hj => absurd hj (Nat.not_lt_zero _)⟩ (fun i σ H' _ p => sq.ext p.1) ?_ ?_
      · intro i x σ H1 H2 hi p y
        obtain ⟨x1, ⟨u, v, rfl⟩, hb⟩ := p
        obtain ⟨T, y1, y2, rfl, hT, rfl, e1, e2⟩ := y
        cases e1
        have e2 : xs[i]? = some y2 := e2
        have x2 : Ext H (upd H1 T (.tup [.int i, y2])) := x1.upd' hT
        refine ⟨T, _, rfl, SqT.of upd_same, rfl, _, _, rfl, _, _, rfl, rfl, ?_⟩
        have hmem : y2 ∈ xs := List.mem_of_getElem? e2
        have notbad : badAt xs i = false → ∀ j, j < i + 1 → badAt xs j = false := fun h j hj => by
          rcases Nat.lt_or_eq_of_le (Nat.le_of_lt_succ hj) with z | z
          · exact hb j z
          · rw [z]; exact h
        have eb : badAt xs i = (!nameV y2 || inV y2 (xs.take i)) := by
          unfold badAt
          rw [e2]
        have bad : badAt xs i = true → ∀ H', Ext H H' → Q (.int (i : Nat)) H' := fun h H' z => q1 i H' z hi h hb
        rcases th y2 hmem with ⟨z, rfl, hz⟩ | ⟨hns, t, ty, kt⟩
        · refine ⟨_, rfl, _, rfl, .inl ⟨z, rfl, hz, fun H3 x3 => ?_⟩⟩
          refine ⟨nameB z, rfl, ?_⟩
          have x13 : Ext H H3 := x2.trans x3
          cases hn : nameB z with
          | false =>
            exact ⟨_, rfl, bad (by rw [eb]; show (!nameB z || _) = true; rw [hn]; rfl) H3 x13⟩
          | true =>
            have fl := flat_take hb
            have cont : ∀ H4, Ext H H4 → (if inV (.str z) (xs.take i) = true then (∃ v, ([some (.ref a), some (.int (i : Nat)), some (.str z)] : L2.St)[1]? = some (some v) ∧ Q v H4) else Ext H H4 ∧ (∃ u v, ([some (.ref a), some (.int (i : Nat)), some (.str z)] : L2.St) = [some (.ref a), u, v]) ∧ ∀ j, j < i + 1 → badAt xs j = false) := fun H4 x4 => by
              cases hi2 : inV (.str z) (xs.take i) with
              | true => exact ⟨_, rfl, bad (by rw [eb, hi2, Bool.or_true]) H4 x4⟩
              | false => exact ⟨x4, ⟨_, _, rfl⟩, notbad (by rw [eb, hi2]; show (!nameB z || false) = false; rw [hn]; rfl)⟩
            refine ⟨_, rfl, _, rfl, _, rfl, _, rfl, .inl ⟨a, xs, rfl, sq.ext x13, fun p hp => ?_⟩⟩
            rw [cut_take hi]
            refine ⟨p, _, rfl, .inl (SqL.of upd_same), rfl, fl, _, rfl, ?_⟩
            exact cont _ (x13.upd' hp)
        · refine ⟨_, rfl, _, rfl, .inr ⟨t, ty.ext x2, kt, fun H3 x3 => ?_⟩⟩
          refine ⟨false, rfl, ?_⟩
          exact ⟨_, rfl, bad (by
            rw [eb]
            have e : nameV y2 = false := by
              cases y2 <;> first | rfl | exact absurd rfl (hns _)
            rw [e]; rfl) H3 (x2.trans x3)⟩
      · intro σ H1 p
        exact q0 H1 p.1 p.2.2
    · refine .inr ⟨sq, ?_⟩
      refine for_it (walk_enumT (xs := xs)) (fun i σ H' => Ext H H' ∧ (∃ u v, σ = [some (.ref a), u, v]) ∧ ∀ j, j < i → badAt xs j = false) ⟨Ext.rfl', ⟨none, none, rfl⟩, fun j hj => absurd hj (Nat.not_lt_zero _)⟩ (fun i σ H' _ p => sq.ext p.1) ?_ ?_
      · intro i x σ H1 H2 hi p y
        obtain ⟨x1, ⟨u, v, rfl⟩, hb⟩ := p
        obtain ⟨T, y1, y2, rfl, hT, rfl, e1, e2⟩ := y
        cases e1
        have e2 : xs[i]? = some y2 := e2
        have x2 : Ext H (upd H1 T (.tup [.int i, y2])) := x1.upd' hT
        refine ⟨T, _, rfl, SqT.of upd_same, rfl, _, _, rfl, _, _, rfl, rfl, ?_⟩
        have hmem : y2 ∈ xs := List.mem_of_getElem? e2
        have notbad : badAt xs i = false → ∀ j, j < i + 1 → badAt xs j = false := fun h j hj => by
          rcases Nat.lt_or_eq_of_le (Nat.le_of_lt_succ hj) with z | z
          · exact hb j z
          · rw [z]; exact h
        have eb : badAt xs i = (!nameV y2 || inV y2 (xs.take i)) := by
          unfold badAt
          rw [e2]
        have bad : badAt xs i = true → ∀ H', Ext H H' → Q (.int (i : Nat)) H' := fun h H' z => q1 i H' z hi h hb
        rcases th y2 hmem with ⟨z, rfl, hz⟩ | ⟨hns, t, ty, kt⟩
        · refine ⟨_, rfl, _, rfl, .inl ⟨z, rfl, hz, fun H3 x3 => ?_⟩⟩
          refine ⟨nameB z, rfl, ?_⟩
          have x13 : Ext H H3 := x2.trans x3
          cases hn : nameB z with
          | false =>
            exact ⟨_, rfl, bad (by rw [eb]; show (!nameB z || _) = true; rw [hn]; rfl) H3 x13⟩
          | true =>
            have fl := flat_take hb
            have cont : ∀ H4, Ext H H4 → (if inV (.str z) (xs.take i) = true then (∃ v, ([some (.ref a), some (.int (i : Nat)), some (.str z)] : L2.St)[1]? = some (some v) ∧ Q v H4) else Ext H H4 ∧ (∃ u v, ([some (.ref a), some (.int (i : Nat)), some (.str z)] : L2.St) = [some (.ref a), u, v]) ∧ ∀ j, j < i + 1 → badAt xs j = false) := fun H4 x4 => by
              cases hi2 : inV (.str z) (xs.take i) with
              | true => exact ⟨_, rfl, bad (by rw [eb, hi2, Bool.or_true]) H4 x4⟩
              | false => exact ⟨x4, ⟨_, _, rfl⟩, notbad (by rw [eb, hi2]; show (!nameB z || false) = false; rw [hn]; rfl)⟩
            refine ⟨_, rfl, _, rfl, _, rfl, _, rfl, .inr ⟨a, xs, rfl, sq.ext x13, fun hw => ?_, fun _ p hp => ?_⟩⟩
            · have h2 := hw.2
              rw [HT.sIx_nat, Nat.min_eq_left (Nat.le_of_lt hi)] at h2
              exact absurd hi (by omega)
            rw [cut_take hi]
            refine ⟨p, _, rfl, .inr (SqT.of upd_same), rfl, fl, _, rfl, ?_⟩
            exact cont _ (x13.upd' hp)
        · refine ⟨_, rfl, _, rfl, .inr ⟨t, ty.ext x2, kt, fun H3 x3 => ?_⟩⟩
          refine ⟨false, rfl, ?_⟩
          exact ⟨_, rfl, bad (by
            rw [eb]
            have e : nameV y2 = false := by
              cases y2 <;> first | rfl | exact absurd rfl (hns _)
            rw [e]; rfl) H3 (x2.trans x3)⟩
      · intro σ H1 p
        exact q0 H1 p.1 p.2.2
end
end My

namespace L2
open PySem
theorem tyx_sqL {K : PySem.W.Frag} {H : Hp} {a : Addr} {xs : List V} (h : SqL K H a xs) : TyX K H (.ref a) (.type "list") := by
  rcases h with (h | ⟨o, h⟩) | ⟨o, its, n, h1, h2, _⟩
  · exact .base (.lst h)
  · exact .base (.frz h)
  · exact .kList h1 h2
theorem tyx_sqT {K : PySem.W.Frag} {H : Hp} {a : Addr} {xs : List V} (h : SqT K H a xs) : TyX K H (.ref a) (.type "tuple") := by
  rcases h with (h | ⟨o, h⟩) | ⟨o, its, n, h1, h2, _⟩
  · exact .base (.tup h)
  · exact .fTuple h
  · exact .kTuple h1 h2
end L2
namespace My
open PySem PySem.Spec PyProof.Rows L2
theorem scWrongPart : FnScope ["folders", "things", "at"] ["folders", "things"] (defScope sWrongPart) := ⟨rfl, rfl, rfl, by decide +kernel, rfl, by decide +kernel, by decide +kernel⟩
def optV : Option Nat → V
  | none => .non
  | some i => .int (i : Nat)
def wrongOf (xs : List V) : Option Nat := (List.range xs.length).find? (badAt xs)
def spWN (K : PySem.W.Frag) : Sp := fun vs H Q _ => ∃ a xs, vs = [.ref a] ∧ SeqAt2 K H a xs ∧ (∀ y ∈ xs, Thing K H y) ∧ ∀ H', Ext H H' → Q (optV (wrongOf xs)) H'
theorem wrong_none {xs : List V} (h : ∀ i, i < xs.length → badAt xs i = false) : wrongOf xs = none := List.find?_range_eq_none.mpr fun i hi => by rw [h i hi]; rfl
theorem wrong_some {xs : List V} {i : Nat} (hi : i < xs.length) (h : badAt xs i = true) (h2 : ∀ j, j < i → badAt xs j = false) : wrongOf xs = some i := List.find?_range_eq_some.mpr ⟨h, List.mem_range.mpr hi, fun j hj => by rw [h2 j hj]; rfl⟩
theorem wn_imp {K : PySem.W.Frag} (vs : List V) (H : Hp) (Q : VK) (E : XK) (h : spWN K vs H Q E) : spWrongName K vs H Q E := by
  obtain ⟨a, xs, rfl, sq, th, q⟩ := h
  refine ⟨a, xs, rfl, sq, th, fun H' x h => ?_, fun i H' x hi h h2 => ?_⟩
  · have z := q H' x
    rw [wrong_none h] at z
    exact z
  · have z := q H' x
    rw [wrong_some hi h h2] at z
    exact z
/-- a list or a tuple of things, or neither -/
def Lk (K : PySem.W.Frag) (H : Hp) (x : V) : Option (List V) → Prop
  | some xs => ∃ a, x = .ref a ∧ SeqAt2 K H a xs ∧ ∀ y ∈ xs, Thing K H y
  | none => ∃ t, TyX K H x t ∧ PySem.W.kitAny K t [.type "list", .type "tuple"] = some false
theorem Lk.ext {K : PySem.W.Frag} {H H' : Hp} {x : V} {o : Option (List V)} (h : Lk K H x o) (e : Ext H H') : Lk K H' x o := by
  cases o with
  | none =>
    obtain ⟨t, ty, k⟩ := h
    exact ⟨t, ty.ext e, k⟩
  | some xs =>
    obtain ⟨a, rfl, sq, th⟩ := h
    exact ⟨a, rfl, sq.ext e, fun y hy => (th y hy).ext e⟩
theorem Lk.kit {K : PySem.W.Frag} {H : Hp} {x : V} {o : Option (List V)} (h : Lk K H x o) : ∃ t, TyX K H x t ∧ PySem.W.kitAny K t [.type "list", .type "tuple"] = some o.isSome := by
  cases o with
  | none => exact h
  | some xs =>
    obtain ⟨a, rfl, sq, _⟩ := h
    rcases sq with sq | sq
    · exact ⟨_, tyx_sqL sq, kitAny_cons (b := true) (kit_ty (by decide +kernel)) (fun z => nomatch z) (fun _ => rfl)⟩
    · exact ⟨_, tyx_sqT sq, kitAny_cons (b := false) (kit_ty (by decide +kernel)) (fun _ => kitAny_cons (b := true) (kit_ty (by decide +kernel)) (fun z => nomatch z) (fun _ => rfl)) (fun z => nomatch z)⟩
theorem kit_no {K : PySem.W.Frag} {a : String} (h1 : kitB a "list" = some false) (h2 : kitB a "tuple" = some false) : PySem.W.kitAny K (.type a) [.type "list", .type "tuple"] = some false :=
  kitAny_cons (b := false) (kit_ty h1) (fun _ => kitAny_cons (b := false) (kit_ty h2) (fun _ => kitAny_nil) (fun z => nomatch z)) (fun z => nomatch z)
/-- BadHouse's index | None -/
def partOf (o o' : Option (List V)) : Option Nat := match o with
  | none => some 0
  | some xs => if xs.length = 0 then some 0 else match o' with
    | some ys => wrongOf (xs ++ ys)
    | none => match wrongOf xs with
      | none => some xs.length
      | some i => some i
def spWrongPart (K : PySem.W.Frag) : Sp := fun vs H Q _ => ∃ x y o o', vs = [x, y] ∧ Lk K H x o ∧ Lk K H y o' ∧ (∀ xs ys, o = some xs → o' = some ys → (xs ++ ys).length ≤ sizeLine) ∧ ∀ H', Ext H H' → Q (optV (partOf o o')) H'
section
variable {P : Program} {w : World} {K : PySem.W.Frag} {mg : Str → Option Value} {base : Heap} {f fL fW : Addr} {fd fdL fdW : FuncData}
theorem ok_wrongPart (Fn : FnP K "wrong_part" sWrongPart f fd) (FL : FnOk P w K mg base CX0 1 fL fdL ["thing"] (spIsList K)) (gL : mg "is_list" = some (.ref fL)) (kL : PySem.W.keepIn K (.ref fL) = true) (bL : Binds K fdL ["thing"] [])
    (FW : FnOk P w K mg base CX0 2 fW fdW ["things"] (spWN K)) (gW : mg "wrong_name" = some (.ref fW)) (kW : PySem.W.keepIn K (.ref fW) = true) (bW : Binds K fdW ["things"] []) (gN : mg "len" = none) :
    FnOk P w K mg base CX0 3 f fd ["folders", "things"] (spWrongPart K) := by
  refine Fn.ok scWrongPart (fun vs H Q E h => ?_) (fun cdv A outer s H vs Q E hr h => ⟨_, PSs.nox
    (pss_cons (ps_if (PW.pt (pw_or (pt_not (pt_val (pe_call FL (hr.mono (by decide)) (by rfl) gL kL bL .nil pass0 (pa_cons (pv 0) pa_nil)))) (pw_or1 (pt_cmpR op_eq (pe_callB call_len (by rfl) gN boot_len (pa_cons (pv 0) pa_nil)) pe_int (nomark _))))) (pss_one (ps_ret pe_int)) pss_nil)
    (pss_cons (ps_if (pt_val (pe_call FL (hr.mono (by decide)) (by rfl) gL kL bL .nil pass0 (pa_cons (pv 1) pa_nil))) (pss_one (ps_ret (pe_call FW hr (by rfl) gW kW bW .nil pass0 (pa_cons (pe_lst (StX.pa_star (pv 0) (StX.pa_star (pv 1) pa_nil))) pa_nil)))) pss_nil)
    (pss_cons (ps_set (i := 2) scWrongPart.nd rfl (.inl rfl) (pe_call FW hr (by rfl) gW kW bW .nil pass0 (pa_cons (pv 0) pa_nil)))
    (pss_one (ps_ret (pe_ifExp (pt_cmpR op_isN (pv 2) pe_non (nomark _)) (pe_callB call_len (by rfl) gN boot_len (pa_cons (pv 0) pa_nil)) (pv 2))))))), ?_⟩)
  · obtain ⟨x, y, o, o', rfl, _⟩ := h
    rfl
  · obtain ⟨x, y, o, o', rfl, hx, hy, hz, q⟩ := h
    obtain ⟨tx, tyx, kx⟩ := hx.kit
    refine ⟨x, rfl, x, tx, _, rfl, tyx, kx, fun H1 x1 => ?_⟩
    refine ⟨_, rfl, ?_⟩
    cases o with
    | none => exact q H1 x1
    | some xs =>
      obtain ⟨a, rfl, sq, th⟩ := hx
      have sq1 := sq.ext x1
      refine iteF ?_
      refine ⟨_, rfl, _, xs.length, rfl, ?_, rfl, _, rfl, ?_⟩
      · exact sq1.elim (fun z => .inl ⟨_, z, rfl⟩) fun z => .inr ⟨_, z, rfl⟩
      refine ite2 (fun h0 => ?_) (fun h0 => ?_)
      · have e : partOf (some xs) o' = some 0 := if_pos (by simpa using h0)
        have z := q H1 x1
        rw [e] at z
        exact z
      · have n0 : ¬ xs.length = 0 := by simpa using h0
        obtain ⟨ty, tyy, ky⟩ := (hy.ext x1).kit
        refine ⟨y, rfl, y, ty, _, rfl, tyy, ky, fun H2 x2 => ?_⟩
        refine ⟨_, rfl, ?_⟩
        have sq2 := sq1.ext x2
        have th2 : ∀ z ∈ xs, Thing K H2 z := fun z hz => ((th z hz).ext x1).ext x2
        cases o' with
        | some ys =>
          obtain ⟨b, rfl, sqy, thy⟩ := hy
          have sy2 := (sqy.ext x1).ext x2
          refine iteT ?_
          refine ⟨_, rfl, a, xs, rfl, sq2.symm, _, rfl, b, ys, rfl, sy2.symm, ?_⟩
          have hlen := hz xs ys rfl rfl
          refine ⟨(show (xs ++ (ys ++ [])).length ≤ sizeLine by rw [List.append_nil]; exact hlen), fun p hp => ⟨p, xs ++ ys, rfl, .inl (SqL.of (by rw [upd_same, List.append_nil])), fun z hz => ?_, fun H3 x3 => ?_⟩⟩
          · refine Thing.ext ?_ (Ext.upd hp)
            rcases List.mem_append.mp hz with hz | hz
            · exact th2 z hz
            · exact ((thy z hz).ext x1).ext x2
          · have e : partOf (some xs) (some ys) = wrongOf (xs ++ ys) := if_neg n0
            rw [← e]
            exact q H3 (((x1.trans x2).upd' hp).trans x3)
        | none =>
          refine iteF ?_
          refine ⟨_, rfl, a, xs, rfl, sq2, th2, fun H3 x3 => ?_⟩
          have z := q H3 ((x1.trans x2).trans x3)
          refine ⟨_, rfl, rfl, _, rfl, ?_⟩
          cases hw : wrongOf xs with
          | none =>
            have e : partOf (some xs) none = some xs.length := by
              show (if xs.length = 0 then some 0 else match wrongOf xs with | none => some xs.length | some i => some i) = _
              rw [if_neg n0, hw]
            rw [e] at z
            refine iteT ?_
            exact ⟨_, rfl, _, xs.length, rfl, (sq2.ext x3).elim (fun z => .inl ⟨_, z, rfl⟩) (fun z => .inr ⟨_, z, rfl⟩), z⟩
          | some i =>
            have e : partOf (some xs) none = some i := by
              show (if xs.length = 0 then some 0 else match wrongOf xs with | none => some xs.length | some i => some i) = _
              rw [if_neg n0, hw]
            rw [e] at z
            refine iteF ?_
            exact ⟨_, rfl, z⟩
end
end My

namespace My
open PySem PySem.Spec PyProof.Rows L2
theorem scHInit : FnScope ["self", "folders", "things", "at"] ["self", "folders", "things"] (defScope sHInit) := ⟨rfl, rfl, rfl, by decide +kernel, rfl, by decide +kernel, by decide +kernel⟩
theorem scHLen : FnScope ["self"] ["self"] (defScope sHLen) := ⟨rfl, rfl, rfl, by decide +kernel, rfl, by decide +kernel, by decide +kernel⟩
theorem scHHas : FnScope ["self", "x"] ["self", "x"] (defScope sHHas) := ⟨rfl, rfl, rfl, by decide +kernel, rfl, by decide +kernel, by decide +kernel⟩
theorem scHIter : FnScope ["self"] ["self"] (defScope sHIter) := ⟨rfl, rfl, rfl, by decide +kernel, rfl, by decide +kernel, by decide +kernel⟩
theorem scHEq : FnScope ["self", "other"] ["self", "other"] (defScope sHEq) := ⟨rfl, rfl, rfl, by decide +kernel, rfl, by decide +kernel, by decide +kernel⟩
/-- a house stands at a: its folders, its things -/
def HouseAt (H : Hp) (K : PySem.W.Frag) (C a : Addr) (fo th : List V) : Prop := ∃ dx fs f t n, H a = some (.ins C dx fs) ∧ fs.lookup ("folders" : Str) = some (V.ref f) ∧ fs.lookup ("things" : Str) = some (V.ref t) ∧ fs.lookup ("nodes" : Str) = some (V.ref n) ∧
  SqT K H f fo ∧ SqT K H t th ∧ SqT K H n (fo ++ th)
theorem HouseAt.ext {H H' : Hp} {K : PySem.W.Frag} {C a : Addr} {fo th : List V} (h : HouseAt H K C a fo th) (e : Ext H H') : HouseAt H' K C a fo th := by
  obtain ⟨dx, fs, f, t, n, h1, h2, h3, h4, h5, h6, h7⟩ := h
  exact ⟨dx, fs, f, t, n, e _ _ h1, h2, h3, h4, h5.ext e, h6.ext e, h7.ext e⟩
/-- what the written part says of the class -/
structure HouC (K : PySem.W.Frag) (C : Addr) : Prop where
  cl : Cls K C
  nf : NoAttr K C "folders"
  nt : NoAttr K C "things"
  nn : NoAttr K C "nodes"
  ha : PySem.W.findIn K (.ref C) "__class__" = some (some (.builtin "object.__class__"))
  hn : PySem.W.specialIn K (.builtin "object.__class__") "__get__" = some (some (.builtin "getset_descriptor.__get__"))
  htk : PySem.W.takesIn K (.builtin "object.__class__") = some true
  hm : PySem.W.mroIn K C (.type "object") = some true
/-- all but what stands at a stays -/
def But (H H' : Hp) (a : Addr) : Prop := ∀ b u, b ≠ a → H b = some u → H' b = some u
theorem ext_but {H H' : Hp} {a : Addr} (e : Ext H H') : But H H' a := fun b u _ k => e b u k
theorem But.trans {H H1 H2 : Hp} {a : Addr} (x : But H H1 a) (y : But H1 H2 a) : But H H2 a := fun b u n k => y b u n (x b u n k)
theorem But.upd {H H1 : Hp} {a : Addr} {o : HO} (x : But H H1 a) : But H (L2.upd H1 a o) a := fun b u n k => by
  rw [upd_ne n]
  exact x b u n k
theorem sqT_but {K : PySem.W.Frag} {H H' : Hp} {a C dx f : Addr} {fs : List (Str × V)} {xs : List V} (h : SqT K H f xs) (b : But H H' a) (ha : H a = some (.ins C dx fs)) : SqT K H' f xs := by
  rcases h with (h | ⟨o, h⟩) | h
  · exact .inl (.inl (b _ _ (ne_of h ha (fun z => nomatch z)) h))
  · exact .inl (.inr ⟨o, b _ _ (ne_of h ha (fun z => nomatch z)) h⟩)
  · exact .inr h
theorem sqL_but {K : PySem.W.Frag} {H H' : Hp} {a C dx f : Addr} {fs : List (Str × V)} {xs : List V} (h : SqL K H f xs) (b : But H H' a) (ha : H a = some (.ins C dx fs)) : SqL K H' f xs := by
  rcases h with (h | ⟨o, h⟩) | h
  · exact .inl (.inl (b _ _ (ne_of h ha (fun z => nomatch z)) h))
  · exact .inl (.inr ⟨o, b _ _ (ne_of h ha (fun z => nomatch z)) h⟩)
  · exact .inr h
/-- tuple(a) -/
theorem tup_of {K : PySem.W.Frag} {H : Hp} {a : Addr} {xs : List V} {Q : VK} (sq : SeqAt2 K H a xs) (q : ∀ t H', Ext H H' → SqT K H' t xs → Q (.ref t) H') :
    ∃ p ys, [V.ref a] = [.ref p] ∧ ((SqL K H p ys ∧ ∀ l, H l = none → Q (.ref l) (L2.upd H l (.tup ys))) ∨ (SqT K H p ys ∧ Q (.ref p) H)) := by
  rcases sq with sq | sq
  · exact ⟨a, xs, rfl, .inl ⟨sq, fun l hl => q l _ (Ext.upd hl) (SqT.of upd_same)⟩⟩
  · exact ⟨a, xs, rfl, .inr ⟨sq, q a H Ext.rfl' sq⟩⟩
/-- a + b, tuples -/
theorem cat_of {K : PySem.W.Frag} {H : Hp} {a b : Addr} {xs ys : List V} {Q : VK} (h1 : SqT K H a xs) (h2 : SqT K H b ys) (hz : (xs ++ ys).length ≤ sizeLine) (q : ∀ t H', Ext H H' → SqT K H' t (xs ++ ys) → Q (.ref t) H') : rCatA K (.ref a) (.ref b) H Q := by
  refine ⟨a, b, xs, ys, rfl, rfl, h1, h2, by rw [← List.length_append]; exact hz, fun e => ?_, fun _ e => ?_, fun _ _ p hp => q p _ (Ext.upd hp) (SqT.of upd_same)⟩
  · subst e
    exact q b H Ext.rfl' h2
  · subst e
    exact q a H Ext.rfl' (by rw [List.append_nil]; exact h1)
def rTup (K : PySem.W.Frag) : List V → Hp → VK → Prop := fun xs H Q => ∃ a zs, xs = [.ref a] ∧ SeqAt2 K H a zs ∧ ∀ t H', Ext H H' → SqT K H' t zs → Q (.ref t) H'
theorem call_tup {X : Cx} : CallR X (.type "tuple") (rTup X.K) := by
  intro pins s σ H xs us Q I rv h
  obtain ⟨a, zs, rfl, sq, q⟩ := h
  exact call_tuple_of pins s σ H _ us Q I rv (tup_of sq q)
def rCat (K : PySem.W.Frag) : R2 := fun x y H Q => ∃ a b xs ys, x = .ref a ∧ y = .ref b ∧ SqT K H a xs ∧ SqT K H b ys ∧ (xs ++ ys).length ≤ sizeLine ∧ ∀ t H', Ext H H' → SqT K H' t (xs ++ ys) → Q (.ref t) H'
theorem op_cat {X : Cx} : OpR X (binaryOp .Add) (rCat X.K) := by
  intro pins s σ H x y v u Q I rx ry h
  obtain ⟨a, b, xs, ys, rfl, rfl, h1, h2, hz, q⟩ := h
  exact op_catA pins s σ H _ _ v u Q I rx ry (cat_of h1 h2 hz q)
/-- House.__init__ -/
def spHInit (K : PySem.W.Frag) (C CB : Addr) : Sp := fun vs H Q E => ∃ a dx x y o o', vs = [.ref a, x, y] ∧ H a = some (.ins C dx []) ∧ Lk K H x o ∧ Lk K H y o' ∧ (∀ xs ys, o = some xs → o' = some ys → (xs ++ ys).length ≤ sizeLine) ∧
  (∀ xs ys H', o = some xs → o' = some ys → partOf o o' = none → But H H' a → HouseAt H' K C a xs ys → Q .non H') ∧
  ∀ i d H', partOf o o' = some i → Ext H H' → H d = none → H' d = some (.xd [(("index" : Str), V.int (i : Nat))]) → E (.ref CB) (some d) H'
theorem part_some {o o' : Option (List V)} (h : partOf o o' = none) : ∃ xs ys, o = some xs ∧ o' = some ys := by
  cases o with
  | none => cases h
  | some xs =>
    cases o' with
    | some ys => exact ⟨xs, ys, rfl, rfl⟩
    | none =>
      unfold partOf at h
      split at h
      · cases h
      · rename_i z
        cases z
        split at h
        · cases h
        · split at h
          · rename_i z
            cases z
          · split at h <;> cases h
section
variable {P : Program} {w : World} {K : PySem.W.Frag} {mg : Str → Option Value} {base : Heap} {f fW C CB : Addr} {fd fdW : FuncData} {dvs : List V}
theorem ok_hInit (Fn : FunD K "__init__" "House.__init__" (defArgs sHInit) (defBody sHInit) (defScope sHInit) dvs [] f fd) (T : HouC K C) (FW : FnOk P w K mg base CX0 3 fW fdW ["folders", "things"] (spWrongPart K)) (gW : mg "wrong_part" = some (.ref fW)) (kW : PySem.W.keepIn K (.ref fW) = true) (bW : Binds K fdW ["folders", "things"] [])
    (EB : Er P w K mg base "BadHouse" "index" CB) (gT : mg "tuple" = none) :
    FnOk P w K mg base (L2.CX P w) 4 f fd ["self", "folders", "things"] (spHInit K C CB) := by
  obtain ⟨fI, fdI, TB, FB, bB, _⟩ := EB
  refine Fn.ok scHInit (fun vs H Q E h => ?_) (fun cdv A outer s H vs Q E hr h => ⟨_,
    (pss_cons (ps_set (i := 3) scHInit.nd rfl (.inl rfl) (pe_call FW hr (by rfl) gW kW bW .nil pass0 (pa_cons (pv 1) (pa_cons (pv 2) pa_nil))))
    (pss_cons (ps_if (pt_cmpR op_notN (pv 3) pe_non (nomark _)) (pss_one (ps_raise rfl (takes_of rfl rfl rfl rfl) (pmk_oex TB.oex TB.iC TB.tI FB (hr.mono (by decide)) bB .nil pass0 (by rfl) TB.gl (pa_cons (pv 3) pa_nil)))) pss_nil)
    (pss_cons (ps_fld (pv 0) (pe_callTy call_tup (by rfl) gT (by decide +kernel) (pa_cons (pv 1) pa_nil)) rfl)
    (pss_cons (ps_fld (pv 0) (pe_callTy call_tup (by rfl) gT (by decide +kernel) (pa_cons (pv 2) pa_nil)) rfl)
    (pss_one (ps_fld (pv 0) (pe_op op_cat (pe_fld (pv 0) rfl) (pe_fld (pv 0) rfl)) rfl)))))), ?_⟩)
  · obtain ⟨a, dx, x, y, o, o', rfl, _⟩ := h
    rfl
  · obtain ⟨a, dx, x, y, o, o', rfl, ha, hx, hy, hz, qn, qe⟩ := h
    refine ⟨_, rfl, _, rfl, x, y, o, o', rfl, hx, hy, hz, fun H1 x1 => ?_⟩
    refine ⟨_, rfl, rfl, _, rfl, ?_⟩
    cases hp : partOf o o' with
    | some i =>
      refine iteT ?_
      refine ⟨_, rfl, Nat.le_of_ble_eq_true rfl, fun e he => ?_⟩
      refine ⟨e, _, rfl, upd_same, fun d hd ne => ⟨rfl, d, [("index", optV (some i))], upd_same, ?_, ?_, ?_⟩⟩
      · rw [upd_ne ne, upd_same]
      · rw [upd_ne ne] at hd
        exact hd
      · rw [upd_ne ne] at hd
        refine qe i d _ hp (fun b u k => ?_) ?_ upd_same
        · have k1 := x1 b u k
          rw [upd_ne (ne_of_none k1 hd), del_ne (ne_of_none k1 he), upd_ne (ne_of_none k1 he), upd_ne (ne_of_none k1 hd), upd_ne (ne_of_none k1 he)]
          exact k1
        · cases hh : H d with
          | none => rfl
          | some u => exact absurd (x1 d u hh) (by rw [hd]; exact fun z => nomatch z)
    | none =>
      refine iteF ?_
      obtain ⟨xs, ys, rfl, rfl⟩ := part_some hp
      obtain ⟨ax, rfl, sqx, _⟩ := hx
      obtain ⟨ay, rfl, sqy, _⟩ := hy
      have hz' := hz xs ys rfl rfl
      refine ⟨_, rfl, ax, xs, rfl, sqx.ext x1, fun t2 H2 x2 s2 => ?_⟩
      have a2 : H2 a = some (.ins C dx []) := x2 _ _ (x1 _ _ ha)
      refine ⟨_, rfl, a, C, dx, _, rfl, a2, T.cl, T.nf, Nat.le_of_ble_eq_true rfl, ?_⟩
      obtain ⟨H3, hH3⟩ : ∃ H3, H3 = L2.upd H2 a (.ins C dx (putF "folders" (.ref t2) [])) := ⟨_, rfl⟩
      rw [← hH3]
      have a3 : H3 a = some (.ins C dx (putF "folders" (.ref t2) [])) := by rw [hH3, upd_same]
      have b3 : But H2 H3 a := by
        rw [hH3]
        exact But.upd (ext_but Ext.rfl')
      have b03 : But H H3 a := (ext_but (x1.trans x2)).trans b3
      have sqy3 : SeqAt2 K H3 ay ys := sqy.elim (fun z => .inl (sqL_but z b03 ha)) fun z => .inr (sqT_but z b03 ha)
      refine ⟨_, rfl, ay, ys, rfl, sqy3, fun t4 H4 x4 s4 => ?_⟩
      refine ⟨_, rfl, a, C, dx, _, rfl, x4 _ _ a3, T.cl, T.nt, Nat.le_of_ble_eq_true rfl, ?_⟩
      obtain ⟨H5, hH5⟩ : ∃ H5, H5 = L2.upd H4 a (.ins C dx (putF "things" (.ref t4) (putF "folders" (.ref t2) []))) := ⟨_, rfl⟩
      rw [← hH5]
      have a5 : H5 a = some (.ins C dx (putF "things" (.ref t4) (putF "folders" (.ref t2) []))) := by rw [hH5, upd_same]
      have b5 : But H4 H5 a := by
        rw [hH5]
        exact But.upd (ext_but Ext.rfl')
      have s2' : SqT K H5 t2 xs := sqT_but (sqT_but s2 (b3.trans (ext_but x4)) a2) b5 (x4 _ _ a3)
      have s4' : SqT K H5 t4 ys := sqT_but s4 b5 (x4 _ _ a3)
      refine ⟨_, rfl, a, C, dx, _, _, rfl, a5, T.cl, T.nf, rfl, _, rfl, a, C, dx, _, _, rfl, a5, T.cl, T.nt, rfl, t2, t4, xs, ys, rfl, rfl, s2', s4', hz', fun t6 H6 x6 s6 => ?_⟩
      refine ⟨_, rfl, a, C, dx, _, rfl, x6 _ _ a5, T.cl, T.nn, Nat.le_of_ble_eq_true rfl, ?_⟩
      obtain ⟨H7, hH7⟩ : ∃ H7, H7 = L2.upd H6 a (.ins C dx (putF "nodes" (.ref t6) (putF "things" (.ref t4) (putF "folders" (.ref t2) [])))) := ⟨_, rfl⟩
      rw [← hH7]
      have b7 : But H6 H7 a := by
        rw [hH7]
        exact But.upd (ext_but Ext.rfl')
      have a6 := x6 _ _ a5
      refine qn xs ys H7 rfl rfl hp (((b03.trans (ext_but x4)).trans b5).trans ((ext_but x6).trans b7)) ?_
      exact ⟨dx, _, t2, t4, t6, by rw [hH7, upd_same], rfl, rfl, rfl, sqT_but (s2'.ext x6) b7 a6, sqT_but (s4'.ext x6) b7 a6, sqT_but s6 b7 a6⟩
end
end My

namespace PySem
namespace MyN
open PySem.W Builtin PySem.SeqAt PySem.MeetsSeq MeetsSeq2
open AutoSeq1 (wpAny_loadPart')
/-- str.__eq__ with an object that holds no text -/
theorem str_no_plain (b : Str) (u : Tok) (l : Addr) (ob : Obj) (hd : ob.data = .plain) :
    Meets (Builtin.«str.__eq__» ⟨[.str b u, .ref l], []⟩) (fun _ R s => s.heap.get? l = some ob ∧ R (.ok (.ret .notImplemented)) s) :=
  .of_wp fun P1 w1 A1 R1 s1 z => by
    obtain ⟨hp, gs, dr, tk, oz⟩ := s1
    obtain ⟨z1, z2⟩ := z
    obtain ⟨oc, od, dt, sl⟩ := ob
    simp only at hd
    subst hd
    wp_walk using wpAny_loadPart' z1, wpAny_load z1
    exact ⟨_, rfl, z2⟩
theorem str_no_dict (b : Str) (u : Tok) (l : Addr) (ob : Obj) (es : Array DictEntry) (ep : Nat) (hd : ob.data = .dict es ep) :
    Meets (Builtin.«str.__eq__» ⟨[.str b u, .ref l], []⟩) (fun _ R s => s.heap.get? l = some ob ∧ R (.ok (.ret .notImplemented)) s) :=
  .of_wp fun P1 w1 A1 R1 s1 z => by
    obtain ⟨hp, gs, dr, tk, oz⟩ := s1
    obtain ⟨z1, z2⟩ := z
    obtain ⟨oc, od, dt, sl⟩ := ob
    simp only at hd
    subst hd
    wp_walk using wpAny_loadPart' z1, wpAny_load z1
    exact ⟨_, rfl, z2⟩
/-- dict.__eq__ with a text -/
theorem dict_no_str (b : Str) (u : Tok) (l : Addr) (ob : Obj) (hc : ob.cls = .type "dict") :
    Meets (Builtin.«dict.__eq__» ⟨[.ref l, .str b u], []⟩) (fun _ R s => s.heap.get? l = some ob ∧ R (.ok (.ret .notImplemented)) s) :=
  .of_wp fun P1 w1 A1 R1 s1 z => by
    obtain ⟨hp, gs, dr, tk, oz⟩ := s1
    obtain ⟨z1, z2⟩ := z
    obtain ⟨oc, od, dt, sl⟩ := ob
    simp only at hc
    subst hc
    have f1 := F.sub_str_dict
    wp_walk using wpAny_loadPart' z1, wpAny_load z1
    exact ⟨_, rfl, z2⟩
theorem eq_str_dict {A : Around} {s : Shared} {l : Addr} {ob : Obj} {es : Array DictEntry} {ep : Nat} (b : Str) (u : Tok) (hl : s.heap.get? l = some ob) (hc : ob.cls = .type "dict") (hd : ob.data = .dict es ep) (hu : A.units < cLine) : EqAt A s (.str b u) (.ref l) false := fun prog w E Q h => by
  unfold eqBool
  refine wpAny_holding ?_
  refine wpAny_ite_split (fun hab => absurd (eq_of_beq hab) nofun) (fun _ => ?_)
  refine wpAny_bind (rc_eq_decline_or (k := false) (typeIs_str s b u) ⟨_, hl, hc⟩ (by decide) F.sub_dict_str F.slot_str_eq F.slot_dict_eq_refl
    (fun _ hq => call_meets F.slot_str_eq (typeIs_str s b u) F.entry_str_eq (F.args_str_eq_2 _ _) (str_no_dict b u l ob es ep hd) ⟨hl, hq⟩)
    (fun _ hq => call_meets F.slot_dict_eq_refl ⟨_, hl, hc⟩ F.entry_dict_eq (F.args_dict_eq_2 _ _) (dict_no_str b u l ob hc) ⟨hl, hq⟩)
    (fun _ hq => wpAny_of_eq (rfl : isSame (.str b u) (.ref l) = pure false) hq) (.inr hu) (wpAny_truthy_bool h))
section
variable {prog : Program} {w : World} {A : Around} {E : Value → Shared → Prop} {s : Shared} {K : Frag} {x C f : Addr} {ox : Obj} {od : Option Obj}
/-- text == x, x an instance with its own __eq__: that one is asked -/
theorem eqb_str_own {b : Str} {u : Tok} {Q : Bool → Shared → Prop} (hu : A.units < cLine) (X : K.In s.heap) (I : InstAt s.heap x ox C od) (hp : ox.data = .plain) (nf : subIn K (.ref C) (.type "str") = some false)
    (hs : findIn K (.ref C) "__eq__" = some (some (.ref f))) (hf : isFn K (.ref f) = true)
    (h : wpAny (model prog w) A (call (.ref f) [.ref x, .str b u]) (fun r s' => ∃ k, r = .bool k ∧ Q k s') E s) : wpAny (model prog w) A (eqBool (.str b u) (.ref x)) Q E s := by
  have hx : s.heap.get? x = some ox := I.1
  have one : wpAny (model prog w) A (tryCompare (.ref x) "__eq__" (.str b u)) (fun r s' => ∃ k, r = some (.bool k) ∧ Q k s') E s := by
    unfold tryCompare
    refine wpAny_bind (ifBound_K X I hs hf (wpAny_mono h (fun v s' hv => ?_) fun _ _ e => e))
    obtain ⟨k, rfl, q⟩ := hv
    exact wpAny_pure ⟨k, rfl, q⟩
  unfold eqBool
  refine wpAny_holding ?_
  refine wpAny_ite_split (fun hab => absurd (eq_of_beq hab) nofun) (fun _ => ?_)
  refine wpAny_bind ?_
  have z := (typeIs_str s b u)
  simp only [richCompare, z.oneThing_none]
  refine wpAny_holding (wpAny_bind (wpAny_cRoomFor_or (.inr hu) ?_))
  refine wpAny_bind (wpAny_typeOf z (wpAny_bind (I.type.here ?_)))
  have ne : (Value.type "str" != Value.ref C) = true := rfl
  simp only [ne, if_true]
  refine wpAny_bind ((looks_subIn X nf).here ?_)
  simp only [Bool.false_eq_true, if_false, Bool.not_false, if_true]
  refine wpAny_bind (m := tryCompare (.str b u) _ (.ref x)) (wpAny_tryCompare_declines z F.slot_str_eq (call_meets F.slot_str_eq z F.entry_str_eq (F.args_str_eq_2 _ _) (str_no_plain b u x ox hp) ⟨hx, rfl, ?_⟩))
  refine wpAny_bind (m := tryCompare (.ref x) _ (.str b u)) (wpAny_mono one (fun r s' hr => ?_) fun _ _ e => e)
  obtain ⟨k, rfl, q⟩ := hr
  exact wpAny_pure (wpAny_truthy_bool q)
/-- x in a tuple, none of the items is equal to x; I stands all along -/
theorem in_none {l : Addr} {items : Array Value} {y : Value} {Q : Value → Shared → Prop} (J : Shared → Prop) (hl : s.heap.IsTuple l items)
    (turn : ∀ v, v ∈ items → ∀ s', J s' → wpAny (model prog w) A.in1 (eqBool v y) (fun r s2 => r = false ∧ J s2) E s') (fin : ∀ s', J s' → Q (.bool false) s') (h : J s) :
    wpAny (model prog w) A (compareOp .In y (.ref l)) Q E s := by
  obtain ⟨⟨cls, dd, data, sl⟩, ho, hc, n, hd⟩ := id hl
  simp only at hc hd
  subst hc hd
  have hT : s.TypeIs (.ref l) "tuple" := ⟨_, ho, rfl⟩
  have body : wpAny (model prog w) A (call (.builtin "tuple.__contains__") [.ref l, y]) (fun v s' => v = .bool false ∧ J s') E s := by
    refine GQ.call_here F.slot_tuple_contains hT F.entry_tuple_contains (F.args_tuple_contains_2 _ _) ?_
    obtain ⟨hp, gs, dr, tk, oz⟩ := s
    have go : ∀ v, v ∈ items.toList → ∀ s', J s' → wpAny (model prog w) A.in1 (eqBool v y) (fun r s2 => r = false ∧ J s2) (fun e s' => wants (fun v s' => v = Value.bool false ∧ J s') E (.error e) s') s' := fun v hv s' hj => turn v (by simpa using hv) s' hj
    wp_walk using wpAny_loadPart' ho, wpAny_forIn_array _ (fun rest b s' => b.1 = none ∧ (∀ v, v ∈ rest → v ∈ items.toList) ∧ J s') _
    case turn =>
      rintro v rest b s' ⟨hb, hmem, hJ⟩
      refine wpAny_bind (wpAny_mono (go v (hmem v (List.mem_cons_self ..)) s' hJ) (fun r s2 q => ?_) fun _ _ e => e)
      obtain ⟨rfl, hJ2⟩ := q
      wp_walk
      exact ⟨rfl, fun z hz => hmem z (List.mem_cons_of_mem _ hz), hJ2⟩
    case fin =>
      rintro ⟨b1, b2⟩ s' ⟨hb, -, hJ⟩
      simp only at hb
      subst hb
      wp_walk
      exact ⟨rfl, hJ⟩
    case h =>
      exact ⟨rfl, fun v hv => by simpa using hv, h⟩
  show wpAny _ A (do return .bool (← contains (.ref l) y)) Q E s
  refine wpAny_bind (wpAny_contains_slot hT F.slot_tuple_contains (wpAny_mono body (fun v s' hv => ?_) fun _ _ e => e))
  obtain ⟨rfl, hJ⟩ := hv
  exact wpAny_truthy_bool (wpAny_pure (fin s' hJ))
end
end MyN
end PySem

namespace L2
open PySem PySem.Spec PyProof.Rows
section
variable {X : Cx} {CI : CXT} {f : Addr} {fd : FuncData} {ps : List Str} {sp : Sp} {EI : XK} {n : Nat} {C : Addr}
/-- a list, a tuple or a dict -/
def NoText (K : PySem.W.Frag) (H : Hp) (x : V) : Prop := (∃ a xs, x = .ref a ∧ (SqL K H a xs ∨ SqT K H a xs)) ∨ ∃ a kvs, x = .ref a ∧ H a = some (.dK kvs)
theorem NoText.eqAt {pins : List (Addr × Obj)} {σ : St} {H : Hp} {s : Shared} {A : Around} {x : V} {u : Value} (I : Inv X pins σ H s) (rx : RelV x u) (h : NoText X.K H x) (hu : A.units < cLine) (b : Str) (t : Tok) : SeqAt.EqAt A s (.str b t) u false := by
  rcases h with ⟨a, xs, rfl, h | h⟩ | ⟨a, kvs, rfl, h⟩
  · cases rx
    obtain ⟨its, r, pl, _⟩ := I.list h
    exact SeqAt.EqAt.str_list b t pl.isList hu
  · cases rx
    obtain ⟨its, r, pl, _⟩ := I.tuple h
    exact SeqAt.EqAt.str_tuple b t (show s.heap.IsTuple a its.toArray from pl) hu
  · cases rx
    obtain ⟨_, _, vs, _, o, es, ep, h1, h2, h3, _⟩ := (show ObjOk X.prog X.w H s.heap a (.dK kvs) from I.hok a _ h)
    exact MyN.eq_str_dict b t h1 h2.1 h3 hu
theorem vals_str : ∀ {zs : List Str} {us : List Value}, Vals (zs.map V.str) us → ∀ u ∈ us, ∃ z t, z ∈ zs ∧ u = .str z t
  | [], _, .nil, u, hu => by cases hu
  | z :: zs, _, .cons r t, u, hu => by
    rcases List.mem_cons.mp hu with rfl | hu
    · obtain ⟨t, e⟩ := r
      exact ⟨z, t, List.mem_cons_self, e⟩
    · obtain ⟨z', t', h1, h2⟩ := vals_str t u hu
      exact ⟨z', t', List.mem_cons_of_mem _ h1, h2⟩
/-- x in a tuple of texts, x a list, a tuple, a dict -/
def rInN (K : PySem.W.Frag) : R2 := fun x y H Q => ∃ (p : Addr) (zs : List Str), y = .ref p ∧ SqT K H p (zs.map V.str) ∧ NoText K H x ∧ Q (.bl false) H
theorem op_inN (hu : X.A.units + 1 < cLine) : OpR X (compareOp .In) (rInN X.K) := by
  intro pins s σ H x y v u Q I rx ry h
  obtain ⟨p, zs, rfl, hq, nt, q⟩ := h
  cases ry
  obtain ⟨its, r, pl, hz⟩ := I.tuple hq
  refine SeqAt.in_tupleAt (fun _ => false) (show s.heap.IsTuple p its.toArray from pl) (fun w hw => ?_) ⟨.bl _, H, I, rfl, ?_⟩
  · obtain ⟨z, t, _, rfl⟩ := vals_str r w (by simpa using hw)
    exact nt.eqAt I rx (show X.A.in1.units < cLine from hu) z t
  · rw [show its.toArray.any (fun _ => false) = false by simp]
    exact q
/-- x in a tuple of texts, x an instance with its own == that gives False for them -/
def rInI (K : PySem.W.Frag) (C : Addr) (sp : Sp) (E : XK) : R2 := fun x y H Q => ∃ (p : Addr) (zs : List Str) (a dx : Addr) (fs : List (Str × V)), y = .ref p ∧ SqT K H p (zs.map V.str) ∧ x = .ref a ∧ H a = some (.ins C dx fs) ∧
  (∀ z H1, z ∈ zs → Ext H H1 → sp [.ref a, .str z] H1 (fun v H2 => v = .bl false ∧ Ext H1 H2) E) ∧ ∀ H', Ext H H' → Q (.bl false) H'
theorem op_inI (hr : Room (n + 1) X.A) (M : OwnM X.K C "__eq__" f) (nf : PySem.W.subIn X.K (.ref C) (.type "str") = some false) (F : FnOk X.prog X.w X.K X.mg X.base CI n f fd ps sp) (hb : Binds X.K fd ps []) (hx : Passes CI X EI) : OpR X (compareOp .In) (rInI X.K C sp EI) := by
  intro pins s σ H x y v u Q I rx ry h
  obtain ⟨p, zs, a, dx, fs, rfl, hq, rfl, ha, hsp, q⟩ := h
  cases ry
  cases rx
  obtain ⟨its, r, pl, hz⟩ := I.tuple hq
  have sb : Sub X n X.A.in1 := Sub.in1 (⟨hr, rfl⟩ : Sub X (n + 1) X.A)
  refine MyN.in_none (fun s' => ∃ H', Inv X pins σ H' s' ∧ Ext H H') (show s.heap.IsTuple p its.toArray from pl) (fun w hw s' hJ => ?_) (fun s' hJ => ?_) ⟨H, I, Ext.rfl'⟩
  · obtain ⟨z, t, hz, rfl⟩ := vals_str r w (by simpa using hw)
    obtain ⟨H', I', x'⟩ := hJ
    have ha' := x' _ _ ha
    obtain ⟨mA, J, _⟩ := ins_get I'.hok ha'
    obtain ⟨od, J, _⟩ := J.look
    refine MyN.eqb_str_own sb.room.units0 I'.kIn J rfl nf M.at_ M.fn ?_
    refine wpAny_mono (run_sub sb F (envSub I' sb) hb hx I' (rv2 a (y := .str z) (u := .str z t) ⟨t, rfl⟩) (hsp z H' hz x')) (fun w2 s2 hq2 => ?_) fun _ _ z => z
    obtain ⟨y2, H2, I2, rz, rfl, x2⟩ := hq2
    cases rz
    exact ⟨false, rfl, rfl, H2, I2, x'.trans x2⟩
  · obtain ⟨H', I', x'⟩ := hJ
    exact ⟨.bl false, H', I', rfl, q H' x'⟩
end
end L2

namespace My
open PySem PySem.Spec PyProof.Rows L2
/-! ### tuples and lists of texts as data -/
theorem dpAll_str {K : PySem.W.Frag} {H : Hp} : ∀ zs : List Str, DpAll K H (zs.map V.str) (zs.map PyData.str)
  | [] => .nil
  | z :: zs => .cons (.str z) (dpAll_str zs)
def OkS (zs : List Str) : Prop := ∀ z, z ∈ zs → PyData.strOk z = true
theorem canLay_str : ∀ zs : List Str, OkS zs → PyData.canLayAll0 (zs.map PyData.str) = true
  | [], _ => rfl
  | z :: zs, h => by
    show (PyData.strOk z && PyData.canLayAll0 (zs.map PyData.str)) = true
    rw [canLay_str zs fun y hy => h y (List.mem_cons_of_mem _ hy), h z List.mem_cons_self]
    rfl
theorem depths_str : ∀ zs : List Str, PyData.depthAll (zs.map PyData.str) ≤ 1
  | [] => Nat.zero_le _
  | z :: zs => Nat.max_le.mpr ⟨Nat.le_of_ble_eq_true rfl, depths_str zs⟩
theorem shaped_strT (zs : List Str) (h0 : OkS zs) : SeqAt.shaped (.tuple (zs.map PyData.str)) = true := by
  refine Bool.and_eq_true_iff.mpr ⟨canLay_str zs h0, decide_eq_true ?_⟩
  have h := depths_str zs
  show PyData.depthAll (zs.map PyData.str) + 1 ≤ 64
  omega
theorem shaped_strL (zs : List Str) (h0 : OkS zs) : SeqAt.shaped (.list (zs.map PyData.str)) = true := by
  refine Bool.and_eq_true_iff.mpr ⟨canLay_str zs h0, decide_eq_true ?_⟩
  have h := depths_str zs
  show PyData.depthAll (zs.map PyData.str) + 1 ≤ 64
  omega
theorem eqvAll_str : ∀ zs ws : List Str, PyData.eqvAll (zs.map PyData.str) (ws.map PyData.str) = decide (zs = ws)
  | [], [] => rfl
  | [], _ :: _ => rfl
  | _ :: _, [] => rfl
  | z :: zs, w :: ws => by
    show (PyData.eqv (.str z) (.str w) && PyData.eqvAll (zs.map PyData.str) (ws.map PyData.str)) = _
    rw [eqvAll_str zs ws]
    show ((z == w) && decide (zs = ws)) = _
    by_cases h : z = w
    · subst h
      simp
    · simp [h]
theorem eqv_strT (zs ws : List Str) : PyData.eqv (.tuple (zs.map PyData.str)) (.tuple (ws.map PyData.str)) = decide (zs = ws) := eqvAll_str zs ws
/-- a house of names -/
def Hou (H : Hp) (K : PySem.W.Frag) (C a : Addr) (fo th : List Str) : Prop := HouseAt H K C a (fo.map V.str) (th.map V.str) ∧ OkS fo ∧ OkS th
theorem Hou.ext {H H' : Hp} {K : PySem.W.Frag} {C a : Addr} {fo th : List Str} (h : Hou H K C a fo th) (e : Ext H H') : Hou H' K C a fo th := ⟨HouseAt.ext h.1 e, h.2⟩
theorem Hou.ins {H : Hp} {K : PySem.W.Frag} {C a : Addr} {fo th : List Str} (h : Hou H K C a fo th) : ∃ dx fs, H a = some (.ins C dx fs) := by
  obtain ⟨⟨dx, fs, _, _, _, h1, _⟩, _⟩ := h
  exact ⟨dx, fs, h1⟩
def spHLen (K : PySem.W.Frag) (C : Addr) : Sp := fun vs H Q _ => ∃ a fo th, vs = [.ref a] ∧ Hou H K C a fo th ∧ Q (.int ((fo ++ th).length : Nat)) H
def spHEq (K : PySem.W.Frag) (C : Addr) : Sp := fun vs H Q _ => ∃ a fo th y, vs = [.ref a, y] ∧ Hou H K C a fo th ∧ ((∃ t, TyX K H y t ∧ PySem.W.kitOne K t (.ref C) = some false ∧ Q (.bl false) H) ∨
  ∃ b fo2 th2, y = .ref b ∧ Hou H K C b fo2 th2 ∧ Q (.bl (decide (fo = fo2) && decide (th = th2))) H)
def spHHas (K : PySem.W.Frag) (C : Addr) : Sp := fun vs H Q _ => ∃ a fo th y, vs = [.ref a, y] ∧ Hou H K C a fo th ∧ ((flatV y = true ∧ Q (.bl (inV y ((fo ++ th).map V.str))) H) ∨ (NoText K H y ∧ Q (.bl false) H) ∨
  ∃ b fo2 th2, y = .ref b ∧ Hou H K C b fo2 th2 ∧ ∀ H', Ext H H' → Q (.bl false) H')
theorem tyH {K : PySem.W.Frag} {H : Hp} {C a : Addr} {fo th : List Str} (T : HouC K C) (h : Hou H K C a fo th) : TyX K H (.ref a) (.ref C) := by
  obtain ⟨dx, fs, e⟩ := h.ins
  exact .base (.ins e T.cl T.ha T.hn T.htk T.hm)
section
variable {P : Program} {w : World} {K : PySem.W.Frag} {mg : Str → Option Value} {base : Heap} {f fE C : Addr} {fd fdE : FuncData}
theorem ok_hLen (Fn : FunD K "__len__" "House.__len__" (defArgs sHLen) (defBody sHLen) (defScope sHLen) [] [] f fd) (T : HouC K C) (gN : mg "len" = none) : FnOk P w K mg base CX0 1 f fd ["self"] (spHLen K C) := by
  refine Fn.ok scHLen (fun vs H Q E h => ?_) (fun cdv A outer s H vs Q E hr h => ⟨_, PSs.nox (pss_one (ps_ret (pe_callB call_len (by rfl) gN boot_len (pa_cons (pe_fld (pv 0) rfl) pa_nil)))), ?_⟩)
  · obtain ⟨a, fo, th, rfl, _⟩ := h
    rfl
  · obtain ⟨a, fo, th, rfl, ⟨⟨dx, fs, f, t, n, h1, h2, h3, h4, h5, h6, h7⟩, ok1, ok2⟩, q⟩ := h
    refine ⟨_, rfl, a, C, dx, fs, _, rfl, h1, T.cl, T.nn, h4, _, _, rfl, .inr ⟨_, h7, rfl⟩, ?_⟩
    rw [← List.map_append, List.length_map]
    exact q
theorem ok_hIter (Fn : FunD K "__iter__" "House.__iter__" (defArgs sHIter) (defBody sHIter) (defScope sHIter) [] [] f fd) (T : HouC K C) (gI : mg "iter" = none) : FnOk P w K mg base CX0 1 f fd ["self"] (spIter K C "nodes" base.objs.size) := by
  refine Fn.ok scHIter (fun vs H Q E h => ?_) (fun cdv A outer s H vs Q E hr h => ⟨_, PSs.nox (pss_one (ps_ret (pe_callB call_iterT (by rfl) gI boot_iter (pa_cons (pe_fld (pv 0) rfl) pa_nil)))), ?_⟩)
  · obtain ⟨a, _, _, _, _, rfl, _⟩ := h
    rfl
  · obtain ⟨a, dx, fs, l, zs, rfl, h1, h2, h3, q⟩ := h
    exact ⟨_, rfl, a, C, dx, fs, _, rfl, h1, T.cl, T.nn, h2, l, zs, rfl, h3, q⟩
theorem ok_hEq (Fn : FunD K "__eq__" "House.__eq__" (defArgs sHEq) (defBody sHEq) (defScope sHEq) [] [] f fd) (T : HouC K C) (gI : mg "isinstance" = none) (gH : mg "House" = some (.ref C)) (kC : PySem.W.kitOne K (.ref C) (.ref C) = some true) :
    FnOk P w K mg base CX0 1 f fd ["self", "other"] (spHEq K C) := by
  refine Fn.ok scHEq (fun vs H Q E h => ?_) (fun cdv A outer s H vs Q E hr h => ⟨_, PSs.nox (pss_one (ps_ret
    (pe_and (pe_callB call_isi (by rfl) gI boot_isinstance (pa_cons (pv 1) (pa_cons (pe_glob (v := .ref C) (by rfl) gH rfl) pa_nil)))
    (pe_and (pe_cmpR (op_eqD hr.units) (pe_fld (pv 0) rfl) (pe_fld (pv 1) rfl) (nomark _))
    (pe_one (pe_cmpR (op_eqD hr.units) (pe_fld (pv 0) rfl) (pe_fld (pv 1) rfl) (nomark _))))))), ?_⟩)
  · obtain ⟨a, _, _, _, rfl, _⟩ := h
    rfl
  · obtain ⟨a, fo, th, y, rfl, ho, h⟩ := h
    rcases h with ⟨t, ty, kt, q⟩ | ⟨b, fo2, th2, rfl, ho2, q⟩
    · refine ⟨_, rfl, y, .ref C, t, .ref C, false, rfl, .own C, ty, kt, false, rfl, ?_⟩
      exact q
    · refine ⟨_, rfl, .ref b, .ref C, .ref C, .ref C, true, rfl, .own C, tyH T ho2, kC, true, rfl, ?_⟩
      refine iteT ?_
      obtain ⟨⟨dx, fs, f, t, n, h1, h2, h3, h4, h5, h6, h7⟩, ok1, ok2⟩ := ho
      obtain ⟨⟨dx', fs', f', t', n', g1, g2, g3, g4, g5, g6, g7⟩, pk1, pk2⟩ := ho2
      refine ⟨_, rfl, a, C, dx, fs, _, rfl, h1, T.cl, T.nf, h2, _, rfl, b, C, dx', fs', _, rfl, g1, T.cl, T.nf, g2, _, _, .tup h5 (dpAll_str fo), .tup g5 (dpAll_str fo2), shaped_strT fo ok1, shaped_strT fo2 pk1, _, rfl, ?_⟩
      rw [eqv_strT]
      refine ite2 (fun e => ?_) (fun e => ?_)
      · refine ⟨_, rfl, a, C, dx, fs, _, rfl, h1, T.cl, T.nt, h3, _, rfl, b, C, dx', fs', _, rfl, g1, T.cl, T.nt, g3, _, _, .tup h6 (dpAll_str th), .tup g6 (dpAll_str th2), shaped_strT th ok2, shaped_strT th2 pk2, ?_⟩
        rw [eqv_strT]
        rw [e, Bool.true_and] at q
        exact q
      · have e' : decide (fo = fo2) = false := by simpa using e
        rw [e', Bool.false_and] at q
        exact q
theorem ok_hHas (Fn : FunD K "__contains__" "House.__contains__" (defArgs sHHas) (defBody sHHas) (defScope sHHas) [] [] f fd) (T : HouC K C) (nf : PySem.W.subIn K (.ref C) (.type "str") = some false) (Me : OwnM K C "__eq__" fE)
    (FE : FnOk P w K mg base CX0 1 fE fdE ["self", "other"] (spHEq K C)) (bE : Binds K fdE ["self", "other"] []) (kS : PySem.W.kitOne K (.type "str") (.ref C) = some false) : FnOk P w K mg base CX0 3 f fd ["self", "x"] (spHHas K C) := by
  refine Fn.ok scHHas (fun vs H Q E h => ?_) (fun cdv A outer s H vs Q E hr h => ⟨_, PSs.nox (pss_one (ps_ret
    (pe_cmpR (OpR.or op_in_seq (OpR.or (op_inN (Nat.lt_of_le_of_lt (Nat.add_le_add_left (by decide : 1 ≤ 64) _) hr.units)) (op_inI (EI := E0) hr Me nf FE bE pass0))) (pv 1) (pe_fld (pv 0) rfl) (by rfl)))), ?_⟩)
  · obtain ⟨a, _, _, _, rfl, _⟩ := h
    rfl
  · obtain ⟨a, fo, th, y, rfl, ho, h⟩ := h
    have ho' := ho
    obtain ⟨⟨dx, fs, f, t, n, h1, h2, h3, h4, h5, h6, h7⟩, ok1, ok2⟩ := ho
    rw [← List.map_append] at h7
    refine ⟨_, rfl, _, rfl, a, C, dx, fs, _, rfl, h1, T.cl, T.nn, h4, ?_⟩
    rcases h with ⟨fy, q⟩ | ⟨ny, q⟩ | ⟨b, fo2, th2, rfl, ho2, q⟩
    · exact .inl ⟨n, _, rfl, .inr h7, fy, by rw [List.all_map]; exact List.all_eq_true.mpr fun _ _ => rfl, q⟩
    · exact .inr (.inl ⟨n, fo ++ th, rfl, h7, ny, q⟩)
    · obtain ⟨dx', fs', g1⟩ := ho2.ins
      refine .inr (.inr ⟨n, fo ++ th, b, dx', fs', rfl, h7, rfl, g1, fun z H1 _ x1 => ?_, q⟩)
      exact ⟨b, fo2, th2, .str z, rfl, ho2.ext x1, .inl ⟨_, .base (.str z), kS, rfl, Ext.rfl'⟩⟩
end
end My

namespace L2
open PySem PySem.Spec PyProof.Rows
/-- C(..) where __init__ may raise, wished for at the caller's slots -/
def tMakeS (C : Addr) (sp : Sp) (ws : List V) (W : L2.St → XK) (t : TA) : TE := fun σ H Q => t σ H fun vs H1 => ∀ x dx, H1 x = none → H1 dx = none → dx ≠ x →
  sp (.ref x :: (vs ++ ws)) (upd (upd H1 dx (.own x)) x (.ins C dx [])) (fun v H2 => v = .non ∧ Q (.ref x) H2) (W σ)
section
variable {X : Cx} {CI : CXT} {n : Nat} {fI C : Addr} {fd : FuncData} {ps : List Str} {sp : Sp} {ws : List V} {wu : List Value} {W : L2.St → XK} {x : Str} {p pos : Pos} {e : Expr} {es : List Expr} {t : TA}
theorem make_sub {pins : List (Addr × Obj)} {σ : L2.St} {H : Hp} {s : Shared} {Q : VK} {us : List Value} {vs : List V} {EW : XK} (M : Mk X.K C fI) (Fi : FnOk X.prog X.w X.K X.mg X.base CI n fI fd ps sp) (room : Room (n + 1) X.A)
    (bi : Binds X.K fd ps wu) (rw' : Vals ws wu) (let_ : PassesAt CI X σ EW) (I : Inv X pins σ H s) (rv : Vals vs us)
    (go : ∀ y dy, H y = none → H dy = none → dy ≠ y → sp (.ref y :: (vs ++ ws)) (upd (upd H dy (.own y)) y (.ins C dy [])) (fun v H2 => v = .non ∧ Q (.ref y) H2) EW) :
    wpAny (model X.prog X.w) X.A (call (.ref C) us) (EP X pins σ Q) X.xe s := by
  have want := go (s.heap.objs.size + 1) s.heap.objs.size (I.hok.fresh (Nat.le_succ _)) (I.hok.fresh (Nat.le_refl _)) (Nat.ne_of_lt (Nat.lt_succ_self _))
  have J := Inv.made (C := C) I
  have all : Vals (V.ref (s.heap.objs.size + 1) :: (vs ++ ws)) (Value.ref (s.heap.objs.size + 1) :: (us ++ wu)) := .cons rfl (rv.append rw')
  have many : (Value.ref (s.heap.objs.size + 1) :: us ++ wu).length = ps.length := all.length.symm.trans (Fi.len _ _ _ _ want)
  have ran := Fi.run _ X.stack _ _ ⟨Value.ref (s.heap.objs.size + 1) :: us, []⟩ _ _ _ EW (room.make C us []) (J.env0.make C us []) (bi _ _ J.kIn many) all want
  refine wpAny_call (make_map (f := fI) I.kIn M.makes M.init (beq_iff_eq.mp M.fn) (codeAny_mono ran ?_))
  rintro (er | fl) s' back
  · exact let_ pins _ _ er s' J back
  · cases fl with
    | ret u =>
      obtain ⟨v, H', J', ru, ⟨ev, q⟩⟩ := J.after back
      subst ev
      exact ⟨ru, .ref _, H', J', rfl, q⟩
    | next => exact back.elim
    | brk => exact back.elim
    | cont => exact back.elim
theorem pe_makeS (M : Mk X.K C fI) (Fi : FnOk X.prog X.w X.K X.mg X.base CI n fI fd ps sp) (room : Room (n + 1) X.A) (gl : Gl X x) (gm : X.mg x = some (.ref C)) (bi : Binds X.K fd ps wu) (rw' : Vals ws wu) (let_ : ∀ σ, PassesAt CI X σ (W σ))
    (ha : PA X (e :: es) t) (nd : (x == ("__debug__" : Str)) = false := by decide) (h1 : starEach (e :: es) X.env = (false, eval e X.env) :: starEach es X.env := by rfl) (h2 : (backTo pos (starEach es X.env)).any (·.1) = false := by rfl) :
    PE X (.Call (.Name x p) (e :: es) [] pos) (tMakeS C sp ws W t) :=
  ⟨fun pins s σ H Q I h => wpAny_Call_Name_kw (ld_glob I gl gm (PySem.W.callWith_K (h₀ := X.base) I.ok.mod.kin M.kp (thn (ha.run pos pins s σ H _ I h) fun _ _ ⟨_, _, I1, r, q⟩ => ⟨I1.kIn, make_sub M Fi room bi rw' (let_ σ) I1 r q⟩) h1 h2) nd)⟩
end
end L2

namespace L2
open PySem PySem.Spec PyProof.Rows
/-- a dict == a text -/
def rEqDS : R2 := fun x y H Q => ∃ a kvs z, x = .ref a ∧ y = .str z ∧ H a = some (.dK kvs) ∧ Q (.bl false) H
theorem op_eqDS {X : Cx} (hu : X.A.units < cLine) : OpR X (compareOp .Eq) rEqDS := by
  intro pins s σ H x y v u Q I rx ry h
  obtain ⟨a, kvs, z, rfl, rfl, ha, q⟩ := h
  cases rx
  obtain ⟨t, rfl⟩ := ry
  obtain ⟨_, _, vs, _, o, es, ep, h1, h2, h3, _⟩ := (show ObjOk X.prog X.w H s.heap a (.dK kvs) from I.hok a _ ha)
  show wpAny _ _ (richCompare .Eq (.ref a) (.str z t)) _ _ s
  exact SeqAt.rc_eq_decline_or (k := false) ⟨_, h1, h2.1⟩ (PySem.typeIs_str s z t) (by decide) F.sub_str_dict F.slot_dict_eq F.slot_str_eq_refl
    (fun _ hq => call_meets F.slot_dict_eq ⟨_, h1, h2.1⟩ F.entry_dict_eq (F.args_dict_eq_2 _ _) (MyN.dict_no_str z t a o h2.1) ⟨h1, hq⟩)
    (fun _ hq => call_meets F.slot_str_eq_refl (PySem.typeIs_str s z t) F.entry_str_eq (F.args_str_eq_2 _ _) (MyN.str_no_dict z t a o es ep h3) ⟨h1, hq⟩)
    (fun _ hq => wpAny_of_eq (rfl : isSame (.ref a) (.str z t) = pure false) hq) (.inr hu) ⟨.bl false, H, I, rfl, q⟩
end L2

namespace L2
open PySem PySem.Spec PyProof.Rows
theorem wp_notB {M : Model} {A : Around} {E : Value → Shared → Prop} {s : Shared} {m : Sem Bool} {Q Q' : Value → Shared → Prop}
  (h : wpAny M A (m >>= fun z => pure (Value.bool z)) Q E s) (hq : ∀ b s', Q (.bool b) s' → Q' (.bool (!b)) s') : wpAny M A (m >>= fun z => pure (Value.bool (!z))) Q' E s := by
  intro Γ p hi
  have z := h Γ p hi
  have z2 : Sem.wp M Γ (m.bind fun z => Sem.pure (Value.bool z)) (fun a x s' => Q a s') (fun e x s' => E e s') p s := z
  show Sem.wp M Γ (m.bind fun z => Sem.pure (Value.bool (!z))) (fun a x s' => Q' a s') (fun e x s' => E e s') p s
  rw [Sem.wp_bind] at z2 ⊢
  exact Sem.wp_mono _ _ _ (fun a p' s' q => hq a s' q) (fun _ _ _ e => e) _ _ z2
def rNot (r : R2) : R2 := fun x y H Q => r x y H (fun v H' => ∃ b, v = .bl b ∧ Q (.bl (!b)) H')
theorem OpR.notIn {X : Cx} {r : R2} (h : OpR X (compareOp .In) r) : OpR X (compareOp .NotIn) (rNot r) := by
  intro pins s σ H x y v u Q I rx ry h2
  have z := h pins s σ H x y v u _ I rx ry h2
  refine wp_notB z fun b s' q => ?_
  obtain ⟨w, H', I', rw', c, rfl, q⟩ := q
  have e : b = c := by cases rw'; rfl
  subst e
  exact ⟨.bl (!b), H', I', rfl, q⟩
end L2

namespace My
open PySem PySem.Spec PyProof.Rows L2
/-! ### names -/
def oddNm : List Str := ["zz", "zzz", "zy", "zr", "zs", "zt", "zu", "zv"]
def Nm (z : Str) : Prop := nameB z = true ∧ z.length ≠ 4 ∧ z ≠ "zq" ∧ z.length ≤ 8 ∧ PyData.strOk z = true ∧ ∀ b ∈ oddNm, z ≠ b
instance (z : Str) : Decidable (Nm z) := by unfold Nm; exact inferInstance
def az : Str := "abcdefghijklmnopqrstuvwxy"
def ap : Str := "abcdefghijklmnop"
def spares : List Str := ap.cps.toList.map fun c => ("z" : Str) ++ (⟨#[c]⟩ : Str) ++ ("q" : Str)
theorem spares_nm : ∀ z ∈ spares, Nm z := by decide +kernel
theorem spares_nd : spares.Nodup := by decide +kernel
theorem spares_len : spares.length = 16 := by decide +kernel
theorem nodup_sub : ∀ (as bs : List Str), as.Nodup → (∀ x, x ∈ as → x ∈ bs) → as.length ≤ bs.length
  | [], bs, _, _ => Nat.zero_le _
  | a :: as, bs, nd, h => by
    obtain ⟨na, nd'⟩ := List.nodup_cons.mp nd
    have ha := h a List.mem_cons_self
    have ih := nodup_sub as (bs.erase a) nd' fun x hx => (List.mem_erase_of_ne (fun e => by rw [e] at hx; exact na hx)).mpr (h x (List.mem_cons_of_mem _ hx))
    rw [List.length_erase_of_mem ha] at ih
    have : 0 < bs.length := List.length_pos_of_mem ha
    rw [List.length_cons]
    omega
theorem inV_str (z : Str) (zs : List Str) : inV (.str z) (zs.map V.str) = decide (z ∈ zs) := by
  unfold inV
  rw [List.any_map, Bool.eq_iff_iff, List.any_eq_true, decide_eq_true_iff]
  constructor
  · rintro ⟨x, hx, e⟩
    have e' : x = z := eq_of_beq e
    exact e' ▸ hx
  · intro h
    exact ⟨z, h, beq_self_eq_true z⟩
/-- the first of the spare ones that is not found as yet -/
def freshOf (w : Str) (zs : List Str) : List Str := (w :: spares).filter fun z => !decide (z ∈ zs)
theorem fresh_ne {w : Str} {zs : List Str} (h : zs.length < 16) : ∃ z r, freshOf w zs = z :: r := by
  cases e : freshOf w zs with
  | cons z r => exact ⟨z, r, rfl⟩
  | nil =>
    exfalso
    have hall : ∀ x, x ∈ spares → x ∈ zs := fun x hx => by
      have h1 := List.filter_eq_nil_iff.mp e x (List.mem_cons_of_mem _ hx)
      simpa using h1
    have := nodup_sub spares zs spares_nd hall
    rw [spares_len] at this
    omega
theorem fresh_mem {w z : Str} {zs r : List Str} (h : freshOf w zs = z :: r) (hw : Nm w) : Nm z ∧ z ∉ zs := by
  have hm : z ∈ freshOf w zs := by rw [h]; exact List.mem_cons_self
  obtain ⟨h1, h2⟩ := List.mem_filter.mp hm
  refine ⟨?_, by simpa using h2⟩
  rcases List.mem_cons.mp h1 with rfl | h1
  · exact hw
  · exact spares_nm z h1
/-- a word of signs from a to y -/
theorem joinL_one : ∀ cs : List Nat, TL.joinL [] (cs.map fun c => [c]) = cs
  | [] => rfl
  | [_] => rfl
  | c :: d :: r => by
    show [c] ++ ([] ++ TL.joinL [] ((d :: r).map fun c => [c])) = _
    rw [joinL_one (d :: r)]
    rfl
theorem join_one (cs : List Nat) : (Txt.join "" (cs.map fun c => (⟨#[c]⟩ : Str))).cps.toList = cs := by
  rw [TL.join_eq]
  have h := TL.tl_join "" (cs.map fun c => (⟨#[c]⟩ : Str))
  rw [List.map_map] at h
  exact h.trans (joinL_one cs)
theorem word_nm {z : Str} {cs : List Nat} (e : z.cps.toList = cs) (hc : ∀ c, c ∈ cs → c ∈ az.cps.toList) (hn : cs.length ∈ [1, 1, 2, 3, 8]) : Nm z := by
  have len : z.length = cs.length := by
    show z.cps.size = _
    rw [← Array.length_toList, e]
  have all : ∀ c, c ∈ cs → c ∈ letters.cps.toList ∧ c < 122 := fun c h => by
    have h1 := hc c h
    have key : ∀ c, c ∈ az.cps.toList → c ∈ letters.cps.toList ∧ c < 122 := by decide +kernel
    exact key c h1
  have l18 : 1 ≤ cs.length ∧ cs.length ≤ 8 ∧ cs.length ≠ 4 := by
    simp only [List.mem_cons, List.not_mem_nil, or_false] at hn
    omega
  refine ⟨?_, by rw [len]; exact l18.2.2, fun h => ?_, by rw [len]; exact l18.2.1, ?_, fun b hb h => ?_⟩
  · unfold nameB
    rw [decide_eq_true (by rw [len]; omega), decide_eq_true (by rw [len]; omega), Bool.true_and, Bool.true_and, List.all_eq_true]
    intro b hb
    unfold signB at hb
    obtain ⟨c, hc', rfl⟩ := List.mem_map.mp hb
    rw [e] at hc'
    exact decide_eq_true (all c hc').1
  · have h122 : (122 : Nat) ∈ cs := by
      rw [← e, h]
      decide +kernel
    exact absurd (all 122 h122).2 (Nat.lt_irrefl _)
  · show z.cps.all _ = true
    rw [← Array.all_toList, e, List.all_eq_true]
    intro c h
    exact decide_eq_true (Nat.lt_trans (all c h).2 (by decide))
  · have h122 : (122 : Nat) ∈ cs := by
      rw [← e, h]
      exact (show ∀ b ∈ oddNm, (122 : Nat) ∈ b.cps.toList by decide +kernel) b hb
    exact absurd (all 122 h122).2 (Nat.lt_irrefl _)
theorem sum_one : ∀ cs : List Nat, (((cs.map fun c => (⟨#[c]⟩ : Str))).map (·.length)).sum = cs.length
  | [] => rfl
  | c :: r => by
    show 1 + (((r.map fun c => (⟨#[c]⟩ : Str))).map (·.length)).sum = _
    rw [sum_one r, List.length_cons, Nat.add_comm]
theorem pool_ext {H H' : Hp} {p : Addr} {n : Int} (h : Pool H p n) (e : Ext H H') : Pool H' p n := by
  obtain ⟨g, m, c, h1, h2⟩ := h
  exact ⟨g, m, c, e _ _ h1, h2⟩
theorem pool_at {H H' : Hp} {p : Addr} {n : Int} (h : Pool H p n) (e : H' p = H p) : Pool H' p n := by
  obtain ⟨g, m, c, h1, h2⟩ := h
  exact ⟨g, m, c, by rw [e]; exact h1, h2⟩
theorem pool_ne {H : Hp} {p l : Addr} {n : Int} (h : Pool H p n) (e : H l = none) : l ≠ p := fun z => by
  obtain ⟨g, m, c, h1, _⟩ := h
  rw [z, h1] at e
  cases e
theorem But.ext {H H1 H2 : Hp} {a : Addr} (b : But H H1 a) (e : Ext H1 H2) : But H H2 a := b.trans (ext_but e)
/-- names: unlike, none of four signs, none zq -/
def Nms (zs : List Str) : Prop := zs.Nodup ∧ ∀ z, z ∈ zs → Nm z
structure HouseTxt (P : Program) (w : World) (K : PySem.W.Frag) (mg : Str → Option Value) (C CB : Addr) where
  T : HouC K C
  gH : mg "House" = some (.ref C)
  kCC : PySem.W.kitOne K (.ref C) (.ref C) = some true
  ne : PySem.W.findIn K (.ref C) "__ne__" = some (some (.builtin "object.__ne__"))
  noStr : PySem.W.subIn K (.ref C) (.type "str") = some false
  nb : ∀ T, T ∈ ["NoneType", "list", "tuple", "int", "str"] → PySem.W.notFirst K C (.type T) = true ∧ PySem.W.kitOne K (.type T) (.ref C) = some false
  fI : Addr
  fdI : FuncData
  M : Mk K C fI
  I : ∀ base, FnOk P w K mg base (L2.CX P w) 4 fI fdI ["self", "folders", "things"] (spHInit K C CB)
  bI : Binds K fdI ["self", "folders", "things"] []
  uD : Value
  bD : Binds K fdI ["self", "folders", "things"] [uD]
  aD : Addr
  eD : uD = .ref aD
  tD : ∀ H, SqT K H aD []
  fL : Addr
  fdL : FuncData
  mL : OwnM K C "__len__" fL
  L : ∀ base, FnOk P w K mg base CX0 1 fL fdL ["self"] (spHLen K C)
  bL : Binds K fdL ["self"] []
  fS : Addr
  fdS : FuncData
  mS : OwnM K C "__contains__" fS
  S : ∀ base, FnOk P w K mg base CX0 3 fS fdS ["self", "x"] (spHHas K C)
  bS : Binds K fdS ["self", "x"] []
  fW : Addr
  fdW : FuncData
  mW : OwnM K C "__iter__" fW
  W : ∀ base : Heap, FnOk P w K mg base CX0 1 fW fdW ["self"] (spIter K C "nodes" base.objs.size)
  bW : Binds K fdW ["self"] []
  fE : Addr
  fdE : FuncData
  mE : OwnM K C "__eq__" fE
  E : ∀ base, FnOk P w K mg base CX0 1 fE fdE ["self", "other"] (spHEq K C)
  bE : Binds K fdE ["self", "other"] []
/-! ### lists of truths as data -/
theorem dpAll_bl {K : PySem.W.Frag} {H : Hp} : ∀ bs : List Bool, DpAll K H (bs.map V.bl) (bs.map PyData.bool)
  | [] => .nil
  | b :: bs => .cons (.bl b) (dpAll_bl bs)
theorem canLay_bl : ∀ bs : List Bool, PyData.canLayAll0 (bs.map PyData.bool) = true
  | [] => rfl
  | b :: bs => by
    show (PyData.canLay0 (.bool b) && PyData.canLayAll0 (bs.map PyData.bool)) = true
    rw [canLay_bl bs]
    rfl
theorem depths_bl : ∀ bs : List Bool, PyData.depthAll (bs.map PyData.bool) ≤ 1
  | [] => Nat.zero_le _
  | b :: bs => by
    have h := depths_bl bs
    show max (PyData.depth (.bool b)) (PyData.depthAll (bs.map PyData.bool)) ≤ 1
    exact Nat.max_le.mpr ⟨by decide +revert, h⟩
theorem shaped_bl (bs : List Bool) : SeqAt.shaped (.list (bs.map PyData.bool)) = true := by
  refine Bool.and_eq_true_iff.mpr ⟨canLay_bl bs, decide_eq_true ?_⟩
  have h := depths_bl bs
  show PyData.depthAll (bs.map PyData.bool) + 1 ≤ 64
  omega
theorem inV_no {y : V} (h : ∀ z, eqV (.str z) y = false) (zs : List Str) : inV y (zs.map V.str) = false := by
  unfold inV
  rw [List.any_map, List.any_eq_false]
  intro z _ e
  have e' : eqV (.str z) y = true := e
  rw [h z] at e'
  cases e'
/-! ### lists of lists as data -/
theorem canLay_ds : ∀ ds : List PyData, (∀ d, d ∈ ds → d.canLay0 = true ∧ d.depth ≤ 2) → PyData.canLayAll0 ds = true ∧ PyData.depthAll ds ≤ 2
  | [], _ => ⟨rfl, Nat.zero_le _⟩
  | d :: ds, h => by
    obtain ⟨h1, h2⟩ := canLay_ds ds fun x hx => h x (List.mem_cons_of_mem _ hx)
    obtain ⟨h3, h4⟩ := h d List.mem_cons_self
    refine ⟨?_, Nat.max_le.mpr ⟨h4, h2⟩⟩
    show (d.canLay0 && PyData.canLayAll0 ds) = true
    rw [h1, h3]
    rfl
theorem shaped_ds (ds : List PyData) (h : ∀ d, d ∈ ds → d.canLay0 = true ∧ d.depth ≤ 2) : SeqAt.shaped (.list ds) = true := by
  obtain ⟨h1, h2⟩ := canLay_ds ds h
  refine Bool.and_eq_true_iff.mpr ⟨h1, decide_eq_true ?_⟩
  show PyData.depthAll ds + 1 ≤ 64
  omega
theorem flat_tup (zs : List Str) (h : OkS zs) : (PyData.tuple (zs.map PyData.str)).canLay0 = true ∧ (PyData.tuple (zs.map PyData.str)).depth ≤ 2 := ⟨canLay_str zs h, Nat.succ_le_succ (depths_str zs)⟩
theorem flat_lst (zs : List Str) (h : OkS zs) : (PyData.list (zs.map PyData.str)).canLay0 = true ∧ (PyData.list (zs.map PyData.str)).depth ≤ 2 := ⟨canLay_str zs h, Nat.succ_le_succ (depths_str zs)⟩
theorem dpAll_rep {K : PySem.W.Frag} {H : Hp} {d : PyData} : ∀ ws : List V, (∀ x, x ∈ ws → Dp K H x d) → DpAll K H ws (List.replicate ws.length d)
  | [], _ => .nil
  | x :: ws, h => .cons (h x List.mem_cons_self) (dpAll_rep ws fun y hy => h y (List.mem_cons_of_mem _ hy))
theorem flat_rep {α : Type} (n : Nat) (x : α) : (List.replicate n [x]).flatten = List.replicate n x := by
  induction n with
  | zero => rfl
  | succ n ih => rw [List.replicate_succ, List.flatten_cons, ih]; rfl
def Nok (zs : List Str) : Prop := zs.Nodup ∧ ∀ z, z ∈ zs → nameB z = true ∧ PyData.strOk z = true ∧ z.length ≤ sizeLine
theorem Nms.ok {zs : List Str} (h : Nms zs) : Nok zs := ⟨h.1, fun z hz => ⟨(h.2 z hz).1, (h.2 z hz).2.2.2.2.1, Nat.le_trans (h.2 z hz).2.2.2.1 (by rw [sizeLine_eq]; decide)⟩⟩
theorem Nok.perm {zs ws : List Str} (h : Nok zs) (p : ws.Perm zs) : Nok ws := ⟨p.nodup_iff.mpr h.1, fun z hz => h.2 z (p.mem_iff.mp hz)⟩
theorem Nok.zq {zs : List Str} (h : Nms zs) : Nok ("zq" :: zs) := by
  refine ⟨List.nodup_cons.mpr ⟨fun z => (h.2 _ z).2.2.1 rfl, h.1⟩, fun z hz => ?_⟩
  rcases List.mem_cons.mp hz with rfl | hz
  · decide +kernel
  · exact h.ok.2 z hz
theorem wrong_ok {zs : List Str} (h : Nok zs) : wrongOf (zs.map V.str) = none := by
  refine wrong_none fun i hi => ?_
  rw [List.length_map] at hi
  unfold badAt
  rw [List.getElem?_map, List.getElem?_eq_getElem hi]
  show (!nameB zs[i] || inV (.str zs[i]) ((zs.map V.str).take i)) = false
  rw [(h.2 _ (List.getElem_mem hi)).1, ← List.map_take, inV_str]
  have nd := h.1
  rw [← List.take_append_drop i zs, List.nodup_append] at nd
  have hd : zs[i] ∈ zs.drop i := by
    rw [List.drop_eq_getElem_cons hi]
    exact List.mem_cons_self
  rw [decide_eq_false fun hm => nd.2.2 _ hm _ hd rfl]
  rfl
theorem part_ok {fo th : List Str} (h : Nok (fo ++ th)) (hf : fo ≠ []) : partOf (some (fo.map V.str)) (some (th.map V.str)) = none := by
  have hl : ¬ (fo.map V.str).length = 0 := by
    rw [List.length_map]
    exact fun e => hf (List.eq_nil_of_length_eq_zero e)
  show (if (fo.map V.str).length = 0 then some 0 else wrongOf (fo.map V.str ++ th.map V.str)) = none
  rw [if_neg hl, ← List.map_append, wrong_ok h]
theorem things_ok {K : PySem.W.Frag} {H : Hp} {zs : List Str} (h : ∀ z, z ∈ zs → z.length ≤ sizeLine) : ∀ y, y ∈ zs.map V.str → Thing K H y := fun y hy => by
  obtain ⟨z, hz, rfl⟩ := List.mem_map.mp hy
  exact .inl ⟨z, rfl, h z hz⟩
/-- House(..) of good names -/
theorem mk_at {K : PySem.W.Frag} {C CB a b x' dx : Addr} {H : Hp} {fo th : List Str} {R : Hp → Prop} {E : XK} (sf : SeqAt2 K H a (fo.map V.str)) (st : SeqAt2 K H b (th.map V.str)) (ok : Nok (fo ++ th)) (hf : fo ≠ []) (hl : (fo ++ th).length ≤ sizeLine)
    (h1 : H x' = none) (h2 : H dx = none) (h3 : dx ≠ x') (q : ∀ H', Ext H H' → Hou H' K C x' fo th → R H') : spHInit K C CB [.ref x', .ref a, .ref b] (L2.upd (L2.upd H dx (.own x')) x' (.ins C dx [])) (fun v H2 => v = .non ∧ R H2) E := by
  have xn : Ext H (L2.upd (L2.upd H dx (.own x')) x' (.ins C dx [])) := fun c u k => by
    rw [upd_ne (ne_of_none k h1), upd_ne (ne_of_none k h2)]
    exact k
  have okf : ∀ z, z ∈ fo → _ := fun z hz => ok.2 z (List.mem_append_left _ hz)
  have okt : ∀ z, z ∈ th → _ := fun z hz => ok.2 z (List.mem_append_right _ hz)
  refine ⟨x', dx, _, _, some (fo.map V.str), some (th.map V.str), rfl, upd_same, ⟨a, rfl, sf.ext xn, things_ok fun z hz => (okf z hz).2.2⟩, ⟨b, rfl, st.ext xn, things_ok fun z hz => (okt z hz).2.2⟩, fun xs ys e1 e2 => ?_, fun xs ys H' e1 e2 _ bt hs => ⟨rfl, ?_⟩, fun i d H' e => ?_⟩
  · cases e1
    cases e2
    rw [← List.map_append, List.length_map]
    exact hl
  · cases e1
    cases e2
    refine q H' (fun c u k => bt c u (ne_of_none k h1) (xn c u k)) ⟨hs, fun z hz => (okf z hz).2.1, fun z hz => (okt z hz).2.1⟩
  · rw [part_ok ok hf] at e
    cases e
theorem HouseTxt.vD {P : Program} {w : World} {K : PySem.W.Frag} {mg : Str → Option Value} {C CB : Addr} (Z : HouseTxt P w K mg C CB) : Vals [V.ref Z.aD] [Z.uD] := .cons Z.eD .nil
theorem sqT_upd {K : PySem.W.Frag} {H : Hp} {l f : Addr} {ys zs xs : List V} (h : SqT K H f xs) (hl : H l = some (.lst ys)) : SqT K (L2.upd H l (.lst zs)) f xs := by
  rcases h with (h | ⟨o, h⟩) | h
  · exact .inl (.inl (by rw [upd_ne (ne_of h hl (fun z => nomatch z))]; exact h))
  · exact .inl (.inr ⟨o, by rw [upd_ne (ne_of h hl (fun z => nomatch z))]; exact h⟩)
  · exact .inr h
theorem hou_upd {H : Hp} {K : PySem.W.Frag} {C b l : Addr} {fo th : List Str} {ys zs : List V} (h : Hou H K C b fo th) (hl : H l = some (.lst ys)) : Hou (L2.upd H l (.lst zs)) K C b fo th := by
  obtain ⟨⟨dx, fs, f, t, n, h1, h2, h3, h4, h5, h6, h7⟩, ok⟩ := h
  exact ⟨⟨dx, fs, f, t, n, by rw [upd_ne (ne_of h1 hl (fun z => nomatch z))]; exact h1, h2, h3, h4, sqT_upd h5 hl, sqT_upd h6 hl, sqT_upd h7 hl⟩, ok⟩
def Has (P : Program) (w : World) (K : PySem.W.Frag) (mg : Str → Option Value) (base : Heap) (k : Nat) (x : Str) (ps : List Str) (sp : Sp) : Prop :=
  ∃ (f : Addr) (fd : FuncData), FnOk P w K mg base CX0 k f fd ps sp ∧ mg x = some (.ref f) ∧ PySem.W.keepIn K (.ref f) = true ∧ Binds K fd ps []
theorem pe_has {X : Cx} {k : Nat} {x : Str} {ps : List Str} {sp : Sp} {e : Expr} {es : List Expr} {t : TA} {p pos : Pos} (h : Has X.prog X.w X.K X.mg X.base k x ps sp) (hr : Room k X.A) (ha : PA X (e :: es) t) (hg : Gl X x := by rfl)
    (hdb : (x == ("__debug__" : Str)) = false := by decide) (h1 : starEach (e :: es) X.env = (false, eval e X.env) :: starEach es X.env := by rfl) (h2 : (backTo pos (starEach es X.env)).any (·.1) = false := by rfl) :
    PE X (.Call (.Name x p) (e :: es) [] pos) (tCall sp [] E0 t) := by
  obtain ⟨f, fd, F, m, kp, b⟩ := h
  exact pe_call F hr hg m kp b .nil pass0 ha hdb h1 h2
/-- list(a) -/
def rLst (K : PySem.W.Frag) : List V → Hp → VK → Prop := fun xs H Q => ∃ a zs, xs = [.ref a] ∧ SqL K H a zs ∧ ∀ l, H l = none → Q (.ref l) (L2.upd H l (.lst zs))
theorem call_lst {X : Cx} : CallR X (.type "list") (rLst X.K) := by
  intro pins s σ H xs us Q I rv h
  obtain ⟨a, zs, rfl, sq, q⟩ := h
  exact call_list_of pins s σ H _ us Q I rv ⟨a, zs, rfl, .inl sq, q⟩
theorem pool_mono {H : Hp} {p : Addr} {n m : Int} (h : Pool H p n) (e : n ≤ m) : Pool H p m := by
  obtain ⟨g, mm, c, h1, h2, h3, h4, h5, h6⟩ := h
  exact ⟨g, mm, c, h1, h2, h3, h4, h5, by omega⟩
theorem pool_upd {H : Hp} {p l : Addr} {o : HO} {n : Int} (h : Pool H p n) (e : l ≠ p) : Pool (L2.upd H l o) p n := pool_at h (upd_ne (Ne.symm e))
theorem cutV_take {xs : List V} {k : Nat} (h : k ≤ xs.length) : cutV xs none (some ((k : Nat) : Int)) = xs.take k := by
  unfold cutV
  rw [HT.sIx_none, HT.sIx_nat, Nat.min_eq_left h, Nat.sub_zero, List.drop_zero]
theorem cutV_drop {xs : List V} {k : Nat} (h : k ≤ xs.length) : cutV xs (some ((k : Nat) : Int)) none = xs.drop k := by
  unfold cutV
  rw [HT.sIx_none, HT.sIx_nat, Nat.min_eq_left h, List.take_of_length_le (by rw [List.length_drop]; exact Nat.le_refl _)]
end My

namespace L2
open PySem PySem.Spec PyProof.Rows
theorem PG.or {X : Cx} {t : Expr} {g g' : TG} (h : PG X t g) (h' : PG X t g') : PG X t (fun v σ H Q => g v σ H Q ∨ g' v σ H Q) :=
  ⟨fun pins s σ H v u Q I rv q => q.elim (h.run pins s σ H v u Q I rv) (h'.run pins s σ H v u Q I rv)⟩
theorem opK {X : Cx} {f : Value → Value → Sem Value} {r : PySem.W.Frag → R2} {K : PySem.W.Frag} (e : X.K = K) (h : OpR X f (r X.K)) : OpR X f (r K) := e ▸ h
theorem ixK {X : Cx} {r : PySem.W.Frag → R2} {K : PySem.W.Frag} (e : X.K = K) (h : IxR X (r X.K)) : IxR X (r K) := e ▸ h
theorem caK {X : Cx} {v : Value} {r : PySem.W.Frag → List V → Hp → VK → Prop} {K : PySem.W.Frag} (e : X.K = K) (h : CallR X v (r X.K)) : CallR X v (r K) := e ▸ h
theorem peK {X : Cx} {x : Expr} {r : PySem.W.Frag → TE} {K : PySem.W.Frag} (e : X.K = K) (h : PE X x (r X.K)) : PE X x (r K) := e ▸ h
end L2
namespace My
open PySem PySem.Spec PyProof.Rows L2
/-- an unpacking of a list or a tuple -/
def gSeq (K : PySem.W.Frag) (n : Nat) (t : TGs) : TG := fun v σ H Q => ∃ a xs, v = .ref a ∧ SeqAt2 K H a xs ∧ xs.length = n ∧ t xs σ H Q
theorem pg_seq {X : Cx} {pos : Pos} {es : List Expr} {k : Nat} {t : TGs} {n : Nat} (hc : X.calm = true) (h : PGs X es t) (h1 : (assignEach es X.env).length = n := by rfl) (h2 : List.findIdx? (fun x => x.fst) (assignEach es X.env) = none := by rfl) : PG X (Expr.Tuple es k pos) (gSeq X.K n t) :=
  ⟨fun pins s σ H v u Q I rv q => (PG.or (pg_tup hc h h1 h2) (pg_unl hc h h1 h2)).run pins s σ H v u Q I rv (by
    obtain ⟨a, xs, e, sq, l, q⟩ := q
    exact sq.elim (fun z => .inr ⟨a, xs, e, z, l, q⟩) fun z => .inl ⟨a, xs, e, z, l, q⟩)⟩
/-! ### facts -/
def wordsS : List Str := ["below", "not", "line"]
/-- what may stand in a fact: flat, or a list, a tuple, a dict -/
def Itm (K : PySem.W.Frag) (H : Hp) (x : V) : Prop := flatV x = true ∨ NoText K H x
theorem NoText.ext {K : PySem.W.Frag} {H H' : Hp} {x : V} (h : NoText K H x) (e : Ext H H') : NoText K H' x := by
  rcases h with ⟨a, xs, rfl, h | h⟩ | ⟨a, kvs, rfl, h⟩
  · exact .inl ⟨a, xs, rfl, .inl (h.ext e)⟩
  · exact .inl ⟨a, xs, rfl, .inr (h.ext e)⟩
  · exact .inr ⟨a, kvs, rfl, e _ _ h⟩
theorem Itm.ext {K : PySem.W.Frag} {H H' : Hp} {x : V} (h : Itm K H x) (e : Ext H H') : Itm K H' x := h.elim .inl fun z => .inr (NoText.ext z e)
theorem noText_inV {K : PySem.W.Frag} {H : Hp} {x : V} (h : NoText K H x) (zs : List Str) : inV x (zs.map V.str) = false := by
  refine inV_no (fun z => ?_) zs
  rcases h with ⟨a, xs, rfl, _⟩ | ⟨a, kvs, rfl, _⟩ <;> rfl
theorem eqV_strE {z : Str} {y : V} (h : eqV (.str z) y = true) : y = .str z := by
  cases y with
  | str w =>
    have e : z = w := eq_of_beq h
    rw [e]
  | _ => exact absurd (show false = true from h) Bool.false_ne_true
theorem inV_mem {y : V} {zs : List Str} (h : inV y (zs.map V.str) = true) : ∃ z, z ∈ zs ∧ y = .str z := by
  unfold inV at h
  rw [List.any_eq_true] at h
  obtain ⟨x, hx, e⟩ := h
  obtain ⟨z, hz, rfl⟩ := List.mem_map.mp hx
  exact ⟨z, hz, eqV_strE e⟩
theorem flat_strs (zs : List Str) : (zs.map V.str).all flatV = true := by
  rw [List.all_map]
  exact List.all_eq_true.mpr fun _ _ => rfl
/-- x in, not in a tuple of texts -/
def rInW (K : PySem.W.Frag) (neg : Bool) : R2 := fun x y H Q => ∃ (p : Addr) (zs : List Str), y = .ref p ∧ SqT K H p (zs.map V.str) ∧ Itm K H x ∧ Q (.bl (neg ^^ inV x (zs.map V.str))) H
theorem op_notInW {X : Cx} (hu : X.A.units + 1 < cLine) : OpR X (compareOp .NotIn) (rInW X.K true) := by
  intro pins s σ H x y v u Q I rx ry h
  obtain ⟨p, zs, rfl, sq, it, q⟩ := h
  rw [show (true ^^ inV x (zs.map V.str)) = !inV x (zs.map V.str) by cases inV x (zs.map V.str) <;> rfl] at q
  refine (OpR.or op_notIn_seq (OpR.notIn (op_inN hu))) pins s σ H x _ v u Q I rx ry ?_
  rcases it with fl | nt
  · exact .inl ⟨p, _, rfl, .inr sq, fl, flat_strs _, q⟩
  · rw [noText_inV nt] at q
    exact .inr ⟨p, zs, rfl, sq, nt, false, rfl, q⟩
theorem op_inW {X : Cx} (hu : X.A.units + 1 < cLine) : OpR X (compareOp .In) (rInW X.K false) := by
  intro pins s σ H x y v u Q I rx ry h
  obtain ⟨p, zs, rfl, sq, it, q⟩ := h
  rw [show (false ^^ inV x (zs.map V.str)) = inV x (zs.map V.str) by cases inV x (zs.map V.str) <;> rfl] at q
  refine (OpR.or op_in_seq (op_inN hu)) pins s σ H x _ v u Q I rx ry ?_
  rcases it with fl | nt
  · exact .inl ⟨p, _, rfl, .inr sq, fl, flat_strs _, q⟩
  · rw [noText_inV nt] at q
    exact .inr ⟨p, zs, rfl, sq, nt, q⟩
/-- x in, not in a house -/
def rInH (K : PySem.W.Frag) (C : Addr) (neg : Bool) : R2 := fun x y H Q => ∃ h fo th, y = .ref h ∧ Hou H K C h fo th ∧ Itm K H x ∧ Q (.bl (neg ^^ inV x ((fo ++ th).map V.str))) H
theorem op_inH {X : Cx} {C CB : Addr} (Z : HouseTxt X.prog X.w X.K X.mg C CB) (hr : Room 3 X.A) : OpR X (compareOp .In) (rInH X.K C false) := by
  intro pins s σ H x y v u Q I rx ry h
  obtain ⟨a, fo, th, rfl, ho, it, q⟩ := h
  rw [show (false ^^ inV x ((fo ++ th).map V.str)) = inV x ((fo ++ th).map V.str) by cases inV x ((fo ++ th).map V.str) <;> rfl] at q
  obtain ⟨dx, fs, hi⟩ := ho.ins
  refine (op_inO (EI := E0) hr Z.mS (Z.S _) Z.bS pass0) pins s σ H x _ v u Q I rx ry ⟨a, dx, fs, rfl, hi, a, fo, th, x, rfl, ho, ?_⟩
  rcases it with fl | nt
  · exact .inl ⟨fl, _, rfl, q⟩
  · rw [noText_inV nt] at q
    exact .inr (.inl ⟨nt, _, rfl, q⟩)
theorem op_notInH {X : Cx} {C CB : Addr} (Z : HouseTxt X.prog X.w X.K X.mg C CB) (hr : Room 3 X.A) : OpR X (compareOp .NotIn) (rInH X.K C true) := by
  intro pins s σ H x y v u Q I rx ry h
  obtain ⟨a, fo, th, rfl, ho, it, q⟩ := h
  refine (OpR.notIn (op_inH Z hr)) pins s σ H x _ v u Q I rx ry ⟨a, fo, th, rfl, ho, it, _, rfl, ?_⟩
  rw [Bool.false_xor]
  rw [Bool.true_xor] at q
  exact q
def factB (fo th : List Str) (w o p : V) : Bool := inV w (wordsS.map V.str) && (inV o ((fo ++ th).map V.str) && (inV p ((fo ++ th).map V.str) && (!decide (o = p) && (decide (w = .str "line") || inV p (fo.map V.str)))))
/-- whether x is a fact -/
def FactOf (K : PySem.W.Frag) (H : Hp) (fo th : List Str) (x : V) (b : Bool) : Prop := (b = false ∧ ∃ t, TyX K H x t ∧ PySem.W.kitAny K t [.type "list", .type "tuple"] = some false) ∨
  (b = false ∧ ∃ a xs, x = .ref a ∧ SeqAt2 K H a xs ∧ xs.length ≠ 3) ∨ ∃ a w o p, x = .ref a ∧ SeqAt2 K H a [w, o, p] ∧ Itm K H w ∧ Itm K H o ∧ Itm K H p ∧ b = factB fo th w o p
theorem FactOf.ext {K : PySem.W.Frag} {H H' : Hp} {fo th : List Str} {x : V} {b : Bool} (h : FactOf K H fo th x b) (e : Ext H H') : FactOf K H' fo th x b := by
  rcases h with ⟨h0, t, h1, h2⟩ | ⟨h0, a, xs, h1, h2, h3⟩ | ⟨a, w, o, p, h1, h2, h3, h4, h5, h6⟩
  · exact .inl ⟨h0, t, h1.ext e, h2⟩
  · exact .inr (.inl ⟨h0, a, xs, h1, h2.ext e, h3⟩)
  · exact .inr (.inr ⟨a, w, o, p, h1, h2.ext e, h3.ext e, h4.ext e, h5.ext e, h6⟩)
theorem seq_kit {K : PySem.W.Frag} {H : Hp} {a : Addr} {xs : List V} (h : SeqAt2 K H a xs) : ∃ t, TyX K H (.ref a) t ∧ PySem.W.kitAny K t [.type "list", .type "tuple"] = some true := by
  rcases h with h | h
  · exact ⟨_, tyx_sqL h, by rfl⟩
  · exact ⟨_, tyx_sqT h, by rfl⟩
def spIsFact (K : PySem.W.Frag) (C : Addr) : Sp := fun vs H Q _ => ∃ h x fo th b, vs = [.ref h, x] ∧ Hou H K C h fo th ∧ FactOf K H fo th x b ∧ ∀ H', Ext H H' → Q (.bl b) H'
abbrev nm_is_fact : List Str := ["house", "thing", "word", "one", "other"]
theorem sc_is_fact : FnScope nm_is_fact ["house", "thing"] (defScope s_is_fact) := ⟨rfl, rfl, rfl, by decide +kernel, rfl, by decide +kernel, by decide +kernel⟩
section
variable {P : Program} {w : World} {K : PySem.W.Frag} {mg : Str → Option Value} {base : Heap} {f C CB : Addr} {fd : FuncData}
theorem ok_isFact (Fn : FnP K "is_fact" s_is_fact f fd) (Z : HouseTxt P w K mg C CB) (his_list : Has P w K mg base 1 "is_list" ["thing"] (spIsList K)) (gB_len : mg "len" = none) {aW : Addr} (gW : mg "WORDS" = some (.ref aW)) (tW : ∀ H, SqT K H aW (wordsS.map V.str)) :
    FnOk P w K mg base CX0 5 f fd ["house", "thing"] (spIsFact K C) := by
  refine Fn.ok sc_is_fact (fun vs H Q E h => ?_) (fun cdv A outer s H vs Q E hr h => ⟨_, PSs.nox
    (pss_cons (ps_if (PW.pt (pw_or (pt_not (pt_val (pe_has his_list (hr.mono (by decide)) (pa_cons (pv 1) pa_nil)))) (pw_or1 (pt_cmpR op_ne (pe_callB call_len (by rfl) gB_len boot_len (pa_cons (pv 1) pa_nil)) pe_int (nomark _))))) (pss_one (ps_ret pe_bl)) pss_nil)
      (pss_cons (ps_asg (pv 1) (pg_seq rfl (pgs_cons (pg_name (i := 2) sc_is_fact.nd rfl (Or.inl rfl)) (pgs_cons (pg_name (i := 3) sc_is_fact.nd rfl (Or.inl rfl)) (pgs_cons (pg_name (i := 4) sc_is_fact.nd rfl (Or.inl rfl)) pgs_nil)))))
      (pss_cons (ps_if (PW.pt (pw_or (pt_cmpR (op_notInW (hu_of hr)) (pv 2) (pe_glob (v := .ref aW) (by rfl) gW rfl) (by rfl)) (pw_or (pt_cmpR (op_notInH Z (hr.mono (by decide))) (pv 3) (pv 0) (by rfl)) (pw_or1 (pt_cmpR (op_notInH Z (hr.mono (by decide))) (pv 4) (pv 0) (by rfl)))))) (pss_one (ps_ret pe_bl)) pss_nil)
      (pss_one (ps_ret (pe_and (pe_cmpR op_ne (pv 3) (pv 4) (nomark _)) (pe_one (pe_or (pe_cmpR op_eq (pv 2) pe_str (nomark _)) (pe_one (pe_cmpR op_in_seq (pv 4) (pe_fld (pv 0) rfl) (by rfl))))))))))), ?_⟩)
  · obtain ⟨h, x, fo, th, b, rfl, _⟩ := h
    rfl
  · obtain ⟨ho, x, fo, th, b, rfl, hou, hx, q⟩ := h
    have hx0 := hx
    rcases hx with ⟨rfl, t, ty, kt⟩ | ⟨rfl, a, xs, rfl, sq, nl⟩ | ⟨a, v1, v2, v3, rfl, sq, i1, i2, i3, rfl⟩
    · refine ⟨_, rfl, x, t, false, rfl, ty, kt, fun H1 x1 => ?_⟩
      exact ⟨false, rfl, q H1 x1⟩
    · obtain ⟨t, ty, kt⟩ := seq_kit sq
      refine ⟨_, rfl, _, t, true, rfl, ty, kt, fun H1 x1 => ?_⟩
      have sq1 := sq.ext x1
      refine ⟨true, rfl, _, rfl, _, xs.length, rfl, ?_, ?_⟩
      · exact sq1.elim (fun z => .inl ⟨_, z, rfl⟩) fun z => .inr ⟨_, z, rfl⟩
      refine ⟨rfl, _, rfl, ?_⟩
      refine ite2 (fun _ => q H1 x1) fun hn => absurd ?_ hn
      have : ¬ (V.int (xs.length : Nat) = V.int 3) := fun e => nl (by injection e with e; omega)
      rw [decide_eq_false this]
      rfl
    · obtain ⟨t, ty, kt⟩ := seq_kit sq
      refine ⟨_, rfl, _, t, true, rfl, ty, kt, fun H1 x1 => ?_⟩
      have sq1 := sq.ext x1
      refine ⟨true, rfl, _, rfl, _, 3, rfl, ?_, ?_⟩
      · exact sq1.elim (fun z => .inl ⟨_, z, rfl⟩) fun z => .inr ⟨_, z, rfl⟩
      refine ⟨rfl, _, rfl, ?_⟩
      refine iteNS rfl ?_
      have j1 := i1.ext x1
      have j2 := i2.ext x1
      have j3 := i3.ext x1
      have hou1 := hou.ext x1
      refine ⟨_, rfl, a, _, rfl, sq1, rfl, ?_⟩
      have qF : ∀ H2, Ext H1 H2 → factB fo th v1 v2 v3 = false → Q (.bl false) H2 := fun H2 x2 e => by
        have z := q H2 (x1.trans x2)
        rw [e] at z
        exact z
      refine ⟨_, _, rfl, _, _, rfl, _, _, rfl, rfl, ?_⟩
      -- the word
      refine ⟨_, rfl, aW, wordsS, rfl, tW H1, j1, _, rfl, ?_⟩
      refine ite2 (fun e => qF H1 Ext.rfl' ?_) fun e => ?_
      · have e' : inV v1 (wordsS.map V.str) = false := by simpa using e
        unfold factB
        rw [e', Bool.false_and]
      have e1 : inV v1 (wordsS.map V.str) = true := by simpa using e
      refine ⟨_, rfl, _, rfl, ho, fo, th, rfl, hou1, j2, _, rfl, ?_⟩
      refine ite2 (fun e => qF H1 Ext.rfl' ?_) fun e => ?_
      · have e' : inV v2 ((fo ++ th).map V.str) = false := by simpa using e
        unfold factB
        rw [e1, e', Bool.false_and]
        rfl
      have e2 : inV v2 ((fo ++ th).map V.str) = true := by simpa using e
      refine ⟨_, rfl, _, rfl, ho, fo, th, rfl, hou1, j3, _, rfl, ?_⟩
      refine ite2 (fun e => qF H1 Ext.rfl' ?_) fun e => ?_
      · have e' : inV v3 ((fo ++ th).map V.str) = false := by simpa using e
        unfold factB
        rw [e1, e2, e', Bool.false_and]
        rfl
      have e3 : inV v3 ((fo ++ th).map V.str) = true := by simpa using e
      obtain ⟨z1, _, rfl⟩ := inV_mem e1
      obtain ⟨z2, _, rfl⟩ := inV_mem e2
      obtain ⟨z3, _, rfl⟩ := inV_mem e3
      have ef : factB fo th (.str z1) (.str z2) (.str z3) = (!decide (V.str z2 = V.str z3) && (decide (V.str z1 = .str "line") || inV (.str z3) (fo.map V.str))) := by
        unfold factB
        rw [e1, e2, e3, Bool.true_and, Bool.true_and, Bool.true_and]
      rw [ef] at q
      refine ⟨_, rfl, _, rfl, rfl, _, rfl, ?_⟩
      refine ite2 (fun e => ?_) fun e => ?_
      · refine ⟨_, rfl, rfl, _, rfl, ?_⟩
        rw [e, Bool.true_and] at q
        refine ite2 (fun e' => ?_) fun e' => ?_
        · rw [e', Bool.true_or] at q
          exact q H1 x1
        · have e'' : decide (V.str z1 = .str "line") = false := by simpa using e'
          rw [e'', Bool.false_or] at q
          obtain ⟨⟨dx, fs, f, t, n, h1, h2, h3, h4, h5, h6, h7⟩, ok1, ok2⟩ := hou1
          exact ⟨_, rfl, _, rfl, ho, C, dx, fs, _, rfl, h1, Z.T.cl, Z.T.nf, h2, f, _, rfl, .inr h5, rfl, flat_strs _, q H1 x1⟩
      · have e'' : (!decide (V.str z2 = V.str z3)) = false := by simpa using e
        rw [e'', Bool.false_and] at q
        exact q H1 x1
end
end My

namespace My
open PySem PySem.Spec PyProof.Rows L2
/-! ### a fact as it is told -/
/-- the nodes of a line in the order of the house -/
def ordS (ns : List Str) (a b : Str) : List Str := ns.filter fun n => decide (n = a) || decide (n = b)
theorem ord_two : ∀ {ns : List Str} {a b : Str}, ns.Nodup → a ∈ ns → b ∈ ns → a ≠ b → ∃ c d, ordS ns a b = [c, d] ∧ ((c = a ∧ d = b) ∨ (c = b ∧ d = a))
  | [], a, b, _, ha, _, _ => by cases ha
  | n :: ns, a, b, nd, ha, hb, ne => by
    obtain ⟨nn, nd'⟩ := List.nodup_cons.mp nd
    have one : ∀ (x : Str), x ∈ ns → ∀ y, y ∉ ns → ordS ns x y = [x] ∧ ordS ns y x = [x] := by
      intro x hx y hy
      clear ha hb ne nn nd
      induction ns with
      | nil => cases hx
      | cons m ms ih =>
        obtain ⟨nm, ndm⟩ := List.nodup_cons.mp nd'
        have hym : m ≠ y := fun e => hy (by rw [e]; exact List.mem_cons_self)
        have hy' : y ∉ ms := fun e => hy (List.mem_cons_of_mem _ e)
        have none_ : ∀ u v : Str, u ∉ ms → v ∉ ms → ordS ms u v = [] := fun u v hu hv => by
          unfold ordS
          rw [List.filter_eq_nil_iff]
          intro k hk
          have h1 : k ≠ u := fun e => hu (e ▸ hk)
          have h2 : k ≠ v := fun e => hv (e ▸ hk)
          simp [h1, h2]
        rcases List.mem_cons.mp hx with rfl | hx'
        · have z1 := none_ x y nm hy'
          have z2 := none_ y x hy' nm
          unfold ordS at z1 z2 ⊢
          rw [List.filter_cons, List.filter_cons, z1, z2]
          simp
        · have hmx : m ≠ x := fun e => nm (e ▸ hx')
          obtain ⟨i1, i2⟩ := ih ndm hx' hy'
          unfold ordS at i1 i2 ⊢
          rw [List.filter_cons, List.filter_cons, i1, i2]
          simp [hmx, hym]
    rcases List.mem_cons.mp ha with rfl | ha'
    · have hb' : b ∈ ns := (List.mem_cons.mp hb).resolve_left fun e => ne e.symm
      have z := (one b hb' a nn).2
      refine ⟨a, b, ?_, .inl ⟨rfl, rfl⟩⟩
      unfold ordS at z ⊢
      rw [List.filter_cons, z]
      simp
    · rcases List.mem_cons.mp hb with rfl | hb'
      · have z := (one a ha' b nn).1
        refine ⟨b, a, ?_, .inr ⟨rfl, rfl⟩⟩
        unfold ordS at z ⊢
        rw [List.filter_cons, z]
        simp
      · have h1 : n ≠ a := fun e => nn (e ▸ ha')
        have h2 : n ≠ b := fun e => nn (e ▸ hb')
        obtain ⟨c, d, e, h⟩ := ord_two nd' ha' hb' ne
        refine ⟨c, d, ?_, h⟩
        unfold ordS at e ⊢
        rw [List.filter_cons, e]
        simp [h1, h2]
/-- a fact of strings -/
def IsF (fo th : List Str) (w a b : Str) : Prop := w ∈ wordsS ∧ a ∈ fo ++ th ∧ b ∈ fo ++ th ∧ a ≠ b ∧ (w = "line" ∨ b ∈ fo)
theorem fact_is {fo th : List Str} {w o p : V} (h : factB fo th w o p = true) : ∃ z a b, w = .str z ∧ o = .str a ∧ p = .str b ∧ IsF fo th z a b := by
  unfold factB at h
  obtain ⟨h1, h⟩ := Bool.and_eq_true_iff.mp h
  obtain ⟨h2, h⟩ := Bool.and_eq_true_iff.mp h
  obtain ⟨h3, h⟩ := Bool.and_eq_true_iff.mp h
  obtain ⟨h4, h5⟩ := Bool.and_eq_true_iff.mp h
  obtain ⟨z, hz, rfl⟩ := inV_mem h1
  obtain ⟨a, ha, rfl⟩ := inV_mem h2
  obtain ⟨b, hb, rfl⟩ := inV_mem h3
  refine ⟨z, a, b, rfl, rfl, rfl, hz, ha, hb, fun e => ?_, ?_⟩
  · subst e
    simp at h4
  · rcases Bool.or_eq_true_iff.mp h5 with h | h
    · have := of_decide_eq_true h
      injection this with e
      exact .inl e
    · obtain ⟨c, hc, e⟩ := inV_mem h
      injection e with e
      exact .inr (e ▸ hc)
theorem is_fact {fo th : List Str} {z a b : Str} (h : IsF fo th z a b) : factB fo th (.str z) (.str a) (.str b) = true := by
  obtain ⟨h1, h2, h3, h4, h5⟩ := h
  unfold factB
  rw [inV_str, inV_str, inV_str, inV_str, decide_eq_true h1, decide_eq_true h2, decide_eq_true h3]
  have : decide (V.str a = V.str b) = false := decide_eq_false fun e => h4 (by injection e)
  rw [this]
  rcases h5 with rfl | h5
  · simp
  · rw [decide_eq_true h5]
    simp
/-- the fact as told -/
def toldS (ns : List Str) (w a b : Str) : List Str := if w = "line" then "line" :: ordS ns a b else [w, a, b]
theorem told_three {fo th : List Str} {w a b : Str} (nd : (fo ++ th).Nodup) (h : IsF fo th w a b) : ∃ c d, toldS (fo ++ th) w a b = [w, c, d] ∧ ((c = a ∧ d = b) ∨ (w = "line" ∧ c = b ∧ d = a)) := by
  unfold toldS
  by_cases e : w = "line"
  · rw [if_pos e]
    obtain ⟨c, d, h1, h2⟩ := ord_two nd h.2.1 h.2.2.1 h.2.2.2.1
    refine ⟨c, d, by rw [h1, e], h2.imp id fun z => ⟨e, z⟩⟩
  · rw [if_neg e]
    exact ⟨a, b, rfl, .inl ⟨rfl, rfl⟩⟩
def spAsTold (K : PySem.W.Frag) (C : Addr) : Sp := fun vs H Q _ => ∃ h x fo th w a b, vs = [.ref h, .ref x] ∧ Hou H K C h fo th ∧ (fo ++ th).Nodup ∧ (fo ++ th).length < sizeLine ∧ IsF fo th w a b ∧ SeqAt2 K H x [.str w, .str a, .str b] ∧
  ∀ t H', Ext H H' → H' t = some (.tup ((toldS (fo ++ th) w a b).map V.str)) → Q (.ref t) H'
abbrev nm_as_told : List Str := ["house", "fact", "word", "one", "other", "first", "second", "node"]
theorem sc_as_told : FnScope nm_as_told ["house", "fact"] (defScope s_as_told) := ⟨rfl, rfl, rfl, by decide +kernel, rfl, by decide +kernel, by decide +kernel⟩
section
variable {P : Program} {w : World} {K : PySem.W.Frag} {mg : Str → Option Value} {base : Heap} {f C CB : Addr} {fd : FuncData}
theorem ok_asTold (Fn : FnP K "as_told" s_as_told f fd) (Z : HouseTxt P w K mg C CB) : FnOk P w K mg base CX0 1 f fd ["house", "fact"] (spAsTold K C) := by
  refine Fn.ok sc_as_told (fun vs H Q E h => ?_) (fun cdv A outer s H vs Q E hr h => ⟨_, PSs.nox
    (pss_cons (ps_asg (pv 1) (pg_seq rfl (pgs_cons (pg_name (i := 2) sc_as_told.nd rfl (Or.inl rfl)) (pgs_cons (pg_name (i := 3) sc_as_told.nd rfl (Or.inr rfl)) (pgs_cons (pg_name (i := 4) sc_as_told.nd rfl (Or.inr rfl)) pgs_nil)))))
      (pss_cons (ps_if (pt_cmpR op_ne (pv 2) pe_str (nomark _)) (pss_one (ps_ret (pe_tup (pa_cons (pv 2) (pa_cons (pv 3) (pa_cons (pv 4) pa_nil)))))) pss_nil)
      (pss_cons (ps_asg (pe_lc (own := [("node", 7)]) (g := (gName 7)) rfl sc_as_told.nd (pi_tup (pe_fld (pv 0) rfl)) (blkOk_by (N := nm_as_told) (sc := defScope s_as_told) (by decide +kernel)) (fun _ _ _ _ _ => (pg_name (i := 7) sc_as_told.nd rfl (Or.inl rfl))) (fun _ _ _ _ _ => pts_one (pt_cmpR (opK (r := fun K => rIn K false) (K := K) rfl op_in_seq) (pv 7) (pe_tup (pa_cons (pv 3) (pa_cons (pv 4) pa_nil))) (by rfl))) (fun _ _ _ _ _ => (pv 7))) (pg_unl rfl (pgs_cons (pg_name (i := 5) sc_as_told.nd rfl (Or.inl rfl)) (pgs_cons (pg_name (i := 6) sc_as_told.nd rfl (Or.inl rfl)) pgs_nil))))
      (pss_one (ps_ret (pe_tup (pa_cons (pv 2) (pa_cons (pv 5) (pa_cons (pv 6) pa_nil))))))))), ?_⟩)
  · obtain ⟨h, x, fo, th, w, a, b, rfl, _⟩ := h
    rfl
  · obtain ⟨ho, x, fo, th, wo, a, b, rfl, hou, nd, hz, hf, sq, q⟩ := h
    refine ⟨_, rfl, x, _, rfl, sq, rfl, ?_⟩
    refine ⟨_, _, rfl, _, _, rfl, _, _, rfl, rfl, ?_⟩
    refine ⟨_, rfl, rfl, _, rfl, ?_⟩
    unfold toldS at q
    refine ite2 (fun e => ?_) fun e => ?_
    · have e' : wo ≠ "line" := fun z => by
        subst z
        exact absurd e (by decide)
      rw [if_neg e'] at q
      refine ⟨_, rfl, _, rfl, _, rfl, Nat.le_of_ble_eq_true rfl, fun t ht => q t _ (Ext.upd ht) upd_same⟩
    · have e' : wo = "line" := by
        have z : V.str wo = V.str "line" := by simpa using e
        injection z
      rw [if_pos e'] at q
      subst e'
      obtain ⟨⟨dx, fs, f, t, n, h1, h2, h3, h4, h5, h6, h7⟩, ok1, ok2⟩ := hou
      refine ⟨_, rfl, ho, C, dx, fs, _, rfl, h1, Z.T.cl, Z.T.nn, h4, n, rfl, ⟨_, h7⟩, fun D hD => ?_⟩
      have enodes : fo.map V.str ++ th.map V.str = (fo ++ th).map V.str := (List.map_append ..).symm
      refine lc_tup (K := K) (a := n) (xs := (fo ++ th).map V.str) (fun i H' => Ext H H' ∧ H' D = some (.lst ((ordS ((fo ++ th).take i) a b).map V.str))) ⟨Ext.upd hD, upd_same⟩ (fun i H' _ p => by rw [← enodes]; exact h7.ext p.1) ?_ ?_
      · intro i v H1 hv ⟨x1, l1⟩
        obtain ⟨z, hz', rfl⟩ : ∃ z, (fo ++ th)[i]? = some z ∧ V.str z = v := by
          rw [List.getElem?_map] at hv
          cases hh : (fo ++ th)[i]? with
          | none => rw [hh] at hv; cases hv
          | some z => rw [hh] at hv; injection hv with hv; exact ⟨z, rfl, hv⟩
        have il : i < (fo ++ th).length := (List.getElem?_eq_some_iff.mp hz').1
        have tk : (fo ++ th).take (i + 1) = (fo ++ th).take i ++ [z] := by
          rw [List.take_add_one, hz']
          rfl
        refine ⟨rfl, _, rfl, _, rfl, _, rfl, Nat.le_of_ble_eq_true rfl, fun T hT => ⟨T, _, rfl, .inr (SqT.of upd_same), rfl, rfl, _, rfl, ?_⟩⟩
        have x2 : Ext H (upd H1 T (.tup [.str a, .str b])) := x1.upd' hT
        have l2 : (upd H1 T (.tup [.str a, .str b])) D = some (.lst ((ordS ((fo ++ th).take i) a b).map V.str)) := Ext.upd hT _ _ l1
        have ein : inV (.str z) [.str a, .str b] = (decide (z = a) || decide (z = b)) := by
          have := inV_str z [a, b]
          rw [show ([.str a, .str b] : List V) = [a, b].map V.str from rfl, this]
          simp
        refine ite2 (fun e => ?_) fun e => ?_
        · have e' : (decide (z = a) || decide (z = b)) = true := by rw [← ein]; exact e
          refine ⟨_, rfl, _, l2, ?_, ?_, ?_⟩
          · rw [List.length_map]
            refine Nat.lt_of_le_of_lt (List.length_filter_le _ _) ?_
            rw [List.length_take]
            omega
          · exact x2.over hD
          · rw [upd_same, tk]
            unfold ordS
            rw [List.filter_append, List.map_append, List.filter_cons, if_pos e']
            rfl
        · have e' : ¬ (decide (z = a) || decide (z = b)) = true := by rw [← ein]; exact e
          refine ⟨x2, ?_⟩
          rw [l2, tk]
          unfold ordS
          rw [List.filter_append, List.filter_cons, if_neg e', List.filter_nil, List.append_nil]
      · intro H1 ⟨x1, l1⟩
        rw [List.length_map, List.take_length] at l1
        obtain ⟨c, d, ecd, _⟩ := ord_two nd hf.2.1 hf.2.2.1 hf.2.2.2.1
        rw [ecd] at l1 q
        refine ⟨D, _, rfl, SqL.of l1, rfl, _, _, rfl, _, _, rfl, rfl, ?_⟩
        exact ⟨_, rfl, _, rfl, _, rfl, Nat.le_of_ble_eq_true rfl, fun t ht => q t _ (x1.upd' ht) upd_same⟩
end
end My

namespace L2
open PySem PySem.Spec PyProof.Rows
/-! ### several except clauses, with names or without -/
abbrev Cl : Type := Value × Option Nat × (Addr → Value → Option Addr → TS)
def wAll (K : PySem.W.Frag) (Wout : WX) (D : Ends) : List Cl → WX
  | [] => Wout
  | (c, none, ts) :: r => fun cls d σ H => ∃ b, PySem.W.exmOne K cls c = some b ∧ (b = true → ∀ a, H a = none → ts a cls d D σ H) ∧ (b = false → wAll K Wout D r cls d σ H)
  | (c, some i, ts) :: r => fun cls d σ H => ∃ b, PySem.W.exmOne K cls c = some b ∧ (b = true → ∀ a, H a = none → i < σ.length → ts a cls d { nx := fun σ' H' => D.nx (σ'.set i none) H', rt := D.rt, bk := fun σ' H' => D.bk (σ'.set i none) H', ct := fun σ' H' => D.ct (σ'.set i none) H' } (σ.set i (some (.ref a))) H) ∧
    (b = false → wAll K Wout D r cls d σ H)
inductive HdsAll (X : Cx) : List ExceptHandler → List Cl → Prop
  | nil : HdsAll X [] []
  | bare {x : Str} {c : Value} {ts : Addr → Value → Option Addr → TS} {b₀ : Stmt} {suite : List Stmt} {np pos' : Pos} {hds : List ExceptHandler} {l : List Cl} (hc : Names X x c)
      (hsu : ∀ (a : Addr) (oe : Obj) (cls : Value) (d : Option Addr) (pn : List (Addr × Obj)), Zc cls d oe → (∃ vs, oe.data = .fields vs) → PSs (X.suite a ((a, oe) :: pn)) (b₀ :: suite) (ts a cls d)) (r : HdsAll X hds l) :
      HdsAll X (.ExceptHandler (some (.Name x np)) none (b₀ :: suite) pos' :: hds) ((c, none, ts) :: l)
  | as {x n : Str} {i : Nat} {c : Value} {ts : Addr → Value → Option Addr → TS} {b₀ : Stmt} {suite : List Stmt} {np pos' : Pos} {hds : List ExceptHandler} {l : List Cl} (hi : X.N[i]? = some n) (hln : X.env.kindOf n = some .local) (hc : Names X x c)
      (hsu : ∀ (a : Addr) (oe : Obj) (cls : Value) (d : Option Addr) (pn : List (Addr × Obj)), Zc cls d oe → (∃ vs, oe.data = .fields vs) → PSs (X.suite a ((a, oe) :: pn)) (b₀ :: suite) (ts a cls d)) (r : HdsAll X hds l) :
      HdsAll X (.ExceptHandler (some (.Name x np)) (some n) (b₀ :: suite) pos' :: hds) ((c, some i, ts) :: l)
section
variable {X : Cx} {body : List Stmt} {h₀ : ExceptHandler} {hds : List ExceptHandler} {l : List Cl} {pos : Pos} {tb : WX → TS} {Wout : WX}
theorem ps_try_all (hs : X.stack = X.env :: X.outer) (hf : X.env.frame = some X.env.locals) (hN : X.N.Nodup) (tk : Takes X Wout)
    (hb : ∀ (W : WX) (pn : List (Addr × Obj)) (xe : Value → Shared → Prop), Takes (X.tr pn xe) W → PassesOwn (model X.prog X.w) X.A X.env xe → PSs (X.tr pn xe) body (tb W))
    (hh : HdsAll X (h₀ :: hds) l) : PS X (.Try body (h₀ :: hds) [] [] pos) (fun D σ H => tb (wAll X.K Wout D l) D σ H) := by
  refine ⟨fun pins s σ H D I h => ?_⟩
  have ok := I.ok
  have hfr : X.A.frames = some (X.env :: X.outer) := by rw [ok.frames, hs]
  refine wpAny_Try_except ?_
  refine wpAny_mono ((hb (wAll X.K Wout D l) (X.pn ++ pins) (fun e s₁ => wpAny (model X.prog X.w) X.A (noteFrame e X.env) (fun _ s₂ => wpAny (model X.prog X.w) X.A (setFlight e none) (fun _ s₃ =>
    wpAny (model X.prog X.w) X.A (handleBy e X.env (h₀ :: hds)) (SP X pins D) X.xe s₃) X.xe s₂) X.xe s₁) (fun u s' xx => ?_) PassesOwn.looking).run [] s σ H D (I.toTry _) h) (fun f s1 hsp => ?_) (fun e s1 he => he)
  · -- the catch
    obtain ⟨a, B, sI, pins', σ', H', cls, d, rfl, J', nb, up, sky, na, os, ag, w⟩ := xx
    have J : Inv X pins σ' H' sI := J'.ofTry ok
    have sky' : Sky B (X.env :: X.outer) a (Zc cls d) X.env.locals s'.heap := by rw [← hs]; exact sky
    show wpAny (model X.prog X.w) X.A (noteFrame (.ref a) X.env) _ _ _
    refine Sky.land Zc.steady hfr hf sky' fun h3 fl3 up3 => ?_
    have J3 : Inv X pins σ' H' { s' with heap := h3 } := J.landed nb fl3.1 (up.trans up3) os ag
    obtain ⟨oe3, vs3, he3, hz3, hd3⟩ := fl3.there
    have notFr : ∀ {h : Heap} {o : Obj} {vs : Array Value}, h.FunFrames B (X.env :: X.outer) → h.get? a = some o → o.data = .fields vs → a ∉ frs (X.env :: X.outer) := fun {h o vs} ff e dd hm => by
      obtain ⟨_, o', e', hnf⟩ := ff.mem hm
      rw [e] at e'; cases e'
      exact hnf _ dd
    have nfr := notFr fl3.2.2.1 he3 hd3
    have nL : a ≠ X.env.locals := fun z => nfr (List.mem_filterMap.mpr ⟨X.env, List.mem_cons_self, by rw [hf, z]⟩)
    have nF : a ∉ X.fs := fun hm => by
      obtain ⟨e, he, q⟩ := List.mem_filterMap.mp hm
      exact nfr (List.mem_filterMap.mpr ⟨e, List.mem_cons_of_mem _ he, q⟩)
    have S3 := J3.suite he3 hd3 na nL nF
    have test : ∀ {x : Str} {c : Value} {np : Pos}, Names X x c → ∀ {Q : Value → Shared → Prop} {E : Value → Shared → Prop}, Q c { s' with heap := h3 } → wpAny (model X.prog X.w) (X.A.mark (some (.ref a))) (eval (.Name x np) X.env) Q E { s' with heap := h3 } := fun {x c np} hc {Q E} q => by
      obtain ⟨hg, hdbg, hm | ⟨hm, hv, hnn⟩⟩ := hc
      · exact ld_glob (X := X.suite a ((a, oe3) :: (X.pn ++ pins))) S3 hg hm q hdbg
      · exact ld_blt (X := X.suite a ((a, oe3) :: (X.pn ++ pins))) S3 hg hm hv q hnn hdbg
    have LT : PySem.W.Looks (model X.prog X.w) h3 (typeOf (.ref a)) cls := fun A Q E s k q => wpAny_typeOf_ref (k _ _ he3) (by rw [hz3.1]; exact q)
    have go : ∀ {hds' : List ExceptHandler} {l' : List Cl}, HdsAll X hds' l' → wAll X.K Wout D l' cls d σ' H' →
        wpAny (model X.prog X.w) X.A (handleBy (.ref a) X.env hds') (SP X pins D) X.xe { s' with heap := h3 } := by
      intro hds' l' hk
      induction hk with
      | nil =>
        intro w
        refine wpAny_handleBy_nil ?_
        obtain ⟨k1, k2, k3, oe, vs, T, oT, ts', he, hz, hd, h1, hr⟩ := id fl3
        unfold PySem.passOn
        refine wpAny_bind (wpAny_field he hd h1 ?_)
        rw [if_neg (show ¬ ((Value.ref T == Value.none) = true) from by simp)]
        have fin : wpAny (model X.prog X.w) X.A (setFlight (.ref a) X.env.frame) (fun _ s4 => wpAny (model X.prog X.w) X.A (throw (.ref a) : Sem Flow) (SP X pins D) X.xe s4) X.xe { s' with heap := h3 } := by
          rw [hf]
          refine HandSPX.setFlight_upZ fl3 fun h4 hh4 up4 => wpAny_throw (tk _ _ ?_)
          exact ⟨a, B, sI, pins, σ', H', cls, d, rfl, J, nb, (up.trans up3).trans up4, .inr (.inr (by rw [hs]; exact hh4)), na, os, ag, w⟩
        first
          | exact wpAny_bind (wpAny_pure (wpAny_bind fin))
          | exact wpAny_bind fin
      | @bare x c ts b₀ suite np pos' hds2 l2 hc hsu r ih =>
        intro w
        obtain ⟨b, hb1, hyes, hno⟩ := w
        refine wpAny_handleBy_cons (codeAny_handlers_test ?_) (by intro q; cases q)
        have LM := PySem.W.exm_one (M := model X.prog X.w) (J3.kIn) LT hb1
        refine test hc (LM.here ?_)
        cases b with
        | true =>
          refine codeAny_handlers_suite ?_
          refine HandSPX.lands_againZ fl3 fun h4 fl4 up4 => ?_
          have J4 : Inv X pins σ' H' { s' with heap := h4 } := J.landed nb fl4.1 ((up.trans up3).trans up4) os ag
          obtain ⟨oe4, vs4, he4, hz4, hd4⟩ := fl4.there
          have S4 := J4.suite he4 hd4 na nL nF
          refine wpAny_mono ((hsu a oe4 cls d (X.pn ++ pins) hz4 ⟨_, hd4⟩).run [] _ _ H' _ S4 (hyes rfl a na)) (fun f s6 hsp => ?_) (fun _ _ z => False.elim z)
          cases f with
          | next =>
            obtain ⟨σ6, H6, S6, q6⟩ := hsp
            exact ⟨_, _, S6.unsuite ok, q6⟩
          | brk =>
            obtain ⟨σ6, H6, S6, q6⟩ := hsp
            exact ⟨_, _, S6.unsuite ok, q6⟩
          | cont =>
            obtain ⟨σ6, H6, S6, q6⟩ := hsp
            exact ⟨_, _, S6.unsuite ok, q6⟩
          | ret u =>
            obtain ⟨v6, σ6, H6, S6, r6, q6⟩ := hsp
            exact ⟨_, _, _, S6.unsuite ok, r6, q6⟩
        | false =>
          show wpAny _ X.A (handleBy (.ref a) X.env hds2) _ _ _
          exact ih (hno rfl)
      | @as x n i c ts b₀ suite np pos' hds2 l2 hi hln hc hsu r ih =>
        intro w
        obtain ⟨b, hb1, hyes, hno⟩ := w
        have hloc : Loc X.env.scope n := .inl hln
        refine wpAny_handleBy_cons (codeAny_handlers_test ?_) (by intro q; cases q)
        have LM := PySem.W.exm_one (M := model X.prog X.w) (J3.kIn) LT hb1
        refine test hc (LM.here ?_)
        cases b with
        | true =>
          refine codeAny_handlers_suite_as ?_
          refine HandSPX.lands_againZ fl3 fun h4 fl4 up4 => ?_
          have J4 : Inv X pins σ' H' { s' with heap := h4 } := J.landed nb fl4.1 ((up.trans up3).trans up4) os ag
          obtain ⟨oe4, vs4, he4, hz4, hd4⟩ := fl4.there
          have S4 := J4.suite he4 hd4 na nL nF
          refine store_ok (X := X.suite a ((a, oe4) :: (X.pn ++ pins))) (v := .ref a) S4 hN hi hloc rfl (fun s5 S5 => ?_) (.inr hln)
          refine wpAny_mono ((hsu a oe4 cls d (X.pn ++ pins) hz4 ⟨_, hd4⟩).run [] s5 _ H' _ S5 (hyes rfl a na (by rw [J.len]; exact (List.getElem?_eq_some_iff.mp hi).1))) (fun f s6 hsp => ?_) (fun _ _ z => False.elim z)
          have end_ : ∀ {σ6 : St} {H6 : Hp} {Q : Shared → Prop}, Inv (X.suite a ((a, oe4) :: (X.pn ++ pins))) [] σ6 H6 s6 → (∀ s7, Inv X pins (σ6.set i none) H6 s7 → Q s7) →
              wpAny (model X.prog X.w) X.A (do bindName X.env n .none; unbindBehindTheSuite X.env n pos') (fun _ s7 => Q s7) X.xe s6 := fun {σ6 H6 Q} S6 hq => gone_ok (S6.unsuite ok) hN hi hln hq
          cases f with
          | next =>
            obtain ⟨σ6, H6, S6, q6⟩ := hsp
            exact end_ S6 fun s7 J7 => ⟨_, _, J7, q6⟩
          | brk =>
            obtain ⟨σ6, H6, S6, q6⟩ := hsp
            exact end_ S6 fun s7 J7 => ⟨_, _, J7, q6⟩
          | cont =>
            obtain ⟨σ6, H6, S6, q6⟩ := hsp
            exact end_ S6 fun s7 J7 => ⟨_, _, J7, q6⟩
          | ret u =>
            obtain ⟨v6, σ6, H6, S6, r6, q6⟩ := hsp
            exact end_ S6 fun s7 J7 => ⟨_, _, _, J7, r6, q6⟩
        | false =>
          show wpAny _ X.A (handleBy (.ref a) X.env hds2) _ _ _
          exact ih (hno rfl)
    exact go hh w
  · cases f with
    | next =>
      obtain ⟨σ', H', J', q⟩ := hsp
      exact wpAny_execs_nil ⟨σ', H', J'.ofTry ok, q⟩
    | brk =>
      obtain ⟨σ', H', J', q⟩ := hsp
      exact ⟨σ', H', J'.ofTry ok, q⟩
    | cont =>
      obtain ⟨σ', H', J', q⟩ := hsp
      exact ⟨σ', H', J'.ofTry ok, q⟩
    | ret u =>
      obtain ⟨v, σ', H', J', r, q⟩ := hsp
      exact ⟨v, σ', H', J'.ofTry ok, r, q⟩
end
end L2

namespace PySem.W
open Lean Elab Tactic Meta PySem PySem.Calls PyProof.Rows
section
variable {prog : Program} {w : World} {A : Around} {E : Value → Shared → Prop} {s : Shared} {K : Frag} {x C f : Addr} {ox : Obj} {od : Option Obj}
/-- what is asked of the right operand's type: the class itself, or a type of the language that is not below it -/
def AddT (K : Frag) (C : Addr) (nm : String) (t : Value) : Prop := t = .ref C ∨ ∃ (T : String) (fo ro : Option Value), t = .type T ∧ findIn K (.type T) (PySem.dunder nm) = some fo ∧ findIn K (.type T) (dunderR nm) = some ro ∧ subIn K (.type T) (.ref C) = some false
theorem bin_own {op : Operator} {b t : Value} {rc : Option Value} {Q : Value → Shared → Prop} (X : K.In s.heap) (I : InstAt s.heap x ox C od) (hb : Looks (model prog w) s.heap (typeOf b) t) (hc : selfFirst K C = true)
    (hs : findIn K (.ref C) (PySem.dunder op.info.2) = some (some (.ref f))) (hf : isFn K (.ref f) = true) (hr : findIn K (.ref C) (dunderR op.info.2) = some rc) (hp : rc = none ∨ ∃ g : Addr, rc = some (.ref g)) (ht : AddT K C op.info.2 t)
    (h : wpAny (model prog w) A (call (.ref f) [.ref x, b]) (CmpBack Q) E s) : wpAny (model prog w) A (binaryOp op (.ref x) b) Q E s := by
  obtain ⟨cd, rest, hcd, hm⟩ := ksp_first hc
  rcases hi : op.info with ⟨sym, nm'⟩
  rw [hi] at hs hr ht
  dsimp only at hs hr ht
  have one := ksp_try X I hs hf h
  obtain ⟨hh, g, d, tt, os⟩ := s
  have L1 : Looks (model prog w) hh (typeOf (.ref x)) (.ref C) := I.type
  have L2 : Looks (model prog w) hh (typeOf b) t := hb
  have L3 : Looks (model prog w) hh (fillsNumberSlot (.ref C) nm') true := fills_K X hcd hm hs
  rcases ht with rfl | ⟨T, fo, ro, rfl, h1, h2, hsub⟩
  · simp only [binaryOp, hi]
    refine wpAny_holding (wpAny_bind ?_)
    unfold binaryOp1
    refine wpAny_bind (L1.at (wpAny_bind (L2.at (wpAny_bind (L3.at ?_)))))
    simp only [beq_self_eq_true, if_true]
    ksp_lk
    refine wpAny_mono one (fun r s' hr' => ?_) fun _ _ e => e
    obtain ⟨v, rfl, hq⟩ := hr'
    ksp_lk
    exact hq
  have L4 : Looks (model prog w) hh (fillsNumberSlot (.type T) nm') ((fo.isSome && !isSeqSlot fo) || (ro.isSome && !isSeqSlot ro)) := ksp_fillsT X h1 h2
  have L5 : Looks (model prog w) hh (isSubtype (.type T) (.ref C)) false := looks_subIn X hsub
  have L6 : Looks (model prog w) hh (numberSlotInPython (.ref C) nm') true := ksp_inPy X hs hr hp
  have L7 : Looks (model prog w) hh (numberSlotInPython (.type T) nm') false := Looks.of_pure rfl
  have L8 : Looks (model prog w) hh (typeLookup (.type T) (dunderR nm')) ro := looks_findIn X h2
  generalize ((fo.isSome && !isSeqSlot fo) || (ro.isSome && !isSeqSlot ro)) = right at L4
  have hne : (Value.ref C == Value.type T) = false := Bool.eq_false_iff.mpr fun q => by cases beq_iff_eq.mp q
  simp only [binaryOp, hi]
  refine wpAny_holding (wpAny_bind ?_)
  unfold binaryOp1
  refine wpAny_bind (L1.at (wpAny_bind (L2.at (wpAny_bind (L3.at ?_)))))
  simp only [hne, Bool.false_eq_true, if_false]
  cases right with
  | false =>
    ksp_lk
    refine wpAny_mono one (fun r s' hr' => ?_) fun _ _ e => e
    obtain ⟨v, rfl, hq⟩ := hr'
    ksp_lk
    exact hq
  | true =>
    ksp_lk
    refine wpAny_mono one (fun r s' hr' => ?_) fun _ _ e => e
    obtain ⟨v, rfl, hq⟩ := hr'
    ksp_lk
    exact hq
end
end PySem.W
namespace L2
open PySem PySem.Spec PyProof.Rows
section
variable {X : Cx} {CI : CXT} {f : Addr} {fd : FuncData} {ps : List Str} {sp : Sp} {EI : XK} {n : Nat}
/-- o + y, o an instance with its own __add__, which gives an object -/
def rAddO (K : PySem.W.Frag) (C : Addr) (sp : Sp) (E : XK) : R2 := fun x y H Q => ∃ a dx fs t, x = .ref a ∧ H a = some (.ins C dx fs) ∧ TyX K H y t ∧ PySem.W.AddT K C "add" t ∧ sp [.ref a, y] H (fun v H' => ∃ b, v = .ref b ∧ Q (.ref b) H') E
structure AddM (K : PySem.W.Frag) (C f : Addr) : Prop where
  m : OwnM K C "__add__" f
  r : PySem.W.findIn K (.ref C) "__radd__" = some none
  s : PySem.W.selfFirst K C = true
theorem op_addO {C : Addr} (hr : Room n X.A) (M : AddM X.K C f) (F : FnOk X.prog X.w X.K X.mg X.base CI n f fd ps sp) (hb : Binds X.K fd ps []) (hx : Passes CI X EI) : OpR X (binaryOp .Add) (rAddO X.K C sp EI) := by
  intro pins s σ H x y v u Q I rx ry h
  obtain ⟨a, dx, fs, t, rfl, ha, ty, at_, hsp⟩ := h
  cases rx
  obtain ⟨mA, J, _⟩ := ins_get I.hok ha
  obtain ⟨od, J, _⟩ := J.look
  obtain ⟨P, Z, p, hx'⟩ := kit_of I ry ty
  refine PySem.W.bin_own (op := .Add) (rc := none) I.kIn J (Z.ty _ _ I.kIn p) M.s M.m.at_ M.m.fn M.r (.inl rfl) at_ ?_
  refine wpAny_mono (run_sub ⟨hr, rfl⟩ F (envSub I ⟨hr, rfl⟩) hb hx I (rv2 a ry) hsp) (fun w s' hq => ?_) fun _ _ z => z
  obtain ⟨z, H', I', rz, b, rfl, q⟩ := hq
  cases rz
  exact ⟨.ref b, H', I', rfl, q⟩
/-- what the right operand may be, by a look -/
def addB (K : PySem.W.Frag) (C : Addr) (T : String) : Bool := (PySem.W.findIn K (.type T) "__add__").isSome && ((PySem.W.findIn K (.type T) "__radd__").isSome && decide (PySem.W.subIn K (.type T) (.ref C) = some false))
theorem addB_ok {K : PySem.W.Frag} {C : Addr} {T : String} (h : addB K C T = true) : PySem.W.AddT K C "add" (.type T) := by
  obtain ⟨h1, h2⟩ := Bool.and_eq_true_iff.mp h
  obtain ⟨h2, h3⟩ := Bool.and_eq_true_iff.mp h2
  obtain ⟨fo, e1⟩ := Option.isSome_iff_exists.mp h1
  obtain ⟨ro, e2⟩ := Option.isSome_iff_exists.mp h2
  exact .inr ⟨T, fo, ro, rfl, e1, e2, of_decide_eq_true h3⟩
end
/-! ### two tuples of one and the same things -/
def plainV : V → Bool
  | .flt _ | .byt _ => false
  | _ => true
theorem eqAt_self {A : Around} {s : Shared} {v : V} {u u' : Value} (r : RelV v u) (r' : RelV v u') (f : plainV v = true) : SeqAt.EqAt A s u u' true := by
  cases v with
  | non => cases r; cases r'; exact SeqAt.EqAt.same _
  | bl b => cases r; cases r'; exact SeqAt.EqAt.same _
  | int i =>
    obtain ⟨t, rfl⟩ := r
    obtain ⟨t', rfl⟩ := r'
    have h := SeqAt.EqAt.int_int (A := A) (s := s) i t i t'
    rw [beq_self_eq_true] at h
    exact h
  | str x =>
    obtain ⟨t, rfl⟩ := r
    obtain ⟨t', rfl⟩ := r'
    have h := SeqAt.EqAt.str_str (A := A) (s := s) x t x t'
    rw [beq_self_eq_true] at h
    exact h
  | byt b => cases f
  | flt b => cases f
  | ref a => cases r; cases r'; exact SeqAt.EqAt.same _
  | ty n => cases r; cases r'; exact SeqAt.EqAt.same _
theorem pair_at : ∀ {vs : List V} {us : List Value}, Vals vs us → ∀ {j : Nat} (h : j < vs.length) (h' : j < us.length), RelV vs[j] us[j]
  | _, _, .cons r _, 0, _, _ => r
  | _, _, .cons _ t, j + 1, h, h' => pair_at t (Nat.lt_of_succ_lt_succ h) (Nat.lt_of_succ_lt_succ h')
section
variable {X : Cx}
def rNeSelf (K : PySem.W.Frag) : R2 := fun x y H Q => ∃ t u vs, x = .ref t ∧ y = .ref u ∧ SqT K H t vs ∧ SqT K H u vs ∧ vs.all plainV = true ∧ Q (.bl false) H
theorem op_neSelf (hu : X.A.units < cLine) : OpR X (compareOp .NotEq) (rNeSelf X.K) := by
  intro pins s σ H x y v u Q I rx ry h
  obtain ⟨a, b, vs, rfl, rfl, ha, hb, fl, q⟩ := h
  cases rx
  cases ry
  obtain ⟨its, rv, h1, _⟩ := I.tuple ha
  obtain ⟨its2, rv2, h2, _⟩ := I.tuple hb
  have n1 := rv.length
  have n2 := rv2.length
  have he : ∀ j (j1 : j < its.toArray.size) (j2 : j < its2.toArray.size), SeqAt.EqAt X.A.in1 s its.toArray[j] its2.toArray[j] true := fun j j1 j2 => by
    have j1' : j < its.length := by simpa using j1
    have j2' : j < its2.length := by simpa using j2
    have jv : j < vs.length := by omega
    have r1 := pair_at rv jv j1'
    have r2 := pair_at rv2 jv j2'
    have fl' : plainV vs[j] = true := List.all_eq_true.mp fl _ (List.getElem_mem jv)
    have z := eqAt_self (A := X.A.in1) (s := s) r1 r2 fl'
    simpa using z
  have z := SeqAt.RcNeAt.tuples (A := X.A) h1 h2 hu (e := fun _ => true) he
  have e : (!((List.range (min its.toArray.size its2.toArray.size)).all (fun _ => true) && its.toArray.size == its2.toArray.size)) = false := by
    have e1 : its.toArray.size = its2.toArray.size := by simp; omega
    rw [e1]
    simp
  rw [e] at z
  exact z X.prog X.w X.xe _ ⟨.bl false, H, I, rfl, q⟩
end
end L2

namespace My
open PySem PySem.Spec PyProof.Rows L2 He
/-! ### what is looked up in the written part, as truths -/
def oexB (K : PySem.W.Frag) (C : Addr) : Bool := (match K.lookup C with
    | some ⟨.type t, _, .cls cd, sl⟩ => decide (t = "type") && (match cd.mro, sl.toList with
      | .ref C' :: bm, [_, _, _, _, some (.builtin n), _] => decide (C' = C) && (decide (n = "ValueError.__new__") && (!cd.hasDel && (cd.hasDict && PySem.HandSPX.refsVE bm)))
      | _, _ => false)
    | _ => false) && (decide (PySem.W.findIn K (.ref C) "__setattr__" = some (some (.builtin "object.__setattr__"))) && (decide (PySem.W.subIn K (.ref C) (.type "BaseException") = some true) &&
    (decide (PySem.W.typeIn K (.ref C) = some (.type "type")) && PySem.W.keepIn K (.ref C))))
theorem oexB_ok {K : PySem.W.Frag} {C : Addr} (h : oexB K C = true) : OexC K C := by
  obtain ⟨h1, h⟩ := ba h
  obtain ⟨h2, h⟩ := ba h
  obtain ⟨h3, h⟩ := ba h
  obtain ⟨h4, h5⟩ := ba h
  refine ⟨?_, of_decide_eq_true h2, of_decide_eq_true h3, of_decide_eq_true h4, h5⟩
  split at h1
  · rename_i t dd cd sl ho
    obtain ⟨k1, k2⟩ := ba h1
    obtain rfl := of_decide_eq_true k1
    split at k2
    · rename_i C' bm k0 k1 k2' k3 n k5 hm hs
      obtain ⟨e1, k2⟩ := ba k2
      obtain ⟨e2, k2⟩ := ba k2
      obtain ⟨e3, k2⟩ := ba k2
      obtain ⟨e4, e5⟩ := ba k2
      obtain rfl := of_decide_eq_true e1
      obtain rfl := of_decide_eq_true e2
      obtain ⟨nm, bs, mro, ns, qn, hd, sn, sub, ab, col, del⟩ := cd
      dsimp only at hm e3 e4
      subst hm
      obtain rfl : hd = true := e4
      obtain rfl : del = false := by
        cases del
        · rfl
        · cases e3
      have hsl : sl = #[k0, k1, k2', k3, some (.builtin "ValueError.__new__"), k5] := by
        obtain ⟨l⟩ := sl
        simp only at hs
        rw [hs]
      subst hsl
      exact ⟨nm, qn, ns, bs, bm, sn, sub, ab, col, dd, k0, k1, k2', k3, k5, ho, e5⟩
    · cases k2
  · cases h1
def kitCB (K : PySem.W.Frag) (C : Addr) : Bool := (PySem.W.clsIn K C).isSome && (decide (PySem.W.findIn K (.ref C) "__class__" = some (some (.builtin "object.__class__"))) &&
  (decide (PySem.W.specialIn K (.builtin "object.__class__") "__get__" = some (some (.builtin "getset_descriptor.__get__"))) && (decide (PySem.W.takesIn K (.builtin "object.__class__") = some true) && decide (PySem.W.mroIn K C (.type "object") = some true))))
theorem kitCB_ok {K : PySem.W.Frag} {C : Addr} (h : kitCB K C = true) : KitC K C := by
  obtain ⟨h1, h⟩ := ba h
  obtain ⟨h2, h⟩ := ba h
  obtain ⟨h3, h⟩ := ba h
  obtain ⟨h4, h5⟩ := ba h
  exact ⟨h1, of_decide_eq_true h2, of_decide_eq_true h3, of_decide_eq_true h4, of_decide_eq_true h5⟩
/-- a class with one field -/
def errB (K : PySem.W.Frag) (x f : Str) : Bool := oexB K (ga K x) && (xfB K (ga K x) && (kitCB K (ga K x) && (decide (PySem.W.findIn K (.ref (ga K x)) "__init__" = some (some (.ref (ma K (ga K x) "__init__")))) &&
  (decide (PySem.W.typeIn K (.ref (ma K (ga K x) "__init__")) = some (.type "function")) && decide (PySem.W.findIn K (.ref (ga K x)) f = some none)))))
theorem errB_ok {K : PySem.W.Frag} {mg : Str → Option Value} {x f : Str} (g : mg x = some (.ref (ga K x))) (h : errB K x f = true) : ErrC K mg x f (ga K x) (ma K (ga K x) "__init__") := by
  obtain ⟨h1, h⟩ := ba h
  obtain ⟨h2, h⟩ := ba h
  obtain ⟨h3, h⟩ := ba h
  obtain ⟨h4, h⟩ := ba h
  obtain ⟨h5, h6⟩ := ba h
  exact ⟨g, oexB_ok h1, xfB_ok h2, kitCB_ok h3, of_decide_eq_true h4, of_decide_eq_true h5, of_decide_eq_true h6⟩
/-! ### the look at the head: facts, defs, and one more truth -/
abbrev AlM : Type := AlD × Bool
def seenM (fa : List Fa) (fn : List DefD) (ex : PySem.W.Frag → Bool) (K : PySem.W.Frag) : AlM := (obsD fa fn K, ex K)
def seenMG (n : Nat) (fa : List Fa) (fn : List DefD) (ex : PySem.W.Frag → Bool) (g : Addr → Option Obj) : AlM := seenM fa fn ex (frG g (asD g n))
def hookM (n : Nat) (fa : List Fa) (fn : List DefD) (ex : PySem.W.Frag → Bool) : PySem.W.Hook where
  α := AlM
  obs := fun s => seenMG n fa fn ex s.heap.get?
  val := fun _ => (valD fn, true)
  says := fun _ h => ∃ K : PySem.W.Frag, K.In h ∧ (SaysD fa fn K ∧ ex K = true)
  of := fun _ _ e => ⟨_, frG_in, congrArg (fun z : AlM => z.1) e, congrArg (fun z : AlM => z.2) e⟩
  keeps := fun _ _ _ ⟨K, hK, c⟩ k => ⟨K, PySem.W.Frag.In.keeps hK k, c⟩
theorem seenMG_eq {n : Nat} {fa : List Fa} {fn : List DefD} {ex : PySem.W.Frag → Bool} {g : Addr → Option Obj} {s : Shared} (h : ∀ a, g a = s.heap.get? a) : seenMG n fa fn ex g = (hookM n fa fn ex).obs s := by
  have e : g = s.heap.get? := funext h
  rw [e] <;> rfl


def aDef (K : PySem.W.Frag) : Addr := dflAt ("House", some "__init__") 0 K
def aDefF (K : PySem.W.Frag) : Addr := dflAt ("Facts", some "__init__") 0 K
def d_BadHouse_init : DefD := ⟨("BadHouse", some "__init__"), "__init__", "BadHouse.__init__", defArgs (inCls (top 3) 0), defBody (inCls (top 3) 0), defScope (inCls (top 3) 0), [], []⟩
def d_BadFact_init : DefD := ⟨("BadFact", some "__init__"), "__init__", "BadFact.__init__", defArgs (inCls (top 4) 0), defBody (inCls (top 4) 0), defScope (inCls (top 4) 0), [], []⟩
def d_BadText_init : DefD := ⟨("BadText", some "__init__"), "__init__", "BadText.__init__", defArgs (inCls (top 5) 0), defBody (inCls (top 5) 0), defScope (inCls (top 5) 0), [], []⟩
def d_is_list : DefD := ⟨("is_list", none), "is_list", "is_list", defArgs (top 9), defBody (top 9), defScope (top 9), [], []⟩
def d_is_name : DefD := ⟨("is_name", none), "is_name", "is_name", defArgs (top 10), defBody (top 10), defScope (top 10), [], []⟩
def d_is_fact : DefD := ⟨("is_fact", none), "is_fact", "is_fact", defArgs (top 13), defBody (top 13), defScope (top 13), [], []⟩
def d_wrong_fact : DefD := ⟨("wrong_fact", none), "wrong_fact", "wrong_fact", defArgs (top 14), defBody (top 14), defScope (top 14), [], []⟩
def d_as_told : DefD := ⟨("as_told", none), "as_told", "as_told", defArgs (top 15), defBody (top 15), defScope (top 15), [], []⟩
def d_each_once : DefD := ⟨("each_once", none), "each_once", "each_once", defArgs (top 16), defBody (top 16), defScope (top 16), [], []⟩
def d_Facts_init : DefD := ⟨("Facts", some "__init__"), "__init__", "Facts.__init__", defArgs (inCls (top 17) 0), defBody (inCls (top 17) 0), defScope (inCls (top 17) 0), [.adr aDefF], []⟩
def d_Facts_told : DefD := ⟨("Facts", some "told"), "told", "Facts.told", defArgs (inCls (top 17) 1), defBody (inCls (top 17) 1), defScope (inCls (top 17) 1), [], []⟩
def d_Facts_add : DefD := ⟨("Facts", some "__add__"), "__add__", "Facts.__add__", defArgs (inCls (top 17) 3), defBody (inCls (top 17) 3), defScope (inCls (top 17) 3), [], []⟩
def d_Facts_len : DefD := ⟨("Facts", some "__len__"), "__len__", "Facts.__len__", defArgs (inCls (top 17) 4), defBody (inCls (top 17) 4), defScope (inCls (top 17) 4), [], []⟩
def d_Facts_contains : DefD := ⟨("Facts", some "__contains__"), "__contains__", "Facts.__contains__", defArgs (inCls (top 17) 5), defBody (inCls (top 17) 5), defScope (inCls (top 17) 5), [], []⟩
def d_Facts_iter : DefD := ⟨("Facts", some "__iter__"), "__iter__", "Facts.__iter__", defArgs (inCls (top 17) 6), defBody (inCls (top 17) 6), defScope (inCls (top 17) 6), [], []⟩
def d_Facts_eq : DefD := ⟨("Facts", some "__eq__"), "__eq__", "Facts.__eq__", defArgs (inCls (top 17) 7), defBody (inCls (top 17) 7), defScope (inCls (top 17) 7), [], []⟩
def d_wrong_name : DefD := ⟨("wrong_name", none), "wrong_name", "wrong_name", defArgs (top 19), defBody (top 19), defScope (top 19), [], []⟩
def d_wrong_part : DefD := ⟨("wrong_part", none), "wrong_part", "wrong_part", defArgs (top 20), defBody (top 20), defScope (top 20), [], []⟩
def d_House_init : DefD := ⟨("House", some "__init__"), "__init__", "House.__init__", defArgs (inCls (top 21) 0), defBody (inCls (top 21) 0), defScope (inCls (top 21) 0), [.adr aDef], []⟩
def d_House_len : DefD := ⟨("House", some "__len__"), "__len__", "House.__len__", defArgs (inCls (top 21) 1), defBody (inCls (top 21) 1), defScope (inCls (top 21) 1), [], []⟩
def d_House_contains : DefD := ⟨("House", some "__contains__"), "__contains__", "House.__contains__", defArgs (inCls (top 21) 2), defBody (inCls (top 21) 2), defScope (inCls (top 21) 2), [], []⟩
def d_House_iter : DefD := ⟨("House", some "__iter__"), "__iter__", "House.__iter__", defArgs (inCls (top 21) 3), defBody (inCls (top 21) 3), defScope (inCls (top 21) 3), [], []⟩
def d_House_eq : DefD := ⟨("House", some "__eq__"), "__eq__", "House.__eq__", defArgs (inCls (top 21) 4), defBody (inCls (top 21) 4), defScope (inCls (top 21) 4), [], []⟩
def d_house_of : DefD := ⟨("house_of", none), "house_of", "house_of", defArgs (top 24), defBody (top 24), defScope (top 24), [], []⟩
def d_fact_of : DefD := ⟨("fact_of", none), "fact_of", "fact_of", defArgs (top 25), defBody (top 25), defScope (top 25), [], []⟩
def d_read : DefD := ⟨("read", none), "read", "read", defArgs (top 26), defBody (top 26), defScope (top 26), [], []⟩
def d__law_cell : DefD := ⟨("_law_cell", none), "_law_cell", "_law_cell", defArgs (top 28), defBody (top 28), defScope (top 28), [], []⟩
def d__law_pool : DefD := ⟨("_law_pool", none), "_law_pool", "_law_pool", defArgs (top 29), defBody (top 29), defScope (top 29), [], []⟩
def d__law_take : DefD := ⟨("_law_take", none), "_law_take", "_law_take", defArgs (top 30), defBody (top 30), defScope (top 30), [], []⟩
def d__law_mixed : DefD := ⟨("_law_mixed", none), "_law_mixed", "_law_mixed", defArgs (top 31), defBody (top 31), defScope (top 31), [], []⟩
def d__law_names : DefD := ⟨("_law_names", none), "_law_names", "_law_names", defArgs (top 32), defBody (top 32), defScope (top 32), [], []⟩
def d__law_house : DefD := ⟨("_law_house", none), "_law_house", "_law_house", defArgs (top 33), defBody (top 33), defScope (top 33), [], []⟩
def d__law_fact : DefD := ⟨("_law_fact", none), "_law_fact", "_law_fact", defArgs (top 34), defBody (top 34), defScope (top 34), [], []⟩
def d__law_is_name : DefD := ⟨("_law_is_name", none), "_law_is_name", "_law_is_name", defArgs (top 35), defBody (top 35), defScope (top 35), [], []⟩
def d__law_are_new : DefD := ⟨("_law_are_new", none), "_law_are_new", "_law_are_new", defArgs (top 36), defBody (top 36), defScope (top 36), [], []⟩
def d__law_can_stand : DefD := ⟨("_law_can_stand", none), "_law_can_stand", "_law_can_stand", defArgs (top 37), defBody (top 37), defScope (top 37), [], []⟩
def d__law_due : DefD := ⟨("_law_due", none), "_law_due", "_law_due", defArgs (top 38), defBody (top 38), defScope (top 38), [], []⟩
def d__law_refused : DefD := ⟨("_law_refused", none), "_law_refused", "_law_refused", defArgs (top 39), defBody (top 39), defScope (top 39), [], []⟩
def d__law_spoilt : DefD := ⟨("_law_spoilt", none), "_law_spoilt", "_law_spoilt", defArgs (top 40), defBody (top 40), defScope (top 40), [], []⟩
def d_law : DefD := ⟨("law", none), "law", "law", defArgs (top 41), defBody (top 41), defScope (top 41), [], []⟩
def fn : List DefD := ([d_BadHouse_init, d_BadFact_init, d_BadText_init, d_is_list, d_is_name, d_is_fact, d_wrong_fact, d_as_told, d_each_once, d_Facts_init, d_Facts_told, d_Facts_add, d_Facts_len, d_Facts_contains] : List DefD) ++ ([d_Facts_iter, d_Facts_eq, d_wrong_name, d_wrong_part, d_House_init, d_House_len, d_House_contains, d_House_iter, d_House_eq, d_house_of, d_fact_of, d_read, d__law_cell, d__law_pool] : List DefD) ++ ([d__law_take, d__law_mixed, d__law_names, d__law_house, d__law_fact, d__law_is_name, d__law_are_new, d__law_can_stand, d__law_due, d__law_refused, d__law_spoilt, d_law] : List DefD)
def fa : List Fa := ([.glo "BadHouse", .glo "BadFact", .glo "BadText", .glo "is_list", .glo "is_name", .glo "is_fact", .glo "wrong_fact", .glo "as_told", .glo "each_once", .glo "Facts", .glo "wrong_name", .glo "wrong_part", .glo "House", .glo "house_of"] : List Fa) ++ ([.glo "fact_of", .glo "read", .glo "_law_cell", .glo "_law_pool", .glo "_law_take", .glo "_law_mixed", .glo "_law_names", .glo "_law_house", .glo "_law_fact", .glo "_law_is_name", .glo "_law_are_new", .glo "_law_can_stand", .glo "_law_due", .glo "_law_refused"] : List Fa) ++ ([.glo "_law_spoilt", .glo "law", .glo "WORDS", .glo "HEADS", .free "int", .free "len", .free "isinstance", .free "range", .free "all", .free "list", .free "tuple", .free "str", .free "enumerate", .free "iter"] : List Fa) ++ ([.free "max", .free "zip", .int "LONGEST" 8, .str "LETTERS" letters, .cls "Facts", .noat "Facts" "house", .noat "Facts" "rows", .meth "Facts" "told", .meth "Facts" "__add__", .meth "Facts" "__len__", .meth "Facts" "__contains__", .meth "Facts" "__iter__", .meth "Facts" "__eq__", .mkr "Facts"] : List Fa) ++ ([.cls "House", .noat "House" "folders", .noat "House" "things", .noat "House" "nodes", .meth "House" "__len__", .meth "House" "__contains__", .meth "House" "__iter__", .meth "House" "__eq__", .mkr "House", .exm "BadText" "BadText" true] : List Fa)
def tyL : List String := ["NoneType", "list", "tuple", "int", "str"]
def dflB (K : PySem.W.Frag) : Bool := match K.lookup (aDef K) with
  | some ⟨.type t, _, .seq its _, _⟩ => decide (t = "tuple") && decide (its.toList = [])
  | _ => false
def strsB : List PySem.Value → List PySem.Str → Bool
  | [], [] => true
  | .str a _ :: us, z :: zs => decide (a = z) && strsB us zs
  | _, _ => false
theorem strsB_ok : ∀ {us : List PySem.Value} {zs : List PySem.Str}, strsB us zs = true → Vals (zs.map V.str) us
  | [], [], _ => .nil
  | .str a t :: us, z :: zs, h => by
    obtain ⟨h1, h2⟩ := ba h
    obtain rfl := of_decide_eq_true h1
    exact .cons ⟨t, rfl⟩ (strsB_ok h2)
def worB (K : PySem.W.Frag) : Bool := match K.lookup (ga K "WORDS") with
  | some ⟨.type t, _, .seq its _, _⟩ => decide (t = "tuple") && strsB its.toList wordsS
  | _ => false
def dflBF (K : PySem.W.Frag) : Bool := match K.lookup (aDefF K) with
  | some ⟨.type t, _, .seq its _, _⟩ => decide (t = "tuple") && decide (its.toList = [])
  | _ => false
theorem dflBF_ok {K : PySem.W.Frag} (h : dflBF K = true) : ∀ H, SqT K H (aDefF K) [] := fun H => by
  unfold dflBF at h
  split at h
  · rename_i t dd its n sl ho
    obtain ⟨h1, h2⟩ := ba h
    obtain rfl := of_decide_eq_true h1
    have h3 : its.toList = [] := of_decide_eq_true h2
    refine .inr ⟨_, its, n, ho, rfl, rfl, ?_, by rw [h3]; exact .nil⟩
    rw [← Array.length_toList, h3]
    exact Nat.zero_le _
  · cases h
def facB (K : PySem.W.Frag) : Bool := kitCB K (ga K "Facts") && (decide (PySem.W.kitOne K (.ref (ga K "Facts")) (.ref (ga K "Facts")) = some true) && (decide (PySem.W.findIn K (.ref (ga K "Facts")) "__ne__" = some (some (.builtin "object.__ne__"))) &&
  ((tyL.all fun T => PySem.W.notFirst K (ga K "Facts") (.type T) && decide (PySem.W.kitOne K (.type T) (.ref (ga K "Facts")) = some false)) && (decide (PySem.W.kitAny K (.ref (ga K "Facts")) [.type "list", .type "tuple"] = some false) && dflBF K))))
def heaB (K : PySem.W.Frag) : Bool := match K.lookup (ga K "HEADS") with
  | some ⟨.type t, _, .seq its _, _⟩ => decide (t = "tuple") && strsB its.toList ["folders", "things"]
  | _ => false
theorem heaB_ok {K : PySem.W.Frag} (h : heaB K = true) : ∀ H, SqT K H (ga K "HEADS") [V.str "folders", V.str "things"] := fun H => by
  unfold heaB at h
  split at h
  · rename_i t dd its n sl ho
    obtain ⟨h1, h2⟩ := ba h
    obtain rfl := of_decide_eq_true h1
    have h3 := strsB_ok h2
    refine .inr ⟨_, its, n, ho, rfl, rfl, ?_, h3⟩
    rw [← Array.length_toList, ← h3.length]
    exact Nat.le_of_ble_eq_true rfl
  · cases h
def addL : List String := ["NoneType", "list", "tuple", "int", "str"]
def houB (K : PySem.W.Frag) : Bool := kitCB K (ga K "House") && (decide (PySem.W.kitOne K (.ref (ga K "House")) (.ref (ga K "House")) = some true) && (decide (PySem.W.findIn K (.ref (ga K "House")) "__ne__" = some (some (.builtin "object.__ne__"))) && (decide (PySem.W.subIn K (.ref (ga K "House")) (.type "str") = some false) && ((tyL.all fun T => PySem.W.notFirst K (ga K "House") (.type T) && decide (PySem.W.kitOne K (.type T) (.ref (ga K "House")) = some false)) && (dflB K && (worB K && (errB K "BadHouse" "index" && (errB K "BadFact" "index" && (errB K "BadText" "line" && (heaB K && ((addL.all fun T => addB K (ga K "Facts") T) && (decide (PySem.W.findIn K (.ref (ga K "Facts")) "__radd__" = some none) && (PySem.W.selfFirst K (ga K "Facts") && (facB K))))))))))))))
theorem dflB_ok {K : PySem.W.Frag} (h : dflB K = true) : ∀ H, SqT K H (aDef K) [] := fun H => by
  unfold dflB at h
  split at h
  · rename_i t dd its n sl ho
    obtain ⟨h1, h2⟩ := ba h
    obtain rfl := of_decide_eq_true h1
    have h3 : its.toList = [] := of_decide_eq_true h2
    refine .inr ⟨_, its, n, ho, rfl, rfl, ?_, by rw [h3]; exact .nil⟩
    rw [← Array.length_toList, h3]
    exact Nat.zero_le _
  · cases h
theorem worB_ok {K : PySem.W.Frag} (h : worB K = true) : ∀ H, SqT K H (ga K "WORDS") (wordsS.map V.str) := fun H => by
  unfold worB at h
  split at h
  · rename_i t dd its n sl ho
    obtain ⟨h1, h2⟩ := ba h
    obtain rfl := of_decide_eq_true h1
    have h3 := strsB_ok h2
    refine .inr ⟨_, its, n, ho, rfl, rfl, ?_, h3⟩
    rw [← Array.length_toList, ← h3.length]
    exact Nat.le_of_ble_eq_true rfl
  · cases h

def loose : List PySem.Str := (["_wall", "HouseError", "BadHouse", "BadFact", "BadText", "is_list", "is_name", "is_fact", "wrong_fact", "as_told", "each_once", "Facts", "wrong_name", "wrong_part"] : List PySem.Str) ++ (["House", "house_of", "fact_of", "read", "_law_cell", "_law_pool", "_law_take", "_law_mixed", "_law_names", "_law_house", "_law_fact", "_law_is_name", "_law_are_new", "_law_can_stand"] : List PySem.Str) ++ (["_law_due", "_law_refused", "_law_spoilt", "law", "WORDS", "HEADS", "LETTERS", "LONGEST", "int", "len", "isinstance", "range", "all", "list"] : List PySem.Str) ++ (["tuple", "str", "enumerate", "iter", "max", "zip"] : List PySem.Str)
abbrev Rw : PySem.W.OpenRow := PySem.W.OpenLaw.row PySem.Challenge.rw_whatopened_k21_texts_refused
abbrev hk : PySem.W.Hook := hookM 5 fa fn houB
def ob (s : PySem.W.SharedT) : AlM := seenMG 5 fa fn houB (HandSHeadRun.getT s)
theorem ob_eq (s : PySem.W.SharedT) : ob s = hk.obs s.abs := seenMG_eq (HandSHeadRun.getT_eq s)
end My

namespace My
open PySem PySem.Spec PyProof.Rows L2 He
theorem run (w : World) : HandSHeadRun.RunEq Rw (PySem.W.view Rw.prog [41]) hk ob 8000 loose w := by
  intro os
  kernel_rfl
end My

namespace My
open PySem PySem.Spec PyProof.Rows L2
/-! ### what is against a fact -/
/-- rows of texts, each a tuple -/
def Rows (K : PySem.W.Frag) (H : Hp) : List V → List (List Str) → Prop
  | [], [] => True
  | x :: xs, r :: rs => (∃ t, x = .ref t ∧ SqT K H t (r.map V.str)) ∧ Rows K H xs rs
  | _, _ => False
theorem Rows.ext {K : PySem.W.Frag} {H H' : Hp} (e : Ext H H') : ∀ {xs : List V} {rs : List (List Str)}, Rows K H xs rs → Rows K H' xs rs
  | [], [], _ => True.intro
  | _ :: _, _ :: _, ⟨⟨t, e1, h⟩, hr⟩ => ⟨⟨t, e1, h.ext e⟩, Rows.ext e hr⟩
  | [], _ :: _, h => h.elim
  | _ :: _, [], h => h.elim
theorem Rows.len {K : PySem.W.Frag} {H : Hp} : ∀ {xs : List V} {rs : List (List Str)}, Rows K H xs rs → xs.length = rs.length
  | [], [], _ => rfl
  | _ :: _, _ :: _, ⟨_, hr⟩ => congrArg (· + 1) (Rows.len hr)
  | [], _ :: _, h => h.elim
  | _ :: _, [], h => h.elim
theorem Rows.app {K : PySem.W.Frag} {H : Hp} : ∀ {xs ys : List V} {rs ss : List (List Str)}, Rows K H xs rs → Rows K H ys ss → Rows K H (xs ++ ys) (rs ++ ss)
  | [], _, [], _, _, h => h
  | _ :: _, _, _ :: _, _, ⟨h1, h2⟩, h => ⟨h1, Rows.app h2 h⟩
  | [], _, _ :: _, _, h, _ => h.elim
  | _ :: _, _, [], _, h, _ => h.elim
theorem Rows.at_ {K : PySem.W.Frag} {H : Hp} : ∀ {xs : List V} {rs : List (List Str)} {i : Nat} {x : V}, Rows K H xs rs → xs[i]? = some x → ∃ t r, x = .ref t ∧ SqT K H t (r.map V.str) ∧ rs[i]? = some r
  | _ :: _, r :: _, 0, _, ⟨⟨t, e1, h⟩, _⟩, e => by
    injection e with e
    subst e
    exact ⟨t, r, e1, h, rfl⟩
  | _ :: xs, _ :: rs, i + 1, x, ⟨_, h⟩, e => Rows.at_ (xs := xs) (rs := rs) h e
  | [], [], _, _, _, e => by cases e
  | [], _ :: _, _, _, h, _ => h.elim
  | _ :: _, [], _, _, h, _ => h.elim
/-- a list of rows -/
def RowsAt (K : PySem.W.Frag) (H : Hp) (l : Addr) (rs : List (List Str)) : Prop := ∃ xs, H l = some (.lst xs) ∧ Rows K H xs rs
theorem RowsAt.ext {K : PySem.W.Frag} {H H' : Hp} {l : Addr} {rs : List (List Str)} (h : RowsAt K H l rs) (e : Ext H H') : RowsAt K H' l rs := by
  obtain ⟨xs, h1, h2⟩ := h
  exact ⟨xs, e _ _ h1, h2.ext e⟩
theorem Rows.upd {K : PySem.W.Frag} {H : Hp} {l : Addr} {ys zs : List V} (hl : H l = some (.lst ys)) : ∀ {xs : List V} {rs : List (List Str)}, Rows K H xs rs → Rows K (L2.upd H l (.lst zs)) xs rs
  | [], [], _ => True.intro
  | _ :: _, _ :: _, ⟨⟨t, e1, h⟩, hr⟩ => ⟨⟨t, e1, sqT_upd h hl⟩, Rows.upd hl hr⟩
  | [], _ :: _, h => h.elim
  | _ :: _, [], h => h.elim
def agS (fo : List Str) (w c d : Str) : List (List Str) := if w = "below" then [["not", c, d]] else if w = "not" then [["below", c, d]] else (([(c, d), (d, c)] : List (Str × Str)).filter fun p => decide (p.2 ∈ fo)).map fun p => ["not", p.1, p.2]
/-- the same of a fact as it stands -/
def agF (fo th : List Str) (w a b : Str) : List (List Str) := match toldS (fo ++ th) w a b with
  | [w, c, d] => agS fo w c d
  | _ => []
end My

namespace My
open PySem PySem.Spec PyProof.Rows L2
/-- list(a) of a list or a tuple -/
def rLstS (K : PySem.W.Frag) : List V → Hp → VK → Prop := fun xs H Q => ∃ a zs, xs = [.ref a] ∧ SeqAt2 K H a zs ∧ ∀ l, H l = none → Q (.ref l) (L2.upd H l (.lst zs))
theorem call_lstS {X : Cx} : CallR X (.type "list") (rLstS X.K) := by
  intro pins s σ H xs us Q I rv h
  obtain ⟨a, zs, rfl, sq, q⟩ := h
  exact call_list_of pins s σ H _ us Q I rv ⟨a, zs, rfl, sq, q⟩
/-! ### dicts with text keys -/
abbrev Dic : Type := List (Str × V)
def kd (d : Dic) : List (Key × V) := d.map fun p => (Sum.inr p.1, p.2)
def getD (d : Dic) (z : Str) : Option V := (d.find? fun p => decide (p.1 = z)).map (·.2)
theorem val_kd (z : Str) : ∀ d : Dic, valV (kd d) (Sum.inr z) = getD d z
  | [] => rfl
  | (y, v) :: d => by
    have ih := val_kd z d
    unfold valV getD kd at *
    rw [List.map_cons, List.find?_cons, List.find?_cons]
    by_cases e : y = z
    · subst e
      simp
    · have e2 : ¬ ((Sum.inr y : Key) = Sum.inr z) := fun h => e (by injection h)
      simp only [e, e2, decide_false]
      exact ih
def setD (d : Dic) (z : Str) (v : V) : Dic := if (d.any fun p => decide (p.1 = z)) = true then d.map fun p => if p.1 = z then (p.1, v) else p else d ++ [(z, v)]
theorem any_kd (z : Str) (d : Dic) : ((kd d).any fun kv => decide (kv.1 = Sum.inr z)) = d.any fun p => decide (p.1 = z) := by
  unfold kd
  rw [List.any_map]
  congr 1
  funext p
  show decide ((Sum.inr p.1 : Key) = Sum.inr z) = decide (p.1 = z)
  by_cases e : p.1 = z
  · rw [decide_eq_true e, decide_eq_true (by rw [e])]
  · rw [decide_eq_false e, decide_eq_false fun h => e (by injection h)]
theorem put_kd (d : Dic) (z : Str) (v : V) : putK (kd d) (Sum.inr z) v = kd (setD d z v) := by
  unfold putK setD
  rw [any_kd]
  by_cases h : (d.any fun p => decide (p.1 = z)) = true
  · rw [if_pos h, if_pos h]
    unfold kd
    rw [List.map_map, List.map_map]
    refine List.map_congr_left fun p _ => ?_
    show (if (Sum.inr p.1 : Key) = Sum.inr z then ((Sum.inr p.1 : Key), v) else (Sum.inr p.1, p.2)) = _
    by_cases e : p.1 = z
    · rw [if_pos (by rw [e])]
      simp [e]
    · rw [if_neg fun h => e (by injection h)]
      simp [e]
  · rw [if_neg h, if_neg h]
    unfold kd
    rw [List.map_append]
    rfl
theorem setD_len (d : Dic) (z : Str) (v : V) : (setD d z v).length ≤ d.length + 1 := by
  unfold setD
  split
  · rw [List.length_map]
    exact Nat.le_succ _
  · rw [List.length_append]
    exact Nat.le_refl _
theorem setD_mem {d : Dic} {z : Str} {v : V} {p : Str × V} (h : p ∈ setD d z v) : p ∈ d ∨ p.2 = v := by
  unfold setD at h
  split at h
  · obtain ⟨q, hq, e⟩ := List.mem_map.mp h
    by_cases c : q.1 = z
    · rw [if_pos c] at e
      exact .inr (by rw [← e])
    · rw [if_neg c] at e
      exact .inl (e ▸ hq)
  · rcases List.mem_append.mp h with h | h
    · exact .inl h
    · rw [List.mem_singleton.mp h]
      exact .inr rfl
theorem getD_mem {d : Dic} {z : Str} {v : V} (h : getD d z = some v) : ∃ p, p ∈ d ∧ p.2 = v := by
  unfold getD at h
  cases e : d.find? fun p => decide (p.1 = z) with
  | none => rw [e] at h; cases h
  | some p =>
    rw [e] at h
    injection h with h
    exact ⟨p, List.mem_of_find?_eq_some e, h⟩
/-- the worths: None or folders -/
def DicOk (fo : List Str) (d : Dic) : Prop := ∀ p, p ∈ d → p.2 = .non ∨ ∃ z, z ∈ fo ∧ p.2 = .str z
def Opt (fo : List Str) (v : V) : Prop := v = .non ∨ ∃ z, z ∈ fo ∧ v = .str z
theorem getD_opt {fo : List Str} {d : Dic} (h : DicOk fo d) (z : Str) : Opt fo ((getD d z).getD .non) := by
  cases e : getD d z with
  | none => exact .inl rfl
  | some v =>
    obtain ⟨p, hp, e2⟩ := getD_mem e
    rw [← e2]
    exact h p hp
def stepV (d : Dic) : V → V
  | .str z => (getD d z).getD .non
  | v => v
theorem step_opt {fo : List Str} {d : Dic} (h : DicOk fo d) {v : V} (hv : Opt fo v) : Opt fo (stepV d v) := by
  rcases hv with rfl | ⟨z, _, rfl⟩
  · exact .inl rfl
  · exact getD_opt h z
/-! ### rows as data -/
def rowsD (rs : List (List Str)) : PyData := .list (rs.map fun r => .tuple (r.map PyData.str))
def OkR (rs : List (List Str)) : Prop := ∀ r, r ∈ rs → OkS r
theorem rows_dp {K : PySem.W.Frag} {H : Hp} : ∀ {xs : List V} {rs : List (List Str)}, Rows K H xs rs → DpAll K H xs (rs.map fun r => PyData.tuple (r.map PyData.str))
  | [], [], _ => .nil
  | _ :: _, r :: _, ⟨⟨t, e, h⟩, hr⟩ => by
    subst e
    exact .cons (.tup h (dpAll_str r)) (rows_dp hr)
  | [], _ :: _, h => h.elim
  | _ :: _, [], h => h.elim
theorem rows_shaped {rs : List (List Str)} (h : OkR rs) : SeqAt.shaped (rowsD rs) = true := shaped_ds _ fun d hd => by
  obtain ⟨r, hr, rfl⟩ := List.mem_map.mp hd
  exact flat_tup r (h r hr)
theorem eqvAll_rows : ∀ rs ss : List (List Str), PyData.eqvAll (rs.map fun r => PyData.tuple (r.map PyData.str)) (ss.map fun r => PyData.tuple (r.map PyData.str)) = decide (rs = ss)
  | [], [] => rfl
  | [], _ :: _ => rfl
  | _ :: _, [] => rfl
  | r :: rs, s :: ss => by
    show (PyData.eqv (.tuple (r.map PyData.str)) (.tuple (s.map PyData.str)) && PyData.eqvAll (rs.map fun r => PyData.tuple (r.map PyData.str)) (ss.map fun r => PyData.tuple (r.map PyData.str))) = _
    rw [eqvAll_rows rs ss, eqv_strT]
    by_cases h : r = s
    · subst h
      simp
    · simp [h]
theorem eqv_rows (rs ss : List (List Str)) : PyData.eqv (rowsD rs) (rowsD ss) = decide (rs = ss) := eqvAll_rows rs ss
def Three (rs : List (List Str)) : Prop := ∀ r, r ∈ rs → ∃ w a b, r = [w, a, b]
theorem filter_all {α : Type} (p : α → Bool) : ∀ xs : List α, decide (xs.filter (fun x => !p x) = ([] : List α)) = xs.all p
  | [] => rfl
  | x :: xs => by
    have ih := filter_all p xs
    rw [List.filter_cons, List.all_cons]
    cases h : p x with
    | true => simpa using ih
    | false => simp
theorem kd_len (d : Dic) : (kd d).length = d.length := List.length_map _
theorem ext_none {H H' : Hp} {p : Addr} (e : Ext H H') (h : H' p = none) : H p = none := by
  cases hh : H p with
  | none => rfl
  | some u => exact absurd (e p u hh) (by rw [h]; exact fun z => nomatch z)
theorem strs_at {zs : List Str} {i : Nat} {v : V} (h : (zs.map V.str)[i]? = some v) : ∃ z, zs[i]? = some z ∧ v = .str z := by
  rw [List.getElem?_map] at h
  cases e : zs[i]? with
  | none => rw [e] at h; cases h
  | some z =>
    rw [e] at h
    injection h with h
    exact ⟨z, rfl, h.symm⟩
/-! ### lines in the order of the house -/
theorem ord_app (a b : Str) (xs ys : List Str) : ordS (xs ++ ys) a b = ordS xs a b ++ ordS ys a b := List.filter_append ..
theorem ord_none {ns : List Str} {a b : Str} (ha : a ∉ ns) (hb : b ∉ ns) : ordS ns a b = [] := by
  unfold ordS
  rw [List.filter_eq_nil_iff]
  intro k hk
  have h1 : k ≠ a := fun e => ha (e ▸ hk)
  have h2 : k ≠ b := fun e => hb (e ▸ hk)
  simp [h1, h2]
theorem ord_comm (ns : List Str) (a b : Str) : ordS ns a b = ordS ns b a := by
  unfold ordS
  congr 1
  funext n
  rw [Bool.or_comm]
theorem ord_lt : ∀ {ns : List Str} {a b : Str} {i j : Nat}, ns.Nodup → ns[i]? = some a → ns[j]? = some b → i < j → ordS ns a b = [a, b]
  | n :: ns, a, b, 0, j + 1, nd, ha, hb, _ => by
    obtain ⟨nn, nd'⟩ := List.nodup_cons.mp nd
    injection ha with ha
    subst ha
    have hb' : b ∈ ns := List.mem_of_getElem? hb
    have nb : n ≠ b := fun e => nn (e ▸ hb')
    obtain ⟨c, d, e, h⟩ := ord_two nd List.mem_cons_self (List.mem_cons_of_mem _ hb') nb
    have e0 := e
    unfold ordS at e
    rw [List.filter_cons, if_pos (by simp)] at e
    injection e with e1 e2
    rw [e0]
    rcases h with ⟨h1, h2⟩ | ⟨h1, h2⟩
    · rw [h1, h2]
    · exact absurd (e1.trans h1) nb
  | n :: ns, a, b, i + 1, j + 1, nd, ha, hb, h => by
    obtain ⟨nn, nd'⟩ := List.nodup_cons.mp nd
    have ha' : a ∈ ns := List.mem_of_getElem? (i := i) ha
    have hb' : b ∈ ns := List.mem_of_getElem? (i := j) hb
    have h1 : n ≠ a := fun e => nn (e ▸ ha')
    have h2 : n ≠ b := fun e => nn (e ▸ hb')
    have ih := ord_lt (ns := ns) (i := i) (j := j) nd' ha hb (Nat.lt_of_succ_lt_succ h)
    unfold ordS at ih ⊢
    rw [List.filter_cons, ih]
    simp [h1, h2]
theorem agF_line {fo th : List Str} {a b c d : Str} (h : ordS (fo ++ th) a b = [c, d]) : agF fo th "line" a b = (([(c, d), (d, c)] : List (Str × Str)).filter fun p => decide (p.2 ∈ fo)).map fun p => [("not" : Str), p.1, p.2] := by
  unfold agF toldS
  rw [if_pos rfl, h]
  show agS fo "line" c d = _
  unfold agS
  rw [if_neg (by decide), if_neg (by decide)]
theorem agF_other {fo th : List Str} {w a b : Str} (h : w ≠ "line") : agF fo th w a b = agS fo w a b := by
  unfold agF toldS
  rw [if_neg h]
theorem strs_idx {ns : List Str} {j : Nat} {z : Str} (nd : ns.Nodup) (h : ns[j]? = some z) : ∀ (m : Nat) (z' : V), m < j → (ns.map V.str)[m]? = some z' → eqV z' (.str z) = false := fun m z' hm e => by
  obtain ⟨y, hy, rfl⟩ := strs_at e
  cases hh : eqV (.str y) (.str z) with
  | false => rfl
  | true =>
    have e2 : (V.str z) = .str y := eqV_strE hh
    injection e2 with e2
    subst e2
    obtain ⟨h1, e1⟩ := List.getElem?_eq_some_iff.mp h
    obtain ⟨h2, e3⟩ := List.getElem?_eq_some_iff.mp hy
    have := (List.getElem_inj nd).mp (e1.trans e3.symm)
    omega
theorem ag_three {fo th : List Str} {w a b : Str} (nd : (fo ++ th).Nodup) (h : IsF fo th w a b) : ∀ r, r ∈ agF fo th w a b → ∃ w2 a2 b2, r = [w2, a2, b2] ∧ w2 ∈ wordsS ∧ a2 ∈ fo ++ th ∧ b2 ∈ fo ++ th := fun r hr => by
  obtain ⟨c, d, et, hcd⟩ := told_three nd h
  have hc : c ∈ fo ++ th := by
    rcases hcd with ⟨rfl, rfl⟩ | ⟨_, rfl, rfl⟩
    · exact h.2.1
    · exact h.2.2.1
  have hd : d ∈ fo ++ th := by
    rcases hcd with ⟨rfl, rfl⟩ | ⟨_, rfl, rfl⟩
    · exact h.2.2.1
    · exact h.2.1
  unfold agF at hr
  rw [et] at hr
  have hr : r ∈ agS fo w c d := hr
  unfold agS at hr
  split at hr
  · rw [List.mem_singleton.mp hr]
    exact ⟨_, _, _, rfl, by decide, hc, hd⟩
  · split at hr
    · rw [List.mem_singleton.mp hr]
      exact ⟨_, _, _, rfl, by decide, hc, hd⟩
    · obtain ⟨p, hp, rfl⟩ := List.mem_map.mp hr
      have hp := (List.mem_filter.mp hp).1
      rcases List.mem_cons.mp hp with rfl | hp
      · exact ⟨_, _, _, rfl, by decide, hc, hd⟩
      · rw [List.mem_singleton.mp hp]
        exact ⟨_, _, _, rfl, by decide, hd, hc⟩
theorem ag_len {fo th : List Str} {w a b : Str} (nd : (fo ++ th).Nodup) (h : IsF fo th w a b) : (agF fo th w a b).length ≤ 2 := by
  obtain ⟨c, d, et, _⟩ := told_three nd h
  unfold agF
  rw [et]
  show (agS fo w c d).length ≤ 2
  unfold agS
  split
  · exact Nat.le_of_ble_eq_true rfl
  · split
    · exact Nat.le_of_ble_eq_true rfl
    · rw [List.length_map]
      exact Nat.le_trans (List.length_filter_le _ _) (Nat.le_of_ble_eq_true rfl)
theorem sqT_butL {K : PySem.W.Frag} {H H' : Hp} {p t : Addr} {ys xs : List V} (hp : H p = some (.lst ys)) (b : But H H' p) (h : SqT K H t xs) : SqT K H' t xs := by
  rcases h with (h | ⟨o, h⟩) | h
  · exact .inl (.inl (b _ _ (ne_of h hp (fun z => nomatch z)) h))
  · exact .inl (.inr ⟨o, b _ _ (ne_of h hp (fun z => nomatch z)) h⟩)
  · exact .inr h
theorem Rows.butL {K : PySem.W.Frag} {H H' : Hp} {p : Addr} {ys : List V} (hp : H p = some (.lst ys)) (b : But H H' p) : ∀ {xs : List V} {rs : List (List Str)}, Rows K H xs rs → Rows K H' xs rs
  | [], [], _ => True.intro
  | _ :: _, _ :: _, ⟨⟨t, e1, h⟩, hr⟩ => ⟨⟨t, e1, sqT_butL hp b h⟩, Rows.butL hp b hr⟩
  | [], _ :: _, h => h.elim
  | _ :: _, [], h => h.elim
theorem hou_butL {H H' : Hp} {K : PySem.W.Frag} {C h p : Addr} {fo th : List Str} {ys : List V} (hp : H p = some (.lst ys)) (b : But H H' p) (hh : Hou H K C h fo th) : Hou H' K C h fo th := by
  obtain ⟨⟨dx, fs, f, t, n, h1, h2, h3, h4, h5, h6, h7⟩, k⟩ := hh
  exact ⟨⟨dx, fs, f, t, n, b _ _ (ne_of h1 hp (fun z => nomatch z)) h1, h2, h3, h4, sqT_butL hp b h5, sqT_butL hp b h6, sqT_butL hp b h7⟩, k⟩
theorem Pool.lst {H : Hp} {p : Addr} {n : Int} (h : Pool H p n) : ∃ ys, H p = some (.lst ys) := by
  obtain ⟨g, m, c, h, _⟩ := h
  exact ⟨_, h⟩
theorem ext_but' {H H1 H2 : Hp} {p : Addr} (x : Ext H H1) (h : H p = none) (b : But H1 H2 p) : Ext H H2 := fun a u e => b a u (ne_of_none e h) (x a u e)
theorem cutV_takeA {xs : List V} {k : Nat} : cutV xs none (some ((k : Nat) : Int)) = xs.take k := by
  unfold cutV
  rw [HT.sIx_none, HT.sIx_nat, Nat.sub_zero, List.drop_zero]
  rcases Nat.le_total k xs.length with h | h
  · rw [Nat.min_eq_left h]
  · rw [Nat.min_eq_right h, List.take_of_length_le (Nat.le_refl _), List.take_of_length_le h]
/-! ### what is no fact -/
theorem no_kit {K : PySem.W.Frag} {H : Hp} {fo th : List Str} {x : V} {a : String} (h : TyX K H x (.type a)) (h1 : kitB a "list" = some false) (h2 : kitB a "tuple" = some false) : FactOf K H fo th x false := .inl ⟨rfl, _, h, kit_no h1 h2⟩
theorem no_len {K : PySem.W.Frag} {H : Hp} {fo th : List Str} {a : Addr} {xs : List V} (h : SeqAt2 K H a xs) (n : xs.length ≠ 3) : FactOf K H fo th (.ref a) false := .inr (.inl ⟨rfl, a, xs, rfl, h, n⟩)
theorem no_fact {K : PySem.W.Frag} {H : Hp} {fo th : List Str} {a : Addr} {w o p : V} (h : SeqAt2 K H a [w, o, p]) (h1 : Itm K H w) (h2 : Itm K H o) (h3 : Itm K H p) (e : factB fo th w o p = false) : FactOf K H fo th (.ref a) false := .inr (.inr ⟨a, w, o, p, rfl, h, h1, h2, h3, e.symm⟩)
theorem fb_w {fo th : List Str} {w o p : V} (h : inV w (wordsS.map V.str) = false) : factB fo th w o p = false := by
  unfold factB
  rw [h, Bool.false_and]
theorem fb_o {fo th : List Str} {w o p : V} (h : inV o ((fo ++ th).map V.str) = false) : factB fo th w o p = false := by
  unfold factB
  rw [h, Bool.false_and, Bool.and_false]
theorem fb_p {fo th : List Str} {w o p : V} (h : inV p ((fo ++ th).map V.str) = false) : factB fo th w o p = false := by
  unfold factB
  rw [h, Bool.false_and, Bool.and_false, Bool.and_false]
theorem fb_eq {fo th : List Str} {w o : V} : factB fo th w o o = false := by
  unfold factB
  rw [decide_eq_true (rfl : o = o)]
  simp
theorem fb_fo {fo th : List Str} {w o p : V} (hw : w ≠ .str "line") (h : inV p (fo.map V.str) = false) : factB fo th w o p = false := by
  unfold factB
  rw [h, decide_eq_false hw]
  simp
theorem inV_not {z : Str} {zs : List Str} (h : z ∉ zs) : inV (.str z) (zs.map V.str) = false := by
  rw [inV_str]
  exact decide_eq_false h
theorem inV_non (zs : List Str) : inV .non (zs.map V.str) = false := inV_no (fun _ => rfl) zs
/-- a fact under any L that tells what lies below what -/
def holdsG (L : Str → Str → Bool) (w a b : Str) : Bool := if w = "below" then L a b else if w = "not" then !L a b else L a b || L b a
def holdsGR (L : Str → Str → Bool) : List Str → Bool
  | [w, a, b] => holdsG L w a b
  | _ => true
theorem ag_allG {fo th : List Str} {L : Str → Str → Bool} {w a b : Str} (hL : ∀ x y, y ∉ fo → L x y = false) (nd : (fo ++ th).Nodup) (h : IsF fo th w a b) : (agF fo th w a b).all (holdsGR L) = !holdsG L w a b := by
  have hn : ∀ x y, holdsG L "not" x y = !L x y := fun x y => by
    unfold holdsG
    rw [if_neg (by decide), if_pos rfl]
  by_cases e1 : w = "below"
  · subst e1
    rw [agF_other (by decide)]
    show (holdsG L "not" a b && true) = !holdsG L "below" a b
    rw [hn, Bool.and_true]
    rfl
  by_cases e2 : w = "not"
  · subst e2
    rw [agF_other (by decide), hn, Bool.not_not]
    show (holdsG L "below" a b && true) = L a b
    rw [Bool.and_true]
    rfl
  obtain rfl : w = "line" := by
    have z := h.1
    unfold wordsS at z
    simp at z
    rcases z with z | z | z
    · exact absurd z e1
    · exact absurd z e2
    · exact z
  obtain ⟨c, e, ho, hh⟩ := ord_two nd h.2.1 h.2.2.1 h.2.2.2.1
  rw [agF_line ho]
  have one : ∀ x y : Str, ((([(x, y)] : List (Str × Str)).filter fun p => decide (p.2 ∈ fo)).map fun p => [("not" : Str), p.1, p.2]).all (holdsGR L) = !L x y := fun x y => by
    by_cases m : y ∈ fo
    · rw [List.filter_cons, if_pos (decide_eq_true m)]
      show (holdsG L "not" x y && true) = _
      rw [hn, Bool.and_true]
    · rw [List.filter_cons, if_neg (show ¬ decide ((x, y).2 ∈ fo) = true from fun z => m (of_decide_eq_true z)), hL x y m]
      rfl
  have two : ((([(c, e), (e, c)] : List (Str × Str)).filter fun p => decide (p.2 ∈ fo)).map fun p => [("not" : Str), p.1, p.2]).all (holdsGR L) = (!L c e && !L e c) := by
    rw [← one c e, ← one e c, ← List.all_append, ← List.map_append, ← List.filter_append]
    rfl
  rw [two]
  have hb : holdsG L "line" a b = (L a b || L b a) := by
    unfold holdsG
    rw [if_neg (by decide), if_neg (by decide)]
  rw [hb]
  rcases hh with ⟨rfl, rfl⟩ | ⟨rfl, rfl⟩
  · cases L c e <;> cases L e c <;> rfl
  · cases L c e <;> cases L e c <;> rfl
theorem isF_swap {fo th : List Str} {a b : Str} (h : IsF fo th "line" a b) : IsF fo th "line" b a := ⟨by decide, h.2.2.1, h.2.1, fun e => h.2.2.2.1 e.symm, .inl rfl⟩
theorem wordsOk : ∀ z ∈ wordsS, PyData.strOk z = true := by decide +kernel
end My

namespace L2
open PySem PySem.Spec PyProof.Rows
theorem u65 {k : Nat} {A : Around} (h : Room k A) : A.units + 65 < cLine := by
  have := h.un
  omega
theorem PI.or {X : Cx} {tg e : Expr} {w1 w2 : TI} (h : PI X tg e w1) (h' : PI X tg e w2) : PI X tg e (fun σ H R => w1 σ H R ∨ w2 σ H R) :=
  ⟨fun pins s σ H R I q => q.elim (h.run pins s σ H R I) (h'.run pins s σ H R I)⟩
theorem pi_seqS {X : Cx} {tg l : Expr} {tl : TE} (h : PE X l tl) : PI X tg l (fun σ H R => iList X.K tl σ H R ∨ iTup X.K tl σ H R) := PI.or (pi_list h) (pi_tup h)
end L2
namespace My
open PySem PySem.Spec PyProof.Rows L2
/-! ### facts in a list -/
/-- the first thing that is no fact -/
def firstF (bs : List Bool) : Option Nat := (List.range bs.length).find? fun i => bs[i]? == some false
theorem first_none {bs : List Bool} (h : ∀ i, i < bs.length → bs[i]? = some true) : firstF bs = none := List.find?_range_eq_none.mpr fun i hi => by rw [h i hi]; rfl
theorem first_some {bs : List Bool} {i : Nat} (h : bs[i]? = some false) (h2 : ∀ j, j < i → bs[j]? = some true) : firstF bs = some i := by
  have hi : i < bs.length := (List.getElem?_eq_some_iff.mp h).1
  exact List.find?_range_eq_some.mpr ⟨by rw [h]; rfl, List.mem_range.mpr hi, fun j hj => by rw [h2 j hj]; rfl⟩
/-- whether each of the things is a fact -/
def FactsOf (K : PySem.W.Frag) (H : Hp) (fo th : List Str) (xs : List V) (bs : List Bool) : Prop := xs.length = bs.length ∧ ∀ (i : Nat) (x : V), xs[i]? = some x → ∃ b, bs[i]? = some b ∧ FactOf K H fo th x b
theorem FactsOf.ext {K : PySem.W.Frag} {H H' : Hp} {fo th : List Str} {xs : List V} {bs : List Bool} (h : FactsOf K H fo th xs bs) (e : Ext H H') : FactsOf K H' fo th xs bs := ⟨h.1, fun i x hx => by
  obtain ⟨b, h1, h2⟩ := h.2 i x hx
  exact ⟨b, h1, h2.ext e⟩⟩
/-- what is passed as a list of facts: no list, or things -/
def Passed (K : PySem.W.Frag) (H : Hp) (fo th : List Str) (x : V) (o : Option Nat) : Prop := (o = some 0 ∧ ∃ t, TyX K H x t ∧ PySem.W.kitAny K t [.type "list", .type "tuple"] = some false) ∨
  ∃ a xs bs, x = .ref a ∧ SeqAt2 K H a xs ∧ FactsOf K H fo th xs bs ∧ o = firstF bs
theorem Passed.ext {K : PySem.W.Frag} {H H' : Hp} {fo th : List Str} {x : V} {o : Option Nat} (h : Passed K H fo th x o) (e : Ext H H') : Passed K H' fo th x o := by
  rcases h with ⟨h0, t, h1, h2⟩ | ⟨a, xs, bs, h1, h2, h3, h4⟩
  · exact .inl ⟨h0, t, h1.ext e, h2⟩
  · exact .inr ⟨a, xs, bs, h1, h2.ext e, h3.ext e, h4⟩
def spWrongFact (K : PySem.W.Frag) (C : Addr) : Sp := fun vs H Q _ => ∃ h x fo th o, vs = [.ref h, x] ∧ Hou H K C h fo th ∧ Passed K H fo th x o ∧ ∀ H', Ext H H' → Q (optV o) H'
/-! ### facts as they are told -/
def toldR (ns : List Str) : List Str → List Str
  | [w, a, b] => toldS ns w a b
  | r => r
def onceR (rs : List (List Str)) : List (List Str) := rs.foldl (fun acc r => if r ∈ acc then acc else acc ++ [r]) []
theorem once_snoc (rs : List (List Str)) (r : List Str) : onceR (rs ++ [r]) = if r ∈ onceR rs then onceR rs else onceR rs ++ [r] := by
  unfold onceR
  rw [List.foldl_append]
  rfl
/-- rows of texts, each a list or a tuple -/
def Raws (K : PySem.W.Frag) (H : Hp) (xs : List V) (rs : List (List Str)) : Prop := xs.length = rs.length ∧ ∀ (i : Nat) (x : V), xs[i]? = some x → ∃ (t : Addr) (r : List Str), x = .ref t ∧ rs[i]? = some r ∧ SeqAt2 K H t (r.map V.str)
theorem Raws.ext {K : PySem.W.Frag} {H H' : Hp} {xs : List V} {rs : List (List Str)} (h : Raws K H xs rs) (e : Ext H H') : Raws K H' xs rs := ⟨h.1, fun i x hx => by
  obtain ⟨t, r, h1, h2, h3⟩ := h.2 i x hx
  exact ⟨t, r, h1, h2, h3.ext e⟩⟩
def FactR (fo th : List Str) (rs : List (List Str)) : Prop := ∀ r, r ∈ rs → ∃ w a b, r = [w, a, b] ∧ IsF fo th w a b
theorem fold_mem : ∀ (rs acc : List (List Str)) (r : List Str), r ∈ rs.foldl (fun acc r => if r ∈ acc then acc else acc ++ [r]) acc → r ∈ acc ∨ r ∈ rs
  | [], _, _, h => .inl h
  | x :: rs, acc, r, h => by
    rcases fold_mem rs _ r h with h | h
    · have h : r ∈ (if x ∈ acc then acc else acc ++ [x]) := h
      split at h
      · exact .inl h
      · rcases List.mem_append.mp h with h | h
        · exact .inl h
        · exact .inr (by rw [List.mem_singleton.mp h]; exact List.mem_cons_self)
    · exact .inr (List.mem_cons_of_mem _ h)
theorem once_mem {rs : List (List Str)} {r : List Str} (h : r ∈ onceR rs) : r ∈ rs := (fold_mem rs [] r h).resolve_left fun z => by cases z
theorem once_len : ∀ (rs acc : List (List Str)), (rs.foldl (fun acc r => if r ∈ acc then acc else acc ++ [r]) acc).length ≤ acc.length + rs.length
  | [], _ => Nat.le_refl _
  | x :: rs, acc => by
    refine Nat.le_trans (once_len rs _) ?_
    show (if x ∈ acc then acc else acc ++ [x]).length + rs.length ≤ _
    split
    · rw [List.length_cons]; omega
    · rw [List.length_append, List.length_cons, List.length_cons, List.length_nil]; omega
theorem any_rows (r : List Str) : ∀ rs : List (List Str), ((rs.map fun r => PyData.tuple (r.map PyData.str)).any fun z => PyData.eqv z (.tuple (r.map PyData.str))) = decide (r ∈ rs)
  | [] => rfl
  | s :: rs => by
    rw [List.map_cons, List.any_cons, any_rows r rs, eqv_strT]
    by_cases h : r = s
    · subst h
      simp
    · have h' : ¬ s = r := fun e => h e.symm
      simp [h, h']
/-- told rows: three texts each -/
def Told (ns : List Str) (rs : List (List Str)) : Prop := ∀ r, r ∈ rs → ∃ w a b, r = [w, a, b] ∧ w ∈ wordsS ∧ a ∈ ns ∧ b ∈ ns
theorem told_ok {fo th : List Str} (nd : (fo ++ th).Nodup) {rs : List (List Str)} (h : FactR fo th rs) : Told (fo ++ th) (rs.map (toldR (fo ++ th))) := fun r hr => by
  obtain ⟨x, hx, rfl⟩ := List.mem_map.mp hr
  obtain ⟨w, a, b, rfl, isf⟩ := h x hx
  obtain ⟨c, d, e, hcd⟩ := told_three nd isf
  refine ⟨w, c, d, e, isf.1, ?_, ?_⟩
  · rcases hcd with ⟨rfl, _⟩ | ⟨_, rfl, _⟩
    · exact isf.2.1
    · exact isf.2.2.1
  · rcases hcd with ⟨_, rfl⟩ | ⟨_, _, rfl⟩
    · exact isf.2.2.1
    · exact isf.2.1
def spEachOnce (K : PySem.W.Frag) (C : Addr) : Sp := fun vs H Q _ => ∃ h x fo th xs rs, vs = [.ref h, .ref x] ∧ Hou H K C h fo th ∧ (fo ++ th).Nodup ∧ (fo ++ th).length < sizeLine ∧ (∀ z, z ∈ fo ++ th → PyData.strOk z = true) ∧ SeqAt2 K H x xs ∧ Raws K H xs rs ∧ FactR fo th rs ∧ rs.length < 1000 ∧
  ∀ t ys H', Ext H H' → SqT K H' t ys → Rows K H' ys (onceR (rs.map (toldR (fo ++ th)))) → Q (.ref t) H'
abbrev nm_wrong_fact : List Str := ["house", "facts", "at", "thing"]
theorem sc_wrong_fact : FnScope nm_wrong_fact ["house", "facts"] (defScope s_wrong_fact) := ⟨rfl, rfl, rfl, by decide +kernel, rfl, by decide +kernel, by decide +kernel⟩
abbrev nm_each_once : List Str := ["house", "facts", "rows", "fact", "row"]
theorem sc_each_once : FnScope nm_each_once ["house", "facts"] (defScope s_each_once) := ⟨rfl, rfl, rfl, by decide +kernel, rfl, by decide +kernel, by decide +kernel⟩
section
variable {P : Program} {w : World} {K : PySem.W.Frag} {mg : Str → Option Value} {base : Heap} {f C CB : Addr} {fd : FuncData}
theorem ok_wrongFact (Fn : FnP K "wrong_fact" s_wrong_fact f fd) (his_list : Has P w K mg base 1 "is_list" ["thing"] (spIsList K)) (his_fact : Has P w K mg base 5 "is_fact" ["house", "thing"] (spIsFact K C)) (gB_enumerate : mg "enumerate" = none) :
    FnOk P w K mg base CX0 6 f fd ["house", "facts"] (spWrongFact K C) := by
  refine Fn.ok sc_wrong_fact (fun vs H Q E h => ?_) (fun cdv A outer s H vs Q E hr h => ⟨_, PSs.nox
    (pss_cons (ps_if (pt_not (pt_val (pe_has his_list (hr.mono (by decide)) (pa_cons (pv 1) pa_nil)))) (pss_one (ps_ret pe_int)) pss_nil)
      (pss_cons (ps_for PassesOwn.never rfl (pi_enumS (by rfl) gB_enumerate (pa_cons (pv 1) pa_nil)) (pg_tup rfl (pgs_cons (pg_name (i := 2) sc_wrong_fact.nd rfl (Or.inl rfl)) (pgs_cons (pg_name (i := 3) sc_wrong_fact.nd rfl (Or.inl rfl)) pgs_nil)))
      (pss_one (ps_if (pt_not (pt_val (pe_has his_fact (hr.mono (by decide)) (pa_cons (pv 0) (pa_cons (pv 3) pa_nil))))) (pss_one (ps_ret (pv 2))) pss_nil)))
      (pss_one (ps_ret pe_non)))), ?_⟩)
  · obtain ⟨h, x, fo, th, o, rfl, _⟩ := h
    rfl
  · obtain ⟨h, x, fo, th, o, rfl, hou, hp, q⟩ := h
    rcases hp with ⟨rfl, t, ty, kt⟩ | ⟨a, xs, bs, rfl, sq, fs, rfl⟩
    · exact ⟨_, rfl, x, t, false, rfl, ty, kt, fun H1 x1 => ⟨false, rfl, q H1 x1⟩⟩
    · obtain ⟨t, ty, kt⟩ := seq_kit sq
      refine ⟨_, rfl, _, t, true, rfl, ty, kt, fun H1 x1 => ⟨true, rfl, ?_⟩⟩
      have sq1 := sq.ext x1
      refine ⟨_, rfl, a, xs, rfl, ?_⟩
      rcases sq1 with sq1 | sq1
      · refine .inl ⟨sq1, ?_⟩
        refine for_it (walk_enum (xs := xs)) (fun i σ H' => Ext H1 H' ∧ (∃ u v, σ = [some (.ref h), some (.ref a), u, v]) ∧ ∀ j, j < i → bs[j]? = some true) ⟨Ext.rfl', ⟨none, none, rfl⟩, fun j hj => absurd hj (Nat.not_lt_zero _)⟩ (fun i σ H' _ p => sq1.ext p.1) ?_ ?_
        · intro i x σ H2 H3 hi p y
          obtain ⟨x2, ⟨u, v, rfl⟩, hb⟩ := p
          obtain ⟨T, y1, y2, rfl, hT, rfl, e1, e2⟩ := y
          cases e1
          have e2 : xs[i]? = some y2 := e2
          have x3 : Ext H1 (upd H2 T (.tup [.int i, y2])) := x2.upd' hT
          refine ⟨T, _, rfl, SqT.of upd_same, rfl, _, _, rfl, _, _, rfl, rfl, ?_⟩
          obtain ⟨b, hbi, fb⟩ := fs.2 i y2 e2
          refine ⟨_, rfl, _, rfl, h, y2, fo, th, b, rfl, hou.ext (x1.trans x3), fb.ext (x1.trans x3), fun H4 x4 => ⟨b, rfl, ?_⟩⟩
          cases b with
          | true =>
            refine ⟨x3.trans x4, ⟨_, _, rfl⟩, fun j hj => ?_⟩
            rcases Nat.lt_or_eq_of_le (Nat.le_of_lt_succ hj) with z | z
            · exact hb j z
            · rw [z]; exact hbi
          | false =>
            rw [first_some hbi hb] at q
            exact ⟨_, rfl, q H4 (x1.trans (x3.trans x4))⟩
        · intro σ H2 p
          rw [first_none (fun i hi => p.2.2 i (by rw [fs.1]; exact hi))] at q
          exact q H2 (x1.trans p.1)
      · refine .inr ⟨sq1, ?_⟩
        refine for_it (walk_enumT (xs := xs)) (fun i σ H' => Ext H1 H' ∧ (∃ u v, σ = [some (.ref h), some (.ref a), u, v]) ∧ ∀ j, j < i → bs[j]? = some true) ⟨Ext.rfl', ⟨none, none, rfl⟩, fun j hj => absurd hj (Nat.not_lt_zero _)⟩ (fun i σ H' _ p => sq1.ext p.1) ?_ ?_
        · intro i x σ H2 H3 hi p y
          obtain ⟨x2, ⟨u, v, rfl⟩, hb⟩ := p
          obtain ⟨T, y1, y2, rfl, hT, rfl, e1, e2⟩ := y
          cases e1
          have e2 : xs[i]? = some y2 := e2
          have x3 : Ext H1 (upd H2 T (.tup [.int i, y2])) := x2.upd' hT
          refine ⟨T, _, rfl, SqT.of upd_same, rfl, _, _, rfl, _, _, rfl, rfl, ?_⟩
          obtain ⟨b, hbi, fb⟩ := fs.2 i y2 e2
          refine ⟨_, rfl, _, rfl, h, y2, fo, th, b, rfl, hou.ext (x1.trans x3), fb.ext (x1.trans x3), fun H4 x4 => ⟨b, rfl, ?_⟩⟩
          cases b with
          | true =>
            refine ⟨x3.trans x4, ⟨_, _, rfl⟩, fun j hj => ?_⟩
            rcases Nat.lt_or_eq_of_le (Nat.le_of_lt_succ hj) with z | z
            · exact hb j z
            · rw [z]; exact hbi
          | false =>
            rw [first_some hbi hb] at q
            exact ⟨_, rfl, q H4 (x1.trans (x3.trans x4))⟩
        · intro σ H2 p
          rw [first_none (fun i hi => p.2.2 i (by rw [fs.1]; exact hi))] at q
          exact q H2 (x1.trans p.1)
theorem ok_eachOnce (Fn : FnP K "each_once" s_each_once f fd) (has_told : Has P w K mg base 1 "as_told" ["house", "fact"] (spAsTold K C)) (gB_tuple : mg "tuple" = none) : FnOk P w K mg base CX0 2 f fd ["house", "facts"] (spEachOnce K C) := by
  refine Fn.ok sc_each_once (fun vs H Q E h => ?_) (fun cdv A outer s H vs Q E hr h => ⟨_, PSs.nox
    (pss_cons (ps_set (i := 2) sc_each_once.nd rfl (Or.inl rfl) (pe_lst pa_nil))
      (pss_cons (ps_for PassesOwn.never rfl (pi_seqS (pv 1)) (pg_name (i := 3) sc_each_once.nd rfl (Or.inl rfl))
      (pss_cons (ps_set (i := 4) sc_each_once.nd rfl (Or.inl rfl) (pe_has has_told (hr.mono (by decide)) (pa_cons (pv 0) (pa_cons (pv 3) pa_nil))))
      (pss_one (ps_if (pt_cmpR (op_notInD (u65 hr)) (pv 4) (pv 2) (by rfl)) (pss_one (ps_expr (pe_bm PySem.F.plainAttrs_list PySem.F.slot_list_append PySem.F.type_list_append mt_append (pv 2) (pa_cons (pv 4) pa_nil)))) pss_nil))))
      (pss_one (ps_ret (pe_callTy call_tup (by rfl) gB_tuple (by decide +kernel) (pa_cons (pv 2) pa_nil)))))), ?_⟩)
  · obtain ⟨h, x, fo, th, xs, rs, rfl, _⟩ := h
    rfl
  · obtain ⟨h, x, fo, th, xs, rs, rfl, hou, nd, hz, zok, sq, raw, fr, len, q⟩ := h
    refine ⟨Nat.zero_le _, fun l hl => ?_⟩
    obtain ⟨H1, hH1⟩ : ∃ H1, H1 = upd H l (.lst []) := ⟨_, rfl⟩
    rw [← hH1]
    have x1 : Ext H H1 := by
      rw [hH1]
      exact Ext.upd hl
    have l1 : H1 l = some (.lst []) := by rw [hH1, upd_same]
    have tok := told_ok nd fr
    have okr : ∀ ws : List (List Str), (∀ r, r ∈ ws → r ∈ rs.map (toldR (fo ++ th))) → OkR ws := fun ws hw r hr z hz => by
      obtain ⟨w, a, b, rfl, h1, h2, h3⟩ := tok r (hw r hr)
      simp at hz
      rcases hz with rfl | rfl | rfl
      · exact wordsOk _ h1
      · exact zok _ h2
      · exact zok _ h3
    rcases sq with sq | sq
    · refine .inl ⟨_, rfl, x, rfl, ⟨_, sq.ext x1⟩, for_list (K := K) (a := x) (xs := xs) (fun i σ H' => Ext H H' ∧ ∃ u v ys, σ = [some (.ref h), some (.ref x), some (.ref l), u, v] ∧ H' l = some (.lst ys) ∧ ys.length ≤ i ∧ Rows K H' ys (onceR ((rs.take i).map (toldR (fo ++ th))))) ?_ ?_ ?_ ?_⟩
      · exact ⟨x1, none, none, [], rfl, l1, Nat.zero_le _, True.intro⟩
      · rintro i σ H' _ ⟨x', _⟩
        exact sq.ext x'
      · intro i v σ H2 hv P2
        obtain ⟨x2, u, v', ys, rfl, l2, len2, r2⟩ := P2
        obtain ⟨t, r, rfl, hr, sqr⟩ := raw.2 i v hv
        obtain ⟨wd, a, b, rfl, isf⟩ := fr r (List.mem_of_getElem? hr)
        have il : i < rs.length := (List.getElem?_eq_some_iff.mp hr).1
        have tk : (rs.take (i + 1)).map (toldR (fo ++ th)) = (rs.take i).map (toldR (fo ++ th)) ++ [toldS (fo ++ th) wd a b] := by
          rw [List.take_add_one, hr, List.map_append]
          rfl
        obtain ⟨row, hrow⟩ : ∃ row, row = toldS (fo ++ th) wd a b := ⟨_, rfl⟩
        rw [← hrow] at tk
        obtain ⟨old, hold⟩ : ∃ old, old = (rs.take i).map (toldR (fo ++ th)) := ⟨_, rfl⟩
        rw [← hold] at tk r2
        have sub : ∀ r, r ∈ old ++ [row] → r ∈ rs.map (toldR (fo ++ th)) := fun r hr' => by
          rw [← tk] at hr'
          obtain ⟨y, hy, rfl⟩ := List.mem_map.mp hr'
          exact List.mem_map.mpr ⟨y, List.mem_of_mem_take hy, rfl⟩
        refine ⟨_, rfl, _, rfl, h, t, fo, th, wd, a, b, rfl, hou.ext x2, nd, hz, isf, sqr.ext x2, fun tt H3 x3 htt => ?_⟩
        rw [← hrow] at htt
        have ok1 := okr [row] fun r hr' => sub r (List.mem_append_right _ hr')
        have ok2 := okr (onceR old) fun r hr' => sub r (List.mem_append_left _ (once_mem hr'))
        have l3 := x3 _ _ l2
        have r3 := r2.ext x3
        refine ⟨_, rfl, _, rfl, .tuple (row.map PyData.str), _, .tup (SqT.of htt) (dpAll_str row), .lst (SqL.of l3) (rows_dp r3), shaped_strT row (ok1 row List.mem_cons_self), rows_shaped ok2, _, rfl, ?_⟩
        rw [any_rows]
        rw [tk, once_snoc]
        refine ite2 (fun c => ?_) fun c => ?_
        · have c' : row ∉ onceR old := by simpa using c
          rw [if_neg c']
          refine ⟨_, rfl, .inl ⟨rfl, _, .inl (.inl l3)⟩, _, rfl, l, _, _, rfl, rfl, l3, by rw [sizeLine_eq]; omega, ?_⟩
          exact ⟨(x2.trans x3).over hl, _, _, _, rfl, upd_same, by rw [List.length_append]; exact Nat.succ_le_succ len2, Rows.upd l3 (Rows.app r3 ⟨⟨tt, rfl, SqT.of htt⟩, True.intro⟩)⟩
        · have c' : row ∈ onceR old := by simpa using c
          rw [if_pos c']
          exact ⟨x2.trans x3, _, _, ys, rfl, l3, by omega, r3⟩
      · rintro σ H2 ⟨x2, u, v', ys, rfl, l2, len2, r2⟩
        rw [raw.1, List.take_length] at r2
        refine ⟨_, rfl, l, _, rfl, .inl (SqL.of l2), fun t H3 x3 st => ?_⟩
        exact q t ys H3 (x2.trans x3) st (r2.ext x3)
    · refine .inr ⟨_, rfl, x, rfl, ⟨_, sq.ext x1⟩, for_tup (K := K) (a := x) (xs := xs) (fun i σ H' => Ext H H' ∧ ∃ u v ys, σ = [some (.ref h), some (.ref x), some (.ref l), u, v] ∧ H' l = some (.lst ys) ∧ ys.length ≤ i ∧ Rows K H' ys (onceR ((rs.take i).map (toldR (fo ++ th))))) ?_ ?_ ?_ ?_⟩
      · exact ⟨x1, none, none, [], rfl, l1, Nat.zero_le _, True.intro⟩
      · rintro i σ H' _ ⟨x', _⟩
        exact sq.ext x'
      · intro i v σ H2 hv P2
        obtain ⟨x2, u, v', ys, rfl, l2, len2, r2⟩ := P2
        obtain ⟨t, r, rfl, hr, sqr⟩ := raw.2 i v hv
        obtain ⟨wd, a, b, rfl, isf⟩ := fr r (List.mem_of_getElem? hr)
        have il : i < rs.length := (List.getElem?_eq_some_iff.mp hr).1
        have tk : (rs.take (i + 1)).map (toldR (fo ++ th)) = (rs.take i).map (toldR (fo ++ th)) ++ [toldS (fo ++ th) wd a b] := by
          rw [List.take_add_one, hr, List.map_append]
          rfl
        obtain ⟨row, hrow⟩ : ∃ row, row = toldS (fo ++ th) wd a b := ⟨_, rfl⟩
        rw [← hrow] at tk
        obtain ⟨old, hold⟩ : ∃ old, old = (rs.take i).map (toldR (fo ++ th)) := ⟨_, rfl⟩
        rw [← hold] at tk r2
        have sub : ∀ r, r ∈ old ++ [row] → r ∈ rs.map (toldR (fo ++ th)) := fun r hr' => by
          rw [← tk] at hr'
          obtain ⟨y, hy, rfl⟩ := List.mem_map.mp hr'
          exact List.mem_map.mpr ⟨y, List.mem_of_mem_take hy, rfl⟩
        refine ⟨_, rfl, _, rfl, h, t, fo, th, wd, a, b, rfl, hou.ext x2, nd, hz, isf, sqr.ext x2, fun tt H3 x3 htt => ?_⟩
        rw [← hrow] at htt
        have ok1 := okr [row] fun r hr' => sub r (List.mem_append_right _ hr')
        have ok2 := okr (onceR old) fun r hr' => sub r (List.mem_append_left _ (once_mem hr'))
        have l3 := x3 _ _ l2
        have r3 := r2.ext x3
        refine ⟨_, rfl, _, rfl, .tuple (row.map PyData.str), _, .tup (SqT.of htt) (dpAll_str row), .lst (SqL.of l3) (rows_dp r3), shaped_strT row (ok1 row List.mem_cons_self), rows_shaped ok2, _, rfl, ?_⟩
        rw [any_rows]
        rw [tk, once_snoc]
        refine ite2 (fun c => ?_) fun c => ?_
        · have c' : row ∉ onceR old := by simpa using c
          rw [if_neg c']
          refine ⟨_, rfl, .inl ⟨rfl, _, .inl (.inl l3)⟩, _, rfl, l, _, _, rfl, rfl, l3, by rw [sizeLine_eq]; omega, ?_⟩
          exact ⟨(x2.trans x3).over hl, _, _, _, rfl, upd_same, by rw [List.length_append]; exact Nat.succ_le_succ len2, Rows.upd l3 (Rows.app r3 ⟨⟨tt, rfl, SqT.of htt⟩, True.intro⟩)⟩
        · have c' : row ∈ onceR old := by simpa using c
          rw [if_pos c']
          exact ⟨x2.trans x3, _, _, ys, rfl, l3, by omega, r3⟩
      · rintro σ H2 ⟨x2, u, v', ys, rfl, l2, len2, r2⟩
        rw [raw.1, List.take_length] at r2
        refine ⟨_, rfl, l, _, rfl, .inl (SqL.of l2), fun t H3 x3 st => ?_⟩
        exact q t ys H3 (x2.trans x3) st (r2.ext x3)
end
end My

namespace L2
open PySem PySem.Spec PyProof.Rows
/-- x in a tuple of data -/
def rInDT (K : PySem.W.Frag) : R2 := fun x y H Q => ∃ d ds, Dp K H x d ∧ Dp K H y (.tuple ds) ∧ SeqAt.shaped d = true ∧ SeqAt.shaped (.tuple ds) = true ∧ Q (.bl (ds.any fun z => PyData.eqv z d)) H
theorem op_inDT {X : Cx} (hu : X.A.units + 65 < cLine) : OpR X (compareOp .In) (rInDT X.K) := by
  intro pins s σ H x y v u Q I rx ry h
  obtain ⟨d, ds, h1, h2, s1, s2, q⟩ := h
  obtain ⟨as, ra⟩ := Dp.reads I d x v h1 rx
  obtain ⟨bs, rb⟩ := Dp.reads I _ y u h2 ry
  have c1 := Bool.and_eq_true_iff.mp s1
  have c2 := Bool.and_eq_true_iff.mp s2
  have e1 : d.depth ≤ 64 := of_decide_eq_true c1.2
  refine SeqAt.in_tuple_reads rb ra c2.1 c1.1 ?_ ⟨.bl _, H, I, rfl, q⟩
  have := Nat.min_le_right (PyData.depthAll ds) d.depth
  omega
end L2
namespace My
open PySem PySem.Spec PyProof.Rows L2
/-! ### the class Facts -/
structure FacC (K : PySem.W.Frag) (C : Addr) : Prop where
  cl : Cls K C
  nh : NoAttr K C "house"
  nr : NoAttr K C "rows"
  ha : PySem.W.findIn K (.ref C) "__class__" = some (some (.builtin "object.__class__"))
  hn : PySem.W.specialIn K (.builtin "object.__class__") "__get__" = some (some (.builtin "getset_descriptor.__get__"))
  htk : PySem.W.takesIn K (.builtin "object.__class__") = some true
  hm : PySem.W.mroIn K C (.type "object") = some true
def rowsT (rs : List (List Str)) : PyData := .tuple (rs.map fun r => .tuple (r.map PyData.str))
theorem rowsT_shaped {rs : List (List Str)} (h : OkR rs) : SeqAt.shaped (rowsT rs) = true := rows_shaped h
theorem eqv_rowsT (rs ss : List (List Str)) : PyData.eqv (rowsT rs) (rowsT ss) = decide (rs = ss) := eqvAll_rows rs ss
/-- the methods that are no fields -/
def facM : List Str := ["told", "without"]
/-- facts stand at a -/
def FacAt (H : Hp) (K : PySem.W.Frag) (CF C a : Addr) (fo th : List Str) (rows : List (List Str)) : Prop := ∃ dx fs h r ys, H a = some (.ins CF dx fs) ∧ fs.lookup ("house" : Str) = some (V.ref h) ∧ fs.lookup ("rows" : Str) = some (V.ref r) ∧
  Hou H K C h fo th ∧ SqT K H r ys ∧ Rows K H ys rows ∧ OkR rows ∧ ∀ m, m ∈ facM → fs.lookup m = none
theorem FacAt.ext {H H' : Hp} {K : PySem.W.Frag} {CF C a : Addr} {fo th : List Str} {rows : List (List Str)} (h : FacAt H K CF C a fo th rows) (e : Ext H H') : FacAt H' K CF C a fo th rows := by
  obtain ⟨dx, fs, ho, r, ys, h1, h2, h3, h4, h5, h6, h7, h8⟩ := h
  exact ⟨dx, fs, ho, r, ys, e _ _ h1, h2, h3, h4.ext e, h5.ext e, h6.ext e, h7, h8⟩
theorem FacAt.ins {H : Hp} {K : PySem.W.Frag} {CF C a : Addr} {fo th : List Str} {rows : List (List Str)} (h : FacAt H K CF C a fo th rows) : ∃ dx fs, H a = some (.ins CF dx fs) := by
  obtain ⟨dx, fs, ho, r, ys, h1, _⟩ := h
  exact ⟨dx, fs, h1⟩
theorem tyF {K : PySem.W.Frag} {H : Hp} {CF C a : Addr} {fo th : List Str} {rows : List (List Str)} (T : FacC K CF) (h : FacAt H K CF C a fo th rows) : TyX K H (.ref a) (.ref CF) := by
  obtain ⟨dx, fs, e⟩ := h.ins
  exact .base (.ins e T.cl T.ha T.hn T.htk T.hm)
theorem Rows.but {K : PySem.W.Frag} {H H' : Hp} {a C dx : Addr} {fs : List (Str × V)} (b : But H H' a) (ha : H a = some (.ins C dx fs)) : ∀ {xs : List V} {rs : List (List Str)}, Rows K H xs rs → Rows K H' xs rs
  | [], [], _ => True.intro
  | _ :: _, _ :: _, ⟨⟨t, e1, h⟩, hr⟩ => ⟨⟨t, e1, sqT_but h b ha⟩, Rows.but b ha hr⟩
  | [], _ :: _, h => h.elim
  | _ :: _, [], h => h.elim
theorem seq_but {K : PySem.W.Frag} {H H' : Hp} {a C dx f : Addr} {fs : List (Str × V)} {xs : List V} (h : SeqAt2 K H f xs) (b : But H H' a) (ha : H a = some (.ins C dx fs)) : SeqAt2 K H' f xs := h.elim (fun z => .inl (sqL_but z b ha)) fun z => .inr (sqT_but z b ha)
theorem Raws.but {K : PySem.W.Frag} {H H' : Hp} {a C dx : Addr} {fs : List (Str × V)} {xs : List V} {rs : List (List Str)} (h : Raws K H xs rs) (b : But H H' a) (ha : H a = some (.ins C dx fs)) : Raws K H' xs rs := ⟨h.1, fun i x hx => by
  obtain ⟨t, r, h1, h2, h3⟩ := h.2 i x hx
  exact ⟨t, r, h1, h2, seq_but h3 b ha⟩⟩
/-- the house of facts stays when the facts are written -/
theorem hou_but {K : PySem.W.Frag} {H H' : Hp} {a C CF dx h : Addr} {fs : List (Str × V)} {fo th : List Str} (hh : Hou H K C h fo th) (b : But H H' a) (ha : H a = some (.ins CF dx fs)) (ne : h ≠ a) : Hou H' K C h fo th := by
  obtain ⟨⟨dx', fs', f, t, n, h1, h2, h3, h4, h5, h6, h7⟩, k⟩ := hh
  exact ⟨⟨dx', fs', f, t, n, b _ _ ne h1, h2, h3, h4, sqT_but h5 b ha, sqT_but h6 b ha, sqT_but h7 b ha⟩, k⟩
def spFInit (K : PySem.W.Frag) (CF C CB : Addr) : Sp := fun vs H Q E => ∃ a dx h x fo th, vs = [.ref a, .ref h, x] ∧ H a = some (.ins CF dx []) ∧ h ≠ a ∧ Hou H K C h fo th ∧ (fo ++ th).Nodup ∧ (fo ++ th).length < sizeLine ∧ (∀ z, z ∈ fo ++ th → PyData.strOk z = true) ∧
  ((∃ i : Nat, Passed K H fo th x (some i) ∧ ∀ d H', Ext H H' → H d = none → H' d = some (.xd [(("index" : Str), V.int (i : Nat))]) → E (.ref CB) (some d) H') ∨
  (∃ p xs rs, x = .ref p ∧ SeqAt2 K H p xs ∧ Raws K H xs rs ∧ FactR fo th rs ∧ rs.length < 1000 ∧ ∀ H', But H H' a → FacAt H' K CF C a fo th (onceR (rs.map (toldR (fo ++ th)))) → Q .non H'))
theorem raws_facts {K : PySem.W.Frag} {H : Hp} {fo th : List Str} {xs : List V} {rs : List (List Str)} (h : Raws K H xs rs) (fr : FactR fo th rs) : FactsOf K H fo th xs (List.replicate xs.length true) := ⟨by rw [List.length_replicate], fun i x hx => by
  obtain ⟨t, r, rfl, hr, sq⟩ := h.2 i x hx
  obtain ⟨w, a, b, rfl, isf⟩ := fr r (List.mem_of_getElem? hr)
  exact ⟨true, by rw [List.getElem?_replicate, if_pos (List.getElem?_eq_some_iff.mp hx).1], .inr (.inr ⟨t, _, _, _, rfl, sq, .inl rfl, .inl rfl, .inl rfl, (is_fact isf).symm⟩)⟩⟩
theorem raws_passed {K : PySem.W.Frag} {H : Hp} {fo th : List Str} {p : Addr} {xs : List V} {rs : List (List Str)} (sq : SeqAt2 K H p xs) (h : Raws K H xs rs) (fr : FactR fo th rs) : Passed K H fo th (.ref p) none :=
  .inr ⟨p, xs, _, rfl, sq, raws_facts h fr, (first_none fun i hi => by rw [List.length_replicate] at hi; rw [List.getElem?_replicate, if_pos hi]).symm⟩
def spTold (K : PySem.W.Frag) (CF C : Addr) : Sp := fun vs H Q _ => ∃ a fo th rows, vs = [.ref a] ∧ FacAt H K CF C a fo th rows ∧ ∀ l ys H', Ext H H' → H l = none → H' l = some (.lst ys) → Rows K H' ys rows → Q (.ref l) H'
def spFLen (K : PySem.W.Frag) (CF C : Addr) : Sp := fun vs H Q _ => ∃ a fo th rows, vs = [.ref a] ∧ FacAt H K CF C a fo th rows ∧ Q (.int (rows.length : Nat)) H
def spFEq (K : PySem.W.Frag) (CF C : Addr) : Sp := fun vs H Q _ => ∃ a fo th rows y, vs = [.ref a, y] ∧ FacAt H K CF C a fo th rows ∧ ((∃ t, TyX K H y t ∧ PySem.W.kitOne K t (.ref CF) = some false ∧ Q (.bl false) H) ∨
  ∃ b fo2 th2 rows2, y = .ref b ∧ FacAt H K CF C b fo2 th2 rows2 ∧ ∀ H', Ext H H' → Q (.bl (decide (fo = fo2) && (decide (th = th2) && decide (rows = rows2)))) H')
/-- whether a thing is one of the facts -/
def spFHas (K : PySem.W.Frag) (CF C : Addr) : Sp := fun vs H Q _ => ∃ a fo th rows y, vs = [.ref a, y] ∧ FacAt H K CF C a fo th rows ∧ (fo ++ th).Nodup ∧ (fo ++ th).length < sizeLine ∧ (∀ z, z ∈ fo ++ th → PyData.strOk z = true) ∧
  ((FactOf K H fo th y false ∧ ∀ H', Ext H H' → Q (.bl false) H') ∨ ∃ r w c d, y = .ref r ∧ SeqAt2 K H r [.str w, .str c, .str d] ∧ IsF fo th w c d ∧ ∀ H', Ext H H' → Q (.bl (decide (toldS (fo ++ th) w c d ∈ rows))) H')
abbrev nm_Facts_init : List Str := ["self", "house", "facts", "at"]
theorem sc_Facts_init : FnScope nm_Facts_init ["self", "house", "facts"] (defScope s_Facts_init) := ⟨rfl, rfl, rfl, by decide +kernel, rfl, by decide +kernel, by decide +kernel⟩
abbrev nm_Facts_told : List Str := ["self"]
theorem sc_Facts_told : FnScope nm_Facts_told ["self"] (defScope s_Facts_told) := ⟨rfl, rfl, rfl, by decide +kernel, rfl, by decide +kernel, by decide +kernel⟩
abbrev nm_Facts_len : List Str := ["self"]
theorem sc_Facts_len : FnScope nm_Facts_len ["self"] (defScope s_Facts_len) := ⟨rfl, rfl, rfl, by decide +kernel, rfl, by decide +kernel, by decide +kernel⟩
abbrev nm_Facts_contains : List Str := ["self", "x"]
theorem sc_Facts_contains : FnScope nm_Facts_contains ["self", "x"] (defScope s_Facts_contains) := ⟨rfl, rfl, rfl, by decide +kernel, rfl, by decide +kernel, by decide +kernel⟩
abbrev nm_Facts_iter : List Str := ["self"]
theorem sc_Facts_iter : FnScope nm_Facts_iter ["self"] (defScope s_Facts_iter) := ⟨rfl, rfl, rfl, by decide +kernel, rfl, by decide +kernel, by decide +kernel⟩
abbrev nm_Facts_eq : List Str := ["self", "other"]
theorem sc_Facts_eq : FnScope nm_Facts_eq ["self", "other"] (defScope s_Facts_eq) := ⟨rfl, rfl, rfl, by decide +kernel, rfl, by decide +kernel, by decide +kernel⟩
section
variable {P : Program} {w : World} {K : PySem.W.Frag} {mg : Str → Option Value} {base : Heap} {f C CB CF CBH : Addr} {fd : FuncData} {dvs : List V}
theorem ok_fInit (Fn : FunD K "__init__" "Facts.__init__" (defArgs s_Facts_init) (defBody s_Facts_init) (defScope s_Facts_init) dvs [] f fd) (T : FacC K CF) (hwrong_fact : Has P w K mg base 6 "wrong_fact" ["house", "facts"] (spWrongFact K C)) (heach_once : Has P w K mg base 2 "each_once" ["house", "facts"] (spEachOnce K C)) (EB : Er P w K mg base "BadFact" "index" CB) :
    FnOk P w K mg base (L2.CX P w) 7 f fd ["self", "house", "facts"] (spFInit K CF C CB) := by
  obtain ⟨fI, fdI, TB, FB, bB, _⟩ := EB
  refine Fn.ok sc_Facts_init (fun vs H Q E h => ?_) (fun cdv A outer s H vs Q E hr h => ⟨_,
    (pss_cons (ps_set (i := 3) sc_Facts_init.nd rfl (Or.inl rfl) (pe_has hwrong_fact (hr.mono (by decide)) (pa_cons (pv 1) (pa_cons (pv 2) pa_nil))))
      (pss_cons (ps_if (pt_cmpR op_notN (pv 3) pe_non (nomark _)) (pss_one (ps_raise rfl (takes_of rfl rfl rfl rfl) (pmk_oex TB.oex TB.iC TB.tI FB (hr.mono (by decide)) bB .nil pass0 (by rfl) TB.gl (pa_cons (pv 3) pa_nil)))) pss_nil)
      (pss_cons (ps_fld (pv 0) (pv 1) rfl)
      (pss_one (ps_fld (pv 0) (pe_has heach_once (hr.mono (by decide)) (pa_cons (pv 1) (pa_cons (pv 2) pa_nil))) rfl))))), ?_⟩)
  · obtain ⟨a, dx, h, x, fo, th, rfl, _⟩ := h
    rfl
  · obtain ⟨a, dx, h, x, fo, th, rfl, ha, nha, hou, nd, hz, zok, hh⟩ := h
    rcases hh with ⟨i, pa, qE⟩ | ⟨p, xs, rs, rfl, sq, raw, fr, len, qN⟩
    · refine ⟨_, rfl, _, rfl, h, x, fo, th, some i, rfl, hou, pa, fun H1 x1 => ?_⟩
      refine ⟨_, rfl, rfl, _, rfl, ?_⟩
      refine iteT ?_
      refine ⟨_, rfl, Nat.le_of_ble_eq_true rfl, fun e he => ?_⟩
      refine ⟨e, _, rfl, upd_same, fun d hd ne => ⟨rfl, d, [("index", optV (some i))], upd_same, ?_, ?_, ?_⟩⟩
      · rw [upd_ne ne, upd_same]
      · rw [upd_ne ne] at hd
        exact hd
      · rw [upd_ne ne] at hd
        refine qE d _ (fun b u k => ?_) ?_ upd_same
        · have k1 := x1 b u k
          rw [upd_ne (ne_of_none k1 hd), del_ne (ne_of_none k1 he), upd_ne (ne_of_none k1 he), upd_ne (ne_of_none k1 hd), upd_ne (ne_of_none k1 he)]
          exact k1
        · exact ext_none x1 hd
    · refine ⟨_, rfl, _, rfl, h, _, fo, th, none, rfl, hou, raws_passed sq raw fr, fun H1 x1 => ?_⟩
      refine ⟨_, rfl, rfl, _, rfl, ?_⟩
      refine iteF ?_
      refine ⟨_, rfl, _, rfl, a, CF, dx, _, rfl, x1 _ _ ha, T.cl, T.nh, Nat.le_of_ble_eq_true rfl, ?_⟩
      obtain ⟨H2, hH2⟩ : ∃ H2, H2 = L2.upd H1 a (.ins CF dx (putF "house" (.ref h) [])) := ⟨_, rfl⟩
      rw [← hH2]
      have a2 : H2 a = some (.ins CF dx (putF "house" (.ref h) [])) := by rw [hH2, upd_same]
      have b2 : But H1 H2 a := by
        rw [hH2]
        exact But.upd (ext_but Ext.rfl')
      have a1 := x1 _ _ ha
      have hou2 := hou_but (hou.ext x1) b2 a1 nha
      refine ⟨_, rfl, _, rfl, h, p, fo, th, xs, rs, rfl, hou2, nd, hz, zok, seq_but (sq.ext x1) b2 a1, (raw.ext x1).but b2 a1, fr, len, fun t ys H3 x3 st r3 => ?_⟩
      refine ⟨_, rfl, a, CF, dx, _, rfl, x3 _ _ a2, T.cl, T.nr, Nat.le_of_ble_eq_true rfl, ?_⟩
      obtain ⟨H4, hH4⟩ : ∃ H4, H4 = L2.upd H3 a (.ins CF dx (putF "rows" (.ref t) (putF "house" (.ref h) []))) := ⟨_, rfl⟩
      rw [← hH4]
      have a4 : H4 a = some (.ins CF dx (putF "rows" (.ref t) (putF "house" (.ref h) []))) := by rw [hH4, upd_same]
      have b4 : But H3 H4 a := by
        rw [hH4]
        exact But.upd (ext_but Ext.rfl')
      have a3 := x3 _ _ a2
      have tok := told_ok nd fr
      refine qN H4 (((ext_but x1).trans b2).trans ((ext_but x3).trans b4)) ⟨dx, _, h, t, ys, a4, rfl, rfl, hou_but (hou2.ext x3) b4 a3 nha, sqT_but st b4 a3, r3.but b4 a3, fun r hr z hz => ?_, fun m hm => by
        unfold facM at hm
        simp at hm
        rcases hm with rfl | rfl <;> rfl⟩
      obtain ⟨w, a, b, rfl, h1, h2, h3⟩ := tok r (once_mem hr)
      simp at hz
      rcases hz with rfl | rfl | rfl
      · exact wordsOk _ h1
      · exact zok _ h2
      · exact zok _ h3
theorem ok_told (Fn : FunD K "told" "Facts.told" (defArgs s_Facts_told) (defBody s_Facts_told) (defScope s_Facts_told) [] [] f fd) (T : FacC K CF) (gB_list : mg "list" = none) : FnOk P w K mg base CX0 1 f fd ["self"] (spTold K CF C) := by
  refine Fn.ok sc_Facts_told (fun vs H Q E h => ?_) (fun cdv A outer s H vs Q E hr h => ⟨_, PSs.nox
    (pss_one (ps_ret (pe_callTy call_lstS (by rfl) gB_list (by decide +kernel) (pa_cons (pe_fld (pv 0) rfl) pa_nil)))), ?_⟩)
  · obtain ⟨a, fo, th, rows, rfl, _⟩ := h
    rfl
  · obtain ⟨a, fo, th, rows, rfl, ⟨dx, fs, h, r, ys, h1, h2, h3, h4, h5, h6, h7, h8⟩, q⟩ := h
    exact ⟨_, rfl, a, CF, dx, fs, _, rfl, h1, T.cl, T.nr, h3, r, ys, rfl, .inr h5, fun l hl => q l ys _ (Ext.upd hl) hl upd_same (h6.ext (Ext.upd hl))⟩
theorem ok_fLen (Fn : FunD K "__len__" "Facts.__len__" (defArgs s_Facts_len) (defBody s_Facts_len) (defScope s_Facts_len) [] [] f fd) (T : FacC K CF) (gB_len : mg "len" = none) : FnOk P w K mg base CX0 1 f fd ["self"] (spFLen K CF C) := by
  refine Fn.ok sc_Facts_len (fun vs H Q E h => ?_) (fun cdv A outer s H vs Q E hr h => ⟨_, PSs.nox
    (pss_one (ps_ret (pe_callB call_len (by rfl) gB_len boot_len (pa_cons (pe_fld (pv 0) rfl) pa_nil)))), ?_⟩)
  · obtain ⟨a, fo, th, rows, rfl, _⟩ := h
    rfl
  · obtain ⟨a, fo, th, rows, rfl, ⟨dx, fs, h, r, ys, h1, h2, h3, h4, h5, h6, h7, h8⟩, q⟩ := h
    refine ⟨_, rfl, a, CF, dx, fs, _, rfl, h1, T.cl, T.nr, h3, _, _, rfl, .inr ⟨_, h5, rfl⟩, ?_⟩
    rw [h6.len]
    exact q
theorem ok_fIter (Fn : FunD K "__iter__" "Facts.__iter__" (defArgs s_Facts_iter) (defBody s_Facts_iter) (defScope s_Facts_iter) [] [] f fd) (T : FacC K CF) (gI : mg "iter" = none) : FnOk P w K mg base CX0 1 f fd ["self"] (spIter K CF "rows" base.objs.size) := by
  refine Fn.ok sc_Facts_iter (fun vs H Q E h => ?_) (fun cdv A outer s H vs Q E hr h => ⟨_, PSs.nox (pss_one (ps_ret (pe_callB call_iterT (by rfl) gI boot_iter (pa_cons (pe_fld (pv 0) rfl) pa_nil)))), ?_⟩)
  · obtain ⟨a, _, _, _, _, rfl, _⟩ := h
    rfl
  · obtain ⟨a, dx, fs, l, zs, rfl, h1, h2, h3, q⟩ := h
    exact ⟨_, rfl, a, CF, dx, fs, _, rfl, h1, T.cl, T.nr, h2, l, zs, rfl, h3, q⟩
theorem ok_fEq (Fn : FunD K "__eq__" "Facts.__eq__" (defArgs s_Facts_eq) (defBody s_Facts_eq) (defScope s_Facts_eq) [] [] f fd) (T : FacC K CF) (Z : HouseTxt P w K mg C CBH) (gI : mg "isinstance" = none) (gF : mg "Facts" = some (.ref CF)) (kF : PySem.W.kitOne K (.ref CF) (.ref CF) = some true) :
    FnOk P w K mg base CX0 2 f fd ["self", "other"] (spFEq K CF C) := by
  refine Fn.ok sc_Facts_eq (fun vs H Q E h => ?_) (fun cdv A outer s H vs Q E hr h => ⟨_, PSs.nox (pss_one (ps_ret
    (pe_and (pe_callB call_isi (by rfl) gI boot_isinstance (pa_cons (pv 1) (pa_cons (pe_glob (v := .ref CF) (by rfl) gF rfl) pa_nil)))
    (pe_and (pe_cmpR (op_eqO (EI := E0) (hr.mono (by decide)) Z.mE (Z.E _) Z.bE pass0) (pe_fld (pv 0) rfl) (pe_fld (pv 1) rfl) (nomark _))
    (pe_one (pe_cmpR (op_eqD hr.units) (pe_fld (pv 0) rfl) (pe_fld (pv 1) rfl) (nomark _))))))), ?_⟩)
  · obtain ⟨a, _, _, _, _, rfl, _⟩ := h
    rfl
  · obtain ⟨a, fo, th, rows, y, rfl, fa, h⟩ := h
    rcases h with ⟨t, ty, kt, q⟩ | ⟨b, fo2, th2, rows2, rfl, fb, q⟩
    · exact ⟨_, rfl, y, .ref CF, t, .ref CF, false, rfl, .own CF, ty, kt, false, rfl, q⟩
    · refine ⟨_, rfl, .ref b, .ref CF, .ref CF, .ref CF, true, rfl, .own CF, tyF T fb, kF, true, rfl, ?_⟩
      refine iteT ?_
      obtain ⟨dx, fs, h, r, ys, h1, h2, h3, h4, h5, h6, h7, h8⟩ := fa
      obtain ⟨dx', fs', h', r', ys', g1, g2, g3, g4, g5, g6, g7, g8⟩ := fb
      obtain ⟨hx, hfs, hins⟩ := h4.ins
      refine ⟨_, rfl, a, CF, dx, fs, _, rfl, h1, T.cl, T.nh, h2, _, rfl, b, CF, dx', fs', _, rfl, g1, T.cl, T.nh, g2, h, hx, hfs, .ref C, rfl, hins, tyH Z.T g4, by simp [PySem.W.notFirst], h, fo, th, _, rfl, h4, .inr ⟨h', fo2, th2, rfl, g4, _, rfl, _, rfl, ?_⟩⟩
      refine ite2 (fun e => ?_) fun e => ?_
      · obtain ⟨e1, e2⟩ := Bool.and_eq_true_iff.mp e
        refine ⟨_, rfl, a, CF, dx, fs, _, rfl, h1, T.cl, T.nr, h3, _, rfl, b, CF, dx', fs', _, rfl, g1, T.cl, T.nr, g3, rowsT rows, rowsT rows2, .tup h5 (rows_dp h6), .tup g5 (rows_dp g6), rowsT_shaped h7, rowsT_shaped g7, ?_⟩
        rw [eqv_rowsT]
        have z := q H Ext.rfl'
        rw [e1, e2, Bool.true_and, Bool.true_and] at z
        exact z
      · have z := q H Ext.rfl'
        have e' : (decide (fo = fo2) && (decide (th = th2) && decide (rows = rows2))) = false := by
          have e2 : (decide (fo = fo2) && decide (th = th2)) = false := by
            cases hh : (decide (fo = fo2) && decide (th = th2)) with
            | false => rfl
            | true => exact absurd hh e
          rw [← Bool.and_assoc, e2, Bool.false_and]
        rw [e'] at z
        have e3 : (decide (fo = fo2) && decide (th = th2)) = false := by
          cases hh : (decide (fo = fo2) && decide (th = th2)) with
          | false => rfl
          | true => exact absurd hh e
        exact z
theorem ok_fHas (Fn : FunD K "__contains__" "Facts.__contains__" (defArgs s_Facts_contains) (defBody s_Facts_contains) (defScope s_Facts_contains) [] [] f fd) (T : FacC K CF) (his_fact : Has P w K mg base 5 "is_fact" ["house", "thing"] (spIsFact K C)) (has_told : Has P w K mg base 1 "as_told" ["house", "fact"] (spAsTold K C)) :
    FnOk P w K mg base CX0 6 f fd ["self", "x"] (spFHas K CF C) := by
  refine Fn.ok sc_Facts_contains (fun vs H Q E h => ?_) (fun cdv A outer s H vs Q E hr h => ⟨_, PSs.nox (pss_one (ps_ret
    (pe_and (pe_has his_fact (hr.mono (by decide)) (pa_cons (pe_fld (pv 0) rfl) (pa_cons (pv 1) pa_nil)))
    (pe_one (pe_cmpR (op_inDT (u65 hr)) (pe_has has_told (hr.mono (by decide)) (pa_cons (pe_fld (pv 0) rfl) (pa_cons (pv 1) pa_nil))) (pe_fld (pv 0) rfl) (by rfl)))))), ?_⟩)
  · obtain ⟨a, _, _, _, _, rfl, _⟩ := h
    rfl
  · obtain ⟨a, fo, th, rows, y, rfl, ⟨dx, fs, h, r, ys, h1, h2, h3, h4, h5, h6, h7, h8⟩, nd, hz, zok, hh⟩ := h
    rcases hh with ⟨fx, q⟩ | ⟨rr, wd, c, d, rfl, sq, isf, q⟩
    · exact ⟨_, rfl, a, CF, dx, fs, _, rfl, h1, T.cl, T.nh, h2, _, rfl, h, y, fo, th, false, rfl, h4, fx, fun H1 x1 => ⟨false, rfl, q H1 x1⟩⟩
    · refine ⟨_, rfl, a, CF, dx, fs, _, rfl, h1, T.cl, T.nh, h2, _, rfl, h, _, fo, th, true, rfl, h4, .inr (.inr ⟨rr, _, _, _, rfl, sq, .inl rfl, .inl rfl, .inl rfl, (is_fact isf).symm⟩), fun H1 x1 => ⟨true, rfl, ?_⟩⟩
      refine iteT ?_
      refine ⟨_, rfl, a, CF, dx, fs, _, rfl, x1 _ _ h1, T.cl, T.nh, h2, _, rfl, h, rr, fo, th, wd, c, d, rfl, h4.ext x1, nd, hz, isf, sq.ext x1, fun t H2 x2 ht => ?_⟩
      obtain ⟨e1, e2, et, hcd⟩ := told_three nd isf
      have okt : OkS (toldS (fo ++ th) wd c d) := fun z hz' => by
        rw [et] at hz'
        simp at hz'
        rcases hz' with rfl | rfl | rfl
        · exact wordsOk _ isf.1
        · rcases hcd with ⟨rfl, _⟩ | ⟨_, rfl, _⟩
          · exact zok _ isf.2.1
          · exact zok _ isf.2.2.1
        · rcases hcd with ⟨_, rfl⟩ | ⟨_, _, rfl⟩
          · exact zok _ isf.2.2.1
          · exact zok _ isf.2.1
      refine ⟨_, rfl, a, CF, dx, fs, _, rfl, (x1.trans x2) _ _ h1, T.cl, T.nr, h3, .tuple ((toldS (fo ++ th) wd c d).map PyData.str), _, .tup (SqT.of ht) (dpAll_str _), .tup (h5.ext (x1.trans x2)) (rows_dp (h6.ext (x1.trans x2))), shaped_strT _ okt, rowsT_shaped h7, ?_⟩
      rw [any_rows]
      exact q H2 (x1.trans x2)
end
end My

namespace My
open PySem PySem.Spec PyProof.Rows L2
abbrev nNames : List Str := ["_law_pool_here", "_law_many", "_law_found", "_law_k", "_law_size", "_law_word", "_law_spare", "_law_j", "_law_letter", "_law_each"]
theorem scNames : FnScope nNames ["_law_pool_here", "_law_many"] (defScope sNames) := ⟨rfl, rfl, rfl, by decide +kernel, rfl, by decide +kernel, by decide +kernel⟩
def spNames (K : PySem.W.Frag) : Sp := fun vs H Q _ => ∃ (p : Addr) (m : Nat) (n : Int), vs = [.ref p, .int (m : Int)] ∧ m ≤ 12 ∧ Pool H p n ∧ n < 1000000 ∧
  ∀ l zs H', But H H' p → Pool H' p (n + 9 * m) → H' l = some (.lst (zs.map V.str)) → H l = none → zs.length = m → Nms zs → Q (.ref l) H'
section
variable {P : Program} {w : World} {K : PySem.W.Frag} {mg : Str → Option Value} {base : Heap} {f fT : Addr} {fd fdT : FuncData}
theorem ok_names (Fn : FnP K "_law_names" sNames f fd) (FT : FnOk P w K mg base CX0 1 fT fdT ["_law_pool_here", "_law_many"] spTake) (gT : mg "_law_take" = some (.ref fT)) (kT : PySem.W.keepIn K (.ref fT) = true) (bT : Binds K fdT ["_law_pool_here", "_law_many"] []) (gR : mg "range" = none) :
    FnOk P w K mg base CX0 2 f fd ["_law_pool_here", "_law_many"] (spNames K) := by
  refine Fn.ok scNames (fun vs H Q E h => ?_) (fun cdv A outer s H vs Q E hr h => ⟨_, PSs.nox
    (pss_cons (ps_set (i := 2) scNames.nd rfl (.inr rfl) (pe_lst pa_nil))
    (pss_cons (ps_for PassesOwn.never rfl (pi_range1 (by rfl) gR (pa_cons (pv 1) pa_nil)) (pg_name (i := 3) scNames.nd rfl (Or.inl rfl))
      (pss_cons (ps_set (i := 4) scNames.nd rfl (.inl rfl) (pe_ix ix_list (pe_lst (pa_cons pe_int (pa_cons pe_int (pa_cons pe_int (pa_cons pe_int (pa_cons pe_int pa_nil)))))) (pe_call FT hr (by rfl) gT kT bT .nil pass0 (pa_cons (pv 0) (pa_cons pe_int pa_nil))) (fun _ _ => rfl)))
      (pss_cons (ps_set (i := 5) scNames.nd rfl (.inl rfl) (pe_bm PySem.F.plainAttrs_str PySem.F.slot_str_join PySem.F.type_str_join mt_join pe_str (pa_cons (pe_lc (own := [("_law_j", 7)]) (g := gName 7) (tt := tYes) rfl scNames.nd (pi_range1 (by rfl) gR (pa_cons (pv 4) pa_nil)) (blkOk_by (N := nNames) (sc := defScope sNames) (by decide +kernel))
          (fun _ _ _ _ _ => pg_name (i := 7) scNames.nd rfl (Or.inl rfl)) (fun _ _ _ _ _ => pts_nil) (fun _ _ _ _ _ => pe_ix ix_str pe_str (pe_call FT (hr.mono (by decide)) (by rfl) gT kT bT .nil pass0 (pa_cons (pv 0) (pa_cons pe_int pa_nil))) (fun _ _ => rfl))) pa_nil)))
      (pss_cons (ps_set (i := 6) scNames.nd rfl (.inl rfl) (pe_op L2.op_cat (pe_lst (pa_cons (pv 5) pa_nil)) (pe_lc (own := [("_law_letter", 8)]) (g := gName 8) (tt := tYes) rfl scNames.nd (pi_str pe_str) (blkOk_by (N := nNames) (sc := defScope sNames) (by decide +kernel))
          (fun _ _ _ _ _ => pg_name (i := 8) scNames.nd rfl (Or.inl rfl)) (fun _ _ _ _ _ => pts_nil) (fun _ _ _ _ _ => pe_op op_add_str (pe_op op_add_str pe_str (pv 8)) pe_str))))
      (pss_one (ps_expr (pe_bm PySem.F.plainAttrs_list PySem.F.slot_list_append PySem.F.type_list_append mt_append (pv 2) (pa_cons (pe_ix ix_list (pe_lc (own := [("_law_each", 9)]) (g := gName 9) (tt := tTest (tOp (rIn K true) (tVar 9) (tVar 2))) rfl scNames.nd (pi_list (pv 6)) (blkOk_by (N := nNames) (sc := defScope sNames) (by decide +kernel))
          (fun _ _ _ _ _ => pg_name (i := 9) scNames.nd rfl (Or.inl rfl)) (fun _ _ _ _ _ => pts_one (pt_cmpR op_notIn_seq (pv 9) (pv 2) (by rfl))) (fun _ _ _ _ _ => pv 9)) pe_int (fun _ _ => rfl)) pa_nil))))))))
    (pss_one (ps_ret (pv 2))))), ?_⟩)
  · obtain ⟨p, m, n, rfl, _⟩ := h
    rfl
  · obtain ⟨p, m, n, rfl, hm, hp, hn, q⟩ := h
    refine ⟨Nat.zero_le _, fun l hl => ?_⟩
    refine ⟨_, rfl, (m : Int), rfl, Int.le_trans (by decide) (Int.natCast_nonneg m), Int.lt_of_le_of_lt (Int.ofNat_le.mpr hm) (by decide), for_range (lo := 0) (n := m) (fun k σ H' => ∃ v3 v4 v5 v6 zs, σ = [some (.ref p), some (.int (m : Int)), some (.ref l), v3, v4, v5, v6, none, none, none] ∧ But H H' p ∧ Pool H' p (n + 9 * k) ∧ H' l = some (.lst (zs.map V.str)) ∧ zs.length = k ∧ Nms zs) ?_ ?_ ?_⟩
    · exact ⟨none, none, none, none, [], rfl, fun b u _ e => by rw [upd_ne (ne_of_none e hl)]; exact e, by
        obtain ⟨g, mm, c, h1, h2⟩ := hp
        refine ⟨g, mm, c, by rw [upd_ne (ne_of_none h1 hl)]; exact h1, ?_⟩
        rw [show n + 9 * ((0 : Nat) : Int) = n by omega]
        exact h2, upd_same, rfl, List.nodup_nil, fun z hz => by cases hz⟩
    · rintro k σ H1 hk ⟨v3, v4, v5, v6, zs, rfl, b1, p1, l1, len1, ns1⟩
      refine ⟨Nat.le_of_ble_eq_true rfl, fun l2 hl2 => ?_⟩
      have lp : l ≠ p := pool_ne hp hl
      obtain ⟨Ha, hHa⟩ : ∃ Ha, Ha = L2.upd H1 l2 (.lst [.int 1, .int 1, .int 2, .int 3, .int 8]) := ⟨_, rfl⟩
      rw [← hHa]
      have xa : Ext H1 Ha := by
        rw [hHa]
        exact Ext.upd hl2
      have l2a : Ha l2 = some (.lst [.int 1, .int 1, .int 2, .int 3, .int 8]) := by rw [hHa, upd_same]
      have l2p : l2 ≠ p := pool_ne p1 hl2
      refine ⟨_, rfl, p, 5, _, rfl, by decide, by decide, pool_ext p1 xa, by omega, fun r o r0 r1 gp => ?_⟩
      obtain ⟨Hb, hHb⟩ : ∃ Hb, Hb = L2.upd Ha p o := ⟨_, rfl⟩
      rw [← hHb] at gp
      rw [← hHb]
      have bb : But Ha Hb p := by
        rw [hHb]
        exact But.upd (ext_but Ext.rfl')
      have lb : Hb l = some (.lst (zs.map V.str)) := bb _ _ lp (xa _ _ l1)
      obtain ⟨j, rfl⟩ := Int.eq_ofNat_of_zero_le r0
      have hj : j < 5 := by omega
      obtain ⟨sz, hsz, hin⟩ : ∃ sz : Nat, ([.int 1, .int 1, .int 2, .int 3, .int 8] : List V)[j]? = some (.int (sz : Int)) ∧ sz ∈ [1, 1, 2, 3, 8] := by
        match j, hj with
        | 0, _ => exact ⟨1, rfl, by decide⟩
        | 1, _ => exact ⟨1, rfl, by decide⟩
        | 2, _ => exact ⟨2, rfl, by decide⟩
        | 3, _ => exact ⟨3, rfl, by decide⟩
        | 4, _ => exact ⟨8, rfl, by decide⟩
      have hsz8 : sz ≤ 8 := by
        simp only [List.mem_cons, List.not_mem_nil, or_false] at hin
        omega
      refine ⟨l2, _, _, _, rfl, rfl, SqL.of (bb _ _ l2p l2a), atI_nat hsz, ?_⟩
      refine ⟨rfl, _, rfl, (sz : Int), rfl, Int.le_trans (by decide) (Int.natCast_nonneg sz), Int.lt_of_le_of_lt (Int.ofNat_le.mpr hsz8) (by decide), fun D hD => lc_it (walk_range (lo := 0) (n := sz))
        (fun i H' => But Hb H' p ∧ Pool H' p (n + 9 * k + 1 + i) ∧ ∃ cs : List Nat, cs.length = i ∧ (∀ c, c ∈ cs → c ∈ az.cps.toList) ∧ H' D = some (.lst (cs.map fun c => V.str ⟨#[c]⟩)))
        ⟨ext_but (Ext.upd hD), pool_ext (by rw [show n + 9 * (k : Int) + 1 + ((0 : Nat) : Int) = n + 9 * k + 1 by omega]; exact gp) (Ext.upd hD), [], rfl, (fun c hc => by cases hc), upd_same⟩ (fun _ _ _ _ => True.intro) ?_ ?_⟩
      · rintro i x H2 H3 hi ⟨b2, p2, cs, hcs, hall, ld⟩ ⟨rfl, rfl⟩
        refine ⟨rfl, ?_⟩
        refine lcYes ?_
        have Dp : D ≠ p := pool_ne gp hD
        refine ⟨_, rfl, p, 25, _, rfl, by decide, by decide, p2, by omega, fun r o r0 r1 gp => ?_⟩
        obtain ⟨c1, rfl⟩ := Int.eq_ofNat_of_zero_le r0
        have hc1 : c1 < az.cps.toList.length := by
          rw [show az.cps.toList.length = 25 by decide +kernel]
          omega
        refine ⟨az, _, az.cps.toList[c1], rfl, rfl, Nat.le_of_ble_eq_true (by decide +kernel), atI_nat (List.getElem?_eq_getElem hc1), cs.map (fun c => V.str ⟨#[c]⟩), ?_, ?_, ?_⟩
        · rw [upd_ne Dp]
          exact ld
        · rw [List.length_map, hcs, sizeLine_eq]
          omega
        · refine ⟨?_, ?_, cs ++ [az.cps.toList[c1]], by rw [List.length_append, hcs]; rfl, fun c hc => ?_, by rw [upd_same, List.map_append]; rfl⟩
          · intro b u hb hu
            rw [upd_ne (ne_of_none hu hD), upd_ne hb]
            exact b2 b u hb hu
          · refine pool_at (n := n + 9 * k + 1 + ((i + 1 : Nat) : Int)) (H := L2.upd H3 p o) ?_ (upd_ne (Ne.symm Dp))
            rw [show n + 9 * (k : Int) + 1 + ((i + 1 : Nat) : Int) = n + 9 * k + 1 + (i : Int) + 1 by omega]
            exact gp
          · rcases List.mem_append.mp hc with hc | hc
            · exact hall c hc
            · rw [List.mem_singleton.mp hc]
              exact List.getElem_mem hc1
      rintro H4 ⟨b4, p4, cs, hcs, hall, ld⟩
      have l4 : H4 l = some (.lst (zs.map V.str)) := b4 _ _ lp lb
      refine ⟨_, D, cs.map fun c => (⟨#[c]⟩ : Str), rfl, rfl, .inl (SqL.of (by rw [ld, List.map_map]; rfl)), by rw [sum_one, hcs]; show sz + _ * 0 ≤ _; omega, ?_⟩
      have hw : Nm (Txt.join "" (cs.map fun c => (⟨#[c]⟩ : Str))) := word_nm (join_one cs) hall (by rw [hcs]; exact hin)
      obtain ⟨wd, hwd⟩ : ∃ wd, wd = Txt.join "" (cs.map fun c => (⟨#[c]⟩ : Str)) := ⟨_, rfl⟩
      rw [← hwd] at hw
      rw [← hwd]
      have lD : H4 D = some (.lst (cs.map fun c => V.str ⟨#[c]⟩)) := ld
      refine ⟨_, rfl, Nat.le_of_ble_eq_true rfl, fun l5 hl5 => ?_⟩
      obtain ⟨H5, hH5⟩ : ∃ H5, H5 = L2.upd H4 l5 (.lst [.str wd]) := ⟨_, rfl⟩
      rw [← hH5]
      have x5 : Ext H4 H5 := by
        rw [hH5]
        exact Ext.upd hl5
      have l55 : H5 l5 = some (.lst [.str wd]) := by rw [hH5, upd_same]
      refine ⟨ap, rfl, fun D2 hD2 => lc_it (walk_str (z := ap)) (fun i H' => Ext H5 H' ∧ H' D2 = some (.lst ((spares.take i).map V.str))) ⟨Ext.upd hD2, upd_same⟩ (fun _ _ _ _ => True.intro) ?_ ?_⟩
      · rintro i x H6 H7 hi ⟨x6, l6⟩ ⟨rfl, c, hc, rfl⟩
        refine ⟨rfl, ?_⟩
        refine lcYes ?_
        refine ⟨_, rfl, _, _, rfl, rfl, Nat.le_of_ble_eq_true rfl, _, _, rfl, rfl, Nat.le_of_ble_eq_true rfl, _, l6, ?_, ?_⟩
        · rw [List.length_map, List.length_take]
          exact Nat.lt_of_le_of_lt (Nat.min_le_right _ _) (by rw [spares_len]; exact Nat.le_of_ble_eq_true rfl)
        · refine ⟨x6.over hD2, ?_⟩
          have e : spares[i]? = some (("z" : Str) ++ (⟨#[c]⟩ : Str) ++ ("q" : Str)) := by
            unfold spares
            rw [List.getElem?_map, Array.getElem?_toList, hc]
            rfl
          rw [upd_same, List.take_add_one, e, List.map_append]
          rfl
      rintro H6 ⟨x6, l6⟩
      have etk : spares.take ap.cps.size = spares := List.take_of_length_le (by rw [spares_len]; decide +kernel)
      rw [etk] at l6
      refine ⟨l5, D2, _, _, rfl, rfl, x6 _ _ l55, l6, by rw [List.length_map, spares_len]; exact Nat.le_of_ble_eq_true rfl, fun l7 hl7 => ?_⟩
      obtain ⟨H7, hH7⟩ : ∃ H7, H7 = L2.upd H6 l7 (.lst ([V.str wd] ++ spares.map V.str)) := ⟨_, rfl⟩
      rw [← hH7]
      have x7 : Ext H6 H7 := by
        rw [hH7]
        exact Ext.upd hl7
      have l77 : H7 l7 = some (.lst ((wd :: spares).map V.str)) := by rw [hH7, upd_same]; rfl
      have x47 : Ext H4 H7 := (x5.trans x6).trans x7
      have l17 : H7 l = some (.lst (zs.map V.str)) := x47 _ _ l4
      have fz : (zs.map V.str).all flatV = true := by rw [List.all_map]; exact List.all_eq_true.mpr fun _ _ => rfl
      refine ⟨_, rfl, .inl ⟨rfl, _, SqL.of l17⟩, ?_⟩
      refine ⟨_, rfl, l7, rfl, ⟨_, SqL.of l77⟩, fun D3 hD3 => lc_it (walk_list (xs := (wd :: spares).map V.str)) (fun i H' => Ext H7 H' ∧ H' D3 = some (.lst ((((wd :: spares).take i).filter fun z => !decide (z ∈ zs)).map V.str)))
        ⟨Ext.upd hD3, upd_same⟩ (fun i H' _ z => SqL.of (z.1 _ _ l77)) ?_ ?_⟩
      · rintro i x H8 H9 hi ⟨x8, l8⟩ ⟨rfl, hx⟩
        obtain ⟨z, hz, rfl⟩ : ∃ z, (wd :: spares)[i]? = some z ∧ x = V.str z := by
          rw [List.getElem?_map] at hx
          cases e : (wd :: spares)[i]? with
          | none =>
            rw [e] at hx
            cases hx
          | some z =>
            rw [e] at hx
            exact ⟨z, rfl, (Option.some.inj hx).symm⟩
        have l18 := x8 _ _ l17
        refine ⟨rfl, ?_⟩
        refine ⟨_, rfl, _, rfl, l, _, rfl, .inl (SqL.of l18), rfl, fz, _, rfl, ?_⟩
        rw [if_pos rfl, inV_str]
        have tk : (wd :: spares).take (i + 1) = (wd :: spares).take i ++ [z] := by rw [List.take_add_one, hz]; rfl
        by_cases hin2 : z ∈ zs
        · rw [decide_eq_true hin2]
          refine iteF ?_
          refine ⟨x8, ?_⟩
          have ef : [z].filter (fun z => !decide (z ∈ zs)) = [] := by simp [hin2]
          rw [tk, List.filter_append, ef, List.append_nil]
          exact l8
        · rw [decide_eq_false hin2]
          refine iteT ?_
          refine ⟨_, rfl, _, l8, ?_, x8.over hD3, ?_⟩
          · rw [List.length_map]
            refine Nat.lt_of_le_of_lt (List.length_filter_le _ _) ?_
            rw [List.length_take]
            refine Nat.lt_of_le_of_lt (Nat.min_le_right _ _) ?_
            rw [List.length_cons, spares_len]
            exact Nat.le_of_ble_eq_true rfl
          · have ef : [z].filter (fun z => !decide (z ∈ zs)) = [z] := by simp [hin2]
            rw [upd_same, tk, List.filter_append, ef, List.map_append]
            rfl
      rintro H8 ⟨x8, l8⟩
      rw [List.length_map, List.take_length] at l8
      obtain ⟨z, r, hzr⟩ := fresh_ne (w := wd) (zs := zs) (by omega)
      obtain ⟨hz1, hz2⟩ := fresh_mem hzr hw
      have l8' : H8 D3 = some (.lst ((z :: r).map V.str)) := by rw [← hzr]; exact l8
      have l18 := x8 _ _ l17
      refine ⟨D3, _, ((0 : Nat) : Int), .str z, rfl, rfl, SqL.of l8', atI_nat rfl, ?_⟩
      refine ⟨l, _, _, rfl, rfl, l18, by rw [List.length_map, len1, sizeLine_eq]; omega, ?_⟩
      have x48 : Ext H4 H8 := x47.trans x8
      refine ⟨_, _, _, _, zs ++ [z], rfl, ?_, ?_, by rw [upd_same, List.map_append]; rfl, by rw [List.length_append, len1]; rfl, ?_, ?_⟩
      · intro b u hb hu
        rw [upd_ne (ne_of_none hu hl)]
        exact (((b1.ext xa).trans bb).trans b4).ext x48 b u hb hu
      · refine pool_at (H := H8) ?_ (upd_ne (Ne.symm lp))
        obtain ⟨g, mm, c, h1, h2, h3, h4, h5, h6⟩ := pool_ext p4 x48
        exact ⟨g, mm, c, h1, h2, h3, h4, h5, by omega⟩
      · rw [List.nodup_append]
        refine ⟨ns1.1, by simp, fun a ha b hb e => ?_⟩
        rw [List.mem_singleton.mp hb] at e
        rw [e] at ha
        exact hz2 ha
      · intro y hy
        rcases List.mem_append.mp hy with hy | hy
        · exact ns1.2 y hy
        · rw [List.mem_singleton.mp hy]
          exact hz1
    · rintro σ H1 ⟨v3, v4, v5, v6, zs, rfl, b1, p1, l1, len1, ns1⟩
      exact ⟨_, rfl, q l zs H1 b1 p1 l1 hl len1 ns1⟩
end
end My

namespace My
open PySem PySem.Spec PyProof.Rows L2
theorem scHouse : FnScope ["_law_pool_here", "_law_most", "_law_more", "_law_many", "_law_few", "_law_words"] ["_law_pool_here", "_law_most", "_law_more"] (defScope sHouse) := ⟨rfl, rfl, rfl, by decide +kernel, rfl, by decide +kernel, by decide +kernel⟩
def spHouse : Sp := fun vs H Q _ => ∃ (p : Addr) (n : Int) (mo mr : Nat), vs = [.ref p, .int (mo : Int), .int (mr : Int)] ∧ 1 ≤ mo ∧ mo ≤ 4 ∧ 1 ≤ mr ∧ mr ≤ 3 ∧ Pool H p n ∧ n < 900000 ∧
  ∀ t l1 l2 fo th H', But H H' p → Pool H' p (n + 80) → H' t = some (.tup [.ref l1, .ref l2]) → H' l1 = some (.lst (fo.map V.str)) → H' l2 = some (.lst (th.map V.str)) → l1 ≠ l2 → H l1 = none → H l2 = none →
    1 ≤ fo.length → fo.length ≤ mo → th.length ≤ mr → 2 ≤ fo.length + th.length → Nms (fo ++ th) → Q (.ref t) H'
section
variable {P : Program} {w : World} {K : PySem.W.Frag} {mg : Str → Option Value} {base : Heap} {f fT fN : Addr} {fd fdT fdN : FuncData}
theorem ok_house (Fn : FnP K "_law_house" sHouse f fd) (FT : FnOk P w K mg base CX0 1 fT fdT ["_law_pool_here", "_law_many"] spTake) (gT : mg "_law_take" = some (.ref fT)) (kT : PySem.W.keepIn K (.ref fT) = true) (bT : Binds K fdT ["_law_pool_here", "_law_many"] [])
    (FN : FnOk P w K mg base CX0 2 fN fdN ["_law_pool_here", "_law_many"] (spNames K)) (gN : mg "_law_names" = some (.ref fN)) (kN : PySem.W.keepIn K (.ref fN) = true) (bN : Binds K fdN ["_law_pool_here", "_law_many"] []) (gM : mg "max" = none) :
    FnOk P w K mg base CX0 3 f fd ["_law_pool_here", "_law_most", "_law_more"] spHouse := by
  refine Fn.ok scHouse (fun vs H Q E h => ?_) (fun cdv A outer s H vs Q E hr h => ⟨_, PSs.nox
    (pss_cons (ps_set (i := 3) scHouse.nd rfl (.inl rfl) (pe_op op_add pe_int (pe_call FT (hr.mono (by decide)) (by rfl) gT kT bT .nil pass0 (pa_cons (pv 0) (pa_cons (pv 1) pa_nil)))))
    (pss_cons (ps_set (i := 4) scHouse.nd rfl (.inl rfl) (pe_callB (call_max2 rfl) (by rfl) gM boot_max (pa_cons (pe_call FT (hr.mono (by decide)) (by rfl) gT kT bT .nil pass0 (pa_cons (pv 0) (pa_cons (pe_op op_add (pv 2) pe_int) pa_nil))) (pa_cons (pe_op op_sub pe_int (pv 3)) pa_nil))))
    (pss_cons (ps_set (i := 5) scHouse.nd rfl (.inl rfl) (pe_call FN hr (by rfl) gN kN bN .nil pass0 (pa_cons (pv 0) (pa_cons (pe_op op_add (pv 3) (pv 4)) pa_nil))))
    (pss_one (ps_ret (pe_tup (pa_cons (pe_slice sl_list (pv 5) po_none (po_some (pv 3))) (pa_cons (pe_slice sl_list (pv 5) (po_some (pv 3)) po_none) pa_nil)))))))), ?_⟩)
  · obtain ⟨p, n, mo, mr, rfl, _⟩ := h
    rfl
  · obtain ⟨p, n, mo, mr, rfl, mo1, mo4, mr1, mr3, hp, hn, q⟩ := h
    refine ⟨_, rfl, _, rfl, p, mo, n, rfl, by omega, by omega, hp, by omega, fun r o r0 r1 gp => ?_⟩
    obtain ⟨H1, hH1⟩ : ∃ H1, H1 = L2.upd H p o := ⟨_, rfl⟩
    rw [← hH1] at gp
    rw [← hH1]
    have b1 : But H H1 p := by
      rw [hH1]
      exact But.upd (ext_but Ext.rfl')
    obtain ⟨r', rfl⟩ := Int.eq_ofNat_of_zero_le r0
    refine ⟨_, _, rfl, rfl, ?_⟩
    refine ⟨_, rfl, _, rfl, _, _, rfl, rfl, p, _, _, rfl, by omega, by omega, gp, by omega, fun r2 o2 r20 r21 gp2 => ?_⟩
    obtain ⟨H2, hH2⟩ : ∃ H2, H2 = L2.upd H1 p o2 := ⟨_, rfl⟩
    rw [← hH2] at gp2
    rw [← hH2]
    have b2 : But H H2 p := b1.trans (by
      rw [hH2]
      exact But.upd (ext_but Ext.rfl'))
    obtain ⟨r2', rfl⟩ := Int.eq_ofNat_of_zero_le r20
    refine ⟨_, rfl, _, _, rfl, rfl, _, _, rfl, ?_⟩
    -- the numbers
    obtain ⟨few, hfew, hf1, hf2⟩ : ∃ few : Nat, (if (2 - (1 + (r' : Int))) > (r2' : Int) then (2 - (1 + (r' : Int))) else (r2' : Int)) = (few : Int) ∧ few ≤ mr ∧ 2 ≤ (1 + r') + few := by
      by_cases c : (2 - (1 + (r' : Int))) > (r2' : Int)
      · rw [if_pos c]
        exact ⟨1 - r', by omega, by omega, by omega⟩
      · rw [if_neg c]
        exact ⟨r2', rfl, by omega, by omega⟩
    refine ⟨_, rfl, _, rfl, _, rfl, _, _, rfl, rfl, p, 1 + r' + few, _, by rw [hfew]; rfl, by omega, gp2, by omega, fun l zs H3 b3 p3 l3 ln3 len3 nms3 => ?_⟩
    have b03 : But H H3 p := b2.trans b3
    have lp : l ≠ p := pool_ne gp2 ln3
    have hk : 1 + r' ≤ (zs.map V.str).length := by
      rw [List.length_map, len3]
      omega
    have hH : ∀ {b : Addr}, H3 b = none → H b = none := fun {b} h => by
      cases hh : H b with
      | none => rfl
      | some u =>
        by_cases e : b = p
        · obtain ⟨_, _, _, h1, _⟩ := p3
          rw [e, h1] at h
          cases h
        · rw [b03 b u e hh] at h
          cases h
    have ei : (1 : Int) + (r' : Int) = ((1 + r' : Nat) : Int) := by omega
    refine ⟨_, rfl, _, rfl, _, rfl, l, _, rfl, SqL.of l3, fun l4 hl4 => ?_⟩
    refine ⟨_, rfl, _, rfl, _, rfl, l, _, rfl, SqL.of (Ext.upd hl4 _ _ l3), fun l5 hl5 => ?_⟩
    refine ⟨Nat.le_of_ble_eq_true rfl, fun t ht => ?_⟩
    rw [ei, cutV_take hk, cutV_drop hk] at ht
    rw [ei, cutV_take hk] at hl5
    rw [ei, cutV_take hk, cutV_drop hk]
    obtain ⟨H4, hH4⟩ : ∃ H4, H4 = L2.upd H3 l4 (.lst ((zs.map V.str).take (1 + r'))) := ⟨_, rfl⟩
    rw [← hH4] at hl5 ht
    rw [← hH4]
    have x4 : Ext H3 H4 := by
      rw [hH4]
      exact Ext.upd hl4
    obtain ⟨H5, hH5⟩ : ∃ H5, H5 = L2.upd H4 l5 (.lst ((zs.map V.str).drop (1 + r'))) := ⟨_, rfl⟩
    rw [← hH5] at ht
    rw [← hH5]
    have x5 : Ext H4 H5 := by
      rw [hH5]
      exact Ext.upd hl5
    have x6 : Ext H5 (L2.upd H5 t (.tup [.ref l4, .ref l5])) := Ext.upd ht
    have l44 : H4 l4 = some (.lst ((zs.take (1 + r')).map V.str)) := by rw [hH4, upd_same, List.map_take]
    have l55 : H5 l5 = some (.lst ((zs.drop (1 + r')).map V.str)) := by rw [hH5, upd_same, List.map_drop]
    have ne : l4 ≠ l5 := ne_of_none l44 hl5
    have h5n : H3 l5 = none := by
      rw [hH4, upd_ne (Ne.symm ne)] at hl5
      exact hl5
    refine q t l4 l5 (zs.take (1 + r')) (zs.drop (1 + r')) _ (b03.ext ((x4.trans x5).trans x6)) (pool_mono (pool_ext p3 ((x4.trans x5).trans x6)) (by omega)) upd_same (x6 _ _ (x5 _ _ l44)) (x6 _ _ l55) ne (hH hl4) (hH h5n) ?_ ?_ ?_ ?_ ?_
    · rw [List.length_take]
      omega
    · rw [List.length_take]
      omega
    · rw [List.length_drop]
      omega
    · rw [List.length_take, List.length_drop]
      omega
    · rw [List.take_append_drop]
      exact nms3
end
end My

namespace L2
open PySem PySem.Spec PyProof.Rows
theorem slK {X : Cx} {r : PySem.W.Frag → V → Option Int → Option Int → Hp → VK → Prop} {K : PySem.W.Frag} (e : X.K = K) (h : SlR X (r X.K)) : SlR X (r K) := e ▸ h
end L2
namespace My
open PySem PySem.Spec PyProof.Rows L2
/-- a fact as it is told -/
def IsT (fo th : List Str) (w a b : Str) : Prop := IsF fo th w a b ∧ toldS (fo ++ th) w a b = [w, a, b]
/-- what else is needed of the class Facts -/
structure FacTxt (P : Program) (w : World) (K : PySem.W.Frag) (mg : Str → Option Value) (CF C CB : Addr) where
  T : FacC K CF
  gF : mg "Facts" = some (.ref CF)
  kFF : PySem.W.kitOne K (.ref CF) (.ref CF) = some true
  ne : PySem.W.findIn K (.ref CF) "__ne__" = some (some (.builtin "object.__ne__"))
  nb : ∀ T, T ∈ ["NoneType", "list", "tuple", "int", "str"] → PySem.W.notFirst K CF (.type T) = true ∧ PySem.W.kitOne K (.type T) (.ref CF) = some false
  kSeq : PySem.W.kitAny K (.ref CF) [.type "list", .type "tuple"] = some false
  fI : Addr
  fdI : FuncData
  M : Mk K CF fI
  I : ∀ base, FnOk P w K mg base (L2.CX P w) 7 fI fdI ["self", "house", "facts"] (spFInit K CF C CB)
  bI : Binds K fdI ["self", "house", "facts"] []
  uD : Value
  bD : Binds K fdI ["self", "house", "facts"] [uD]
  aD : Addr
  eD : uD = .ref aD
  tD : ∀ H, SqT K H aD []
  fT : Addr
  fdT : FuncData
  mT : Meth K CF "told" fT
  To : ∀ base, FnOk P w K mg base CX0 1 fT fdT ["self"] (spTold K CF C)
  bT : Binds K fdT ["self"] []
  fL : Addr
  fdL : FuncData
  mL : OwnM K CF "__len__" fL
  L : ∀ base, FnOk P w K mg base CX0 1 fL fdL ["self"] (spFLen K CF C)
  bL : Binds K fdL ["self"] []
  fS : Addr
  fdS : FuncData
  mS : OwnM K CF "__contains__" fS
  S : ∀ base, FnOk P w K mg base CX0 6 fS fdS ["self", "x"] (spFHas K CF C)
  bS : Binds K fdS ["self", "x"] []
  fW : Addr
  fdW : FuncData
  mW : OwnM K CF "__iter__" fW
  W : ∀ base : Heap, FnOk P w K mg base CX0 1 fW fdW ["self"] (spIter K CF "rows" base.objs.size)
  bW : Binds K fdW ["self"] []
  fE : Addr
  fdE : FuncData
  mE : OwnM K CF "__eq__" fE
  E : ∀ base, FnOk P w K mg base CX0 2 fE fdE ["self", "other"] (spFEq K CF C)
  bE : Binds K fdE ["self", "other"] []
theorem FacTxt.vD {P : Program} {w : World} {K : PySem.W.Frag} {mg : Str → Option Value} {CF C CB : Addr} (Z : FacTxt P w K mg CF C CB) : Vals [V.ref Z.aD] [Z.uD] := .cons Z.eD .nil
/-! ### rows as data, deeper -/
theorem canLay_dn (m : Nat) : ∀ ds : List PyData, (∀ d, d ∈ ds → d.canLay0 = true ∧ d.depth ≤ m) → PyData.canLayAll0 ds = true ∧ PyData.depthAll ds ≤ m
  | [], _ => ⟨rfl, Nat.zero_le _⟩
  | d :: ds, h => by
    obtain ⟨h1, h2⟩ := canLay_dn m ds fun x hx => h x (List.mem_cons_of_mem _ hx)
    obtain ⟨h3, h4⟩ := h d List.mem_cons_self
    refine ⟨?_, Nat.max_le.mpr ⟨h4, h2⟩⟩
    show (d.canLay0 && PyData.canLayAll0 ds) = true
    rw [h1, h3]
    rfl
theorem shaped_dn {m : Nat} (hm : m ≤ 63) (ds : List PyData) (h : ∀ d, d ∈ ds → d.canLay0 = true ∧ d.depth ≤ m) : SeqAt.shaped (.list ds) = true := by
  obtain ⟨h1, h2⟩ := canLay_dn m ds h
  refine Bool.and_eq_true_iff.mpr ⟨h1, decide_eq_true ?_⟩
  show PyData.depthAll ds + 1 ≤ 64
  omega
theorem rowsD_lay {rs : List (List Str)} (h : OkR rs) : (rowsD rs).canLay0 = true ∧ (rowsD rs).depth ≤ 3 := by
  obtain ⟨h1, h2⟩ := canLay_dn 2 (rs.map fun r => .tuple (r.map PyData.str)) fun d hd => by
    obtain ⟨r, hr, rfl⟩ := List.mem_map.mp hd
    exact flat_tup r (h r hr)
  exact ⟨h1, Nat.succ_le_succ h2⟩
/-- told rows -/
def TR (fo th : List Str) (rs : List (List Str)) : Prop := ∀ r, r ∈ rs → ∃ w a b, r = [w, a, b] ∧ IsT fo th w a b
theorem TR.fact {fo th : List Str} {rs : List (List Str)} (h : TR fo th rs) : FactR fo th rs := fun r hr => by
  obtain ⟨w, a, b, e, i⟩ := h r hr
  exact ⟨w, a, b, e, i.1⟩
theorem TR.told {fo th : List Str} {rs : List (List Str)} (h : TR fo th rs) : rs.map (toldR (fo ++ th)) = rs := by
  conv => rhs; rw [← List.map_id rs]
  refine List.map_congr_left fun r hr => ?_
  obtain ⟨w, a, b, rfl, i⟩ := h r hr
  exact i.2
theorem TR.ok {fo th : List Str} {rs : List (List Str)} (h : TR fo th rs) (zok : ∀ z, z ∈ fo ++ th → PyData.strOk z = true) : OkR rs := fun r hr z hz => by
  obtain ⟨w, a, b, rfl, i⟩ := h r hr
  simp at hz
  rcases hz with rfl | rfl | rfl
  · exact wordsOk _ i.1.1
  · exact zok _ i.1.2.1
  · exact zok _ i.1.2.2.1
theorem TR.sub {fo th : List Str} {rs ss : List (List Str)} (h : TR fo th rs) (s : ∀ r, r ∈ ss → r ∈ rs) : TR fo th ss := fun r hr => h r (s r hr)
theorem once_fold : ∀ rs acc : List (List Str), (acc ++ rs).Nodup → rs.foldl (fun acc r => if r ∈ acc then acc else acc ++ [r]) acc = acc ++ rs
  | [], acc, _ => (List.append_nil acc).symm
  | r :: rs, acc, nd => by
    have nr : r ∉ acc := fun m => (List.nodup_append.mp nd).2.2 r m r List.mem_cons_self rfl
    rw [List.foldl_cons, if_neg nr, once_fold rs (acc ++ [r]) (by rw [List.append_assoc]; exact nd), List.append_assoc]
    rfl
theorem once_nd {rs : List (List Str)} (nd : rs.Nodup) : onceR rs = rs := once_fold rs [] nd
theorem Rows.raws {K : PySem.W.Frag} {H : Hp} {xs : List V} {rs : List (List Str)} (h : Rows K H xs rs) : Raws K H xs rs := ⟨h.len, fun i x hx => by
  obtain ⟨t, r, e, s, hr⟩ := h.at_ hx
  exact ⟨t, r, e, hr, .inr s⟩⟩
/-- Facts(..) of facts -/
theorem mkF {K : PySem.W.Frag} {CF C CB h p x' dx : Addr} {H : Hp} {fo th : List Str} {xs : List V} {rs : List (List Str)} {R : Hp → Prop} {E : XK} (hou : Hou H K C h fo th) (nd : (fo ++ th).Nodup) (sz : (fo ++ th).length < sizeLine) (zok : ∀ z, z ∈ fo ++ th → PyData.strOk z = true)
    (sq : SeqAt2 K H p xs) (raw : Raws K H xs rs) (fr : FactR fo th rs) (len : rs.length < 1000) (h1 : H x' = none) (h2 : H dx = none) (h3 : dx ≠ x') (q : ∀ H', Ext H H' → FacAt H' K CF C x' fo th (onceR (rs.map (toldR (fo ++ th)))) → R H') :
    spFInit K CF C CB [.ref x', .ref h, .ref p] (L2.upd (L2.upd H dx (.own x')) x' (.ins CF dx [])) (fun v H2 => v = .non ∧ R H2) E := by
  have xn : Ext H (L2.upd (L2.upd H dx (.own x')) x' (.ins CF dx [])) := fun c u k => by
    rw [upd_ne (ne_of_none k h1), upd_ne (ne_of_none k h2)]
    exact k
  obtain ⟨hx, hfs, hins⟩ := hou.ins
  exact ⟨x', dx, h, _, fo, th, rfl, upd_same, ne_of_none hins h1, hou.ext xn, nd, sz, zok, .inr ⟨p, xs, rs, rfl, sq.ext xn, raw.ext xn, fr, len, fun H' b fa => ⟨rfl, q H' (fun c u k => b c u (ne_of_none k h1) (xn c u k)) fa⟩⟩⟩
end My

namespace L2
open PySem PySem.Spec PyProof.Rows
/-- for .. in enumerate(list or tuple) -/
theorem for_enumS {K : PySem.W.Frag} {a : Addr} {xs : List V} {H : Hp} (sq : SqL K H a xs ∨ SqT K H a xs) {g : TG} {tb : TS} {D : Ends} {σ : St} (Pv : Nat → St → Hp → Prop) (h0 : Pv 0 σ H) (hG : ∀ i σ H', i ≤ xs.length → Pv i σ H' → ∀ b u, H b = some u → H' b = some u)
    (hs : ∀ i y σ H' T, i < xs.length → Pv i σ H' → xs[i]? = some y → H' T = none → g (.ref T) σ (upd H' T (.tup [.int (i : Nat), y])) fun σ2 H2 => tb { D with nx := Pv (i + 1), ct := Pv (i + 1), bk := D.nx } σ2 H2) (hd : ∀ σ H, Pv xs.length σ H → D.nx σ H) :
    (SqL K H a xs ∧ ∃ W : Nat → Nat → St → Hp → Prop, (∃ m, W 0 m σ H) ∧ ∀ i m σ H, W i m σ H →
      ((Ite K a).stop i H ∧ D.nx σ H) ∨ ((Ite K a).go i H ∧ ∃ N : St → Hp → Prop, (∀ σ' H', N σ' H' → ∃ m', m' < m ∧ W (i + 1) m' σ' H') ∧ ∀ x H', (Ite K a).yld i H x H' → g x σ H' fun σ2 H2 => tb { D with nx := N, ct := N, bk := D.nx } σ2 H2)) ∨
    (SqT K H a xs ∧ ∃ W : Nat → Nat → St → Hp → Prop, (∃ m, W 0 m σ H) ∧ ∀ i m σ H, W i m σ H →
      ((IteT K a).stop i H ∧ D.nx σ H) ∨ ((IteT K a).go i H ∧ ∃ N : St → Hp → Prop, (∀ σ' H', N σ' H' → ∃ m', m' < m ∧ W (i + 1) m' σ' H') ∧ ∀ x H', (IteT K a).yld i H x H' → g x σ H' fun σ2 H2 => tb { D with nx := N, ct := N, bk := D.nx } σ2 H2)) := by
  rcases sq with sq | sq
  · refine .inl ⟨sq, for_it (walk_enum (xs := xs)) Pv h0 (fun i σ H' hi p => SqL.ext sq (hG i σ H' hi p)) (fun i x σ H' H'' hi p y => ?_) hd⟩
    obtain ⟨T, y1, y2, rfl, hT, rfl, e1, e2⟩ := y
    cases e1
    exact hs i y2 σ H' T hi p e2 hT
  · refine .inr ⟨sq, for_it (walk_enumT (xs := xs)) Pv h0 (fun i σ H' hi p => SqT.ext sq (hG i σ H' hi p)) (fun i x σ H' H'' hi p y => ?_) hd⟩
    obtain ⟨T, y1, y2, rfl, hT, rfl, e1, e2⟩ := y
    cases e1
    exact hs i y2 σ H' T hi p e2 hT
/-- [.. for .. in enumerate(list or tuple) ..] -/
theorem lc_enumS {K : PySem.W.Frag} {a : Addr} {xs : List V} {H : Hp} (sq : SqL K H a xs ∨ SqT K H a xs) {g : TG} {tt : TT} {te : TE} {vs : List Nat} {σ : St} {D : Addr} {Qd : Hp → Prop} (hD : H D = none) (Pv : Nat → Hp → Prop) (h0 : Pv 0 (upd H D (.lst []))) (hG : ∀ i H', i ≤ xs.length → Pv i H' → ∀ b u, H b = some u → H' b = some u)
    (hs : ∀ i y H' T, i < xs.length → Pv i H' → xs[i]? = some y → H' T = none → g (.ref T) (wipe σ vs) (upd H' T (.tup [.int (i : Nat), y])) fun σ2 H2 => wipe σ2 vs = wipe σ vs ∧ tt σ2 H2 fun b H3 =>
      if b = true then te σ2 H3 fun y H4 => ∃ acc, H4 D = some (.lst acc) ∧ acc.length < sizeLine ∧ Pv (i + 1) (upd H4 D (.lst (acc ++ [y]))) else Pv (i + 1) H3) (hd : ∀ H, Pv xs.length H → Qd H) :
    (∃ W : Nat → Nat → Hp → Prop, (∃ m, W 0 m (upd H D (.lst []))) ∧ ∀ i m H, W i m H →
      ((Ite K a).stop i H ∧ Qd H) ∨ ((Ite K a).go i H ∧ ∃ Nx : Hp → Prop, (∀ H', Nx H' → ∃ m', m' < m ∧ W (i + 1) m' H') ∧ ∀ x H', (Ite K a).yld i H x H' → g x (wipe σ vs) H' fun σ2 H2 => wipe σ2 vs = wipe σ vs ∧ tt σ2 H2 fun b H3 =>
        if b = true then te σ2 H3 fun y H4 => ∃ acc, H4 D = some (.lst acc) ∧ acc.length < sizeLine ∧ Nx (upd H4 D (.lst (acc ++ [y]))) else Nx H3)) ∨
    (∃ W : Nat → Nat → Hp → Prop, (∃ m, W 0 m (upd H D (.lst []))) ∧ ∀ i m H, W i m H →
      ((IteT K a).stop i H ∧ Qd H) ∨ ((IteT K a).go i H ∧ ∃ Nx : Hp → Prop, (∀ H', Nx H' → ∃ m', m' < m ∧ W (i + 1) m' H') ∧ ∀ x H', (IteT K a).yld i H x H' → g x (wipe σ vs) H' fun σ2 H2 => wipe σ2 vs = wipe σ vs ∧ tt σ2 H2 fun b H3 =>
        if b = true then te σ2 H3 fun y H4 => ∃ acc, H4 D = some (.lst acc) ∧ acc.length < sizeLine ∧ Nx (upd H4 D (.lst (acc ++ [y]))) else Nx H3)) := by
  rcases sq with sq | sq
  · refine .inl (lc_it (walk_enum (xs := xs)) Pv h0 (fun i H' hi p => SqL.ext sq (hG i H' hi p)) (fun i x H' H'' hi p y => ?_) hd)
    obtain ⟨T, y1, y2, rfl, hT, rfl, e1, e2⟩ := y
    cases e1
    exact hs i y2 H' T hi p e2 hT
  · refine .inr (lc_it (walk_enumT (xs := xs)) Pv h0 (fun i H' hi p => SqT.ext sq (hG i H' hi p)) (fun i x H' H'' hi p y => ?_) hd)
    obtain ⟨T, y1, y2, rfl, hT, rfl, e1, e2⟩ := y
    cases e1
    exact hs i y2 H' T hi p e2 hT
end L2

namespace My
open PySem PySem.Spec PyProof.Rows L2
theorem iteT' {c : Bool} {p q : Prop} (e : c = true) (h : p) : if c = true then p else q := by rw [if_pos e]; exact h
theorem iteF' {c : Bool} {p q : Prop} (e : c = false) (h : q) : if c = true then p else q := by rw [if_neg (by rw [e]; exact Bool.false_ne_true)]; exact h
theorem onceR_sub {rs : List (List Str)} : ∀ r, r ∈ onceR rs → r ∈ rs := fun r h => once_mem h
theorem fold_has : ∀ (rs acc : List (List Str)) (r : List Str), r ∈ acc ∨ r ∈ rs → r ∈ rs.foldl (fun acc r => if r ∈ acc then acc else acc ++ [r]) acc
  | [], _, _, h => h.resolve_right fun z => by cases z
  | x :: rs, acc, r, h => by
    refine fold_has rs _ r ?_
    show r ∈ (if x ∈ acc then acc else acc ++ [x]) ∨ r ∈ rs
    rcases h with h | h
    · refine .inl ?_
      split
      · exact h
      · exact List.mem_append_left _ h
    · rcases List.mem_cons.mp h with rfl | h
      · refine .inl ?_
        split
        · assumption
        · exact List.mem_append_right _ List.mem_cons_self
      · exact .inr h
/-- adding what is told once is adding what is told -/
theorem fold_once (acc : List (List Str)) : ∀ rs : List (List Str), (onceR rs).foldl (fun acc r => if r ∈ acc then acc else acc ++ [r]) acc = rs.foldl (fun acc r => if r ∈ acc then acc else acc ++ [r]) acc := fun rs => by
  obtain ⟨n, hn⟩ : ∃ n, n = rs.length := ⟨_, rfl⟩
  induction n generalizing rs with
  | zero =>
    have e : rs = [] := List.length_eq_zero_iff.mp hn.symm
    rw [e]
    rfl
  | succ n ih =>
    have ne : rs ≠ [] := fun e => by rw [e] at hn; cases hn
    obtain ⟨ys, y, rfl⟩ : ∃ ys y, rs = ys ++ [y] := ⟨rs.dropLast, rs.getLast ne, (List.dropLast_concat_getLast ne).symm⟩
    have hy : n = ys.length := by
      rw [List.length_append, List.length_singleton] at hn
      omega
    have ihy := ih ys hy
    rw [once_snoc, List.foldl_append]
    split
    · rename_i hm
      rw [ihy]
      show _ = (if y ∈ _ then _ else _)
      rw [if_pos (fold_has ys acc y (.inr (once_mem hm)))]
    · rw [List.foldl_append, ihy]
theorem once_app (a b : List (List Str)) : onceR (a ++ onceR b) = onceR (a ++ b) := by
  unfold onceR
  rw [List.foldl_append, List.foldl_append]
  exact fold_once _ b
theorem once_left (a b : List (List Str)) : onceR (onceR a ++ b) = onceR (a ++ b) := by
  show (onceR a ++ b).foldl _ [] = (a ++ b).foldl _ []
  rw [List.foldl_append, List.foldl_append]
  have e : (onceR a).foldl (fun acc r => if r ∈ acc then acc else acc ++ [r]) [] = a.foldl (fun acc r => if r ∈ acc then acc else acc ++ [r]) [] := fold_once [] a
  rw [e]
theorem TR.once {fo th : List Str} {rs : List (List Str)} (h : TR fo th rs) : TR fo th (onceR rs) := h.sub fun _ => once_mem
theorem TR.app {fo th : List Str} {rs ss : List (List Str)} (h : TR fo th rs) (g : TR fo th ss) : TR fo th (rs ++ ss) := fun r hr => (List.mem_append.mp hr).elim (h r) (g r)
theorem once_nodup' : ∀ rs acc : List (List Str), acc.Nodup → (rs.foldl (fun acc r => if r ∈ acc then acc else acc ++ [r]) acc).Nodup
  | [], _, h => h
  | r :: rs, acc, h => by
    rw [List.foldl_cons]
    refine once_nodup' rs _ ?_
    split
    · exact h
    · rename_i n
      exact List.nodup_append.mpr ⟨h, (by simp : [r].Nodup), fun a ha b hb e => n (by rw [List.mem_singleton.mp hb] at e; rw [← e]; exact ha)⟩
theorem told_told {fo th : List Str} (nd : (fo ++ th).Nodup) {w a b : Str} (h : IsF fo th w a b) : ∃ c d, toldS (fo ++ th) w a b = [w, c, d] ∧ IsT fo th w c d := by
  obtain ⟨c, d, e, hcd⟩ := told_three nd h
  rcases hcd with ⟨rfl, rfl⟩ | ⟨rfl, rfl, rfl⟩
  · exact ⟨_, _, e, h, e⟩
  · refine ⟨_, _, e, ⟨h.1, h.2.2.1, h.2.1, Ne.symm h.2.2.2.1, .inl rfl⟩, ?_⟩
    rw [← e]
    unfold toldS
    rw [if_pos rfl, if_pos rfl]
    congr 1
    unfold ordS
    refine List.filter_congr fun n _ => ?_
    rw [Bool.or_comm]
/-- what is told of facts is told so -/
theorem told_TR {fo th : List Str} (nd : (fo ++ th).Nodup) {rs : List (List Str)} (h : FactR fo th rs) : TR fo th (rs.map (toldR (fo ++ th))) := fun r hr => by
  obtain ⟨x, hx, rfl⟩ := List.mem_map.mp hr
  obtain ⟨w, a, b, rfl, isf⟩ := h x hx
  obtain ⟨c, d, e, i⟩ := told_told nd isf
  exact ⟨w, c, d, e, i⟩
def spFAdd (K : PySem.W.Frag) (CF C CB : Addr) : Sp := fun vs H Q E => ∃ a y fo th rows, vs = [.ref a, y] ∧ FacAt H K CF C a fo th rows ∧ TR fo th rows ∧ rows.length < 500 ∧ (fo ++ th).Nodup ∧ (fo ++ th).length < sizeLine ∧ (∀ z, z ∈ fo ++ th → PyData.strOk z = true) ∧
  ((∃ i : Nat, Passed K H fo th y (some i) ∧ ∀ d H', Ext H H' → H d = none → H' d = some (.xd [(("index" : Str), V.int (i : Nat))]) → E (.ref CB) (some d) H') ∨
   ∃ p xs rs, y = .ref p ∧ SeqAt2 K H p xs ∧ Raws K H xs rs ∧ FactR fo th rs ∧ rs.length < 400 ∧ ∀ b H', Ext H H' → H b = none → FacAt H' K CF C b fo th (onceR (rows ++ rs.map (toldR (fo ++ th)))) → Q (.ref b) H')
theorem raise_at {f : Str} {CI : Addr} {i : Nat} {σ : L2.St} {H H3 : Hp} {y : V} {E : XK} (hy : σ[i]? = some (some y)) (x3 : Ext H H3) (q : ∀ d H', Ext H H' → H d = none → H' d = some (.xd [(f, y)]) → E (.ref CI) (some d) H') :
    tMkO CI (spInit CI f) [] (tCons (tVar i) tNil) σ H3 fun cls d H' => E cls d H' := by
  refine ⟨_, hy, Nat.le_of_ble_eq_true rfl, fun e he => ?_⟩
  refine ⟨e, _, rfl, upd_same, fun d hd ne => ⟨rfl, d, [(f, y)], upd_same, ?_, ?_, ?_⟩⟩
  · rw [upd_ne ne, upd_same]
  · rw [upd_ne ne] at hd
    exact hd
  · rw [upd_ne ne] at hd
    refine q d _ (fun b u k => ?_) ?_ upd_same
    · have k1 := x3 b u k
      rw [upd_ne (ne_of_none k1 hd), del_ne (ne_of_none k1 he), upd_ne (ne_of_none k1 he), upd_ne (ne_of_none k1 hd), upd_ne (ne_of_none k1 he)]
      exact k1
    · exact ext_none x3 hd
abbrev nm_Facts_add : List Str := ["self", "other", "more"]
theorem sc_Facts_add : FnScope nm_Facts_add ["self", "other"] (defScope s_Facts_add) := ⟨rfl, rfl, rfl, by decide +kernel, rfl, by decide +kernel, by decide +kernel⟩
section
variable {P : Program} {w : World} {K : PySem.W.Frag} {mg : Str → Option Value} {base : Heap} {f C CB CF CI : Addr} {fd : FuncData}
theorem ok_fAdd (Fn : FunD K "__add__" "Facts.__add__" (defArgs s_Facts_add) (defBody s_Facts_add) (defScope s_Facts_add) [] [] f fd) (F : FacTxt P w K mg CF C CB) :
    FnOk P w K mg base (L2.CX P w) 9 f fd ["self", "other"] (spFAdd K CF C CB) := by
  refine Fn.ok sc_Facts_add (fun vs H Q E h => ?_) (fun cdv A outer s H vs Q E hr h => ⟨_,
    (pss_cons (ps_set (i := 2) sc_Facts_add.nd rfl (Or.inl rfl) (pe_makeS F.M (F.I _) hr (by rfl) F.gF F.bI .nil (passAt (takes_of rfl rfl rfl rfl)) (pa_cons (pe_fld (pv 0) rfl) (pa_cons (pv 1) pa_nil))))
      (pss_one (ps_ret (pe_makeS F.M (F.I _) hr (by rfl) F.gF F.bI .nil (passAt (takes_of rfl rfl rfl rfl)) (pa_cons (pe_fld (pv 0) rfl) (pa_cons (pe_lst (StX.pa_star (pe_fld (pv 0) rfl) (StX.pa_star (pe_fld (pv 2) rfl) pa_nil))) pa_nil)))))), ?_⟩)
  · obtain ⟨a, y, fo, th, rows, rfl, _⟩ := h
    rfl
  · obtain ⟨a, y, fo, th, rows, rfl, fa, tr, rlen, nd, hz, zok, hh⟩ := h
    obtain ⟨dx, fs, hh', r, ys, h1, h2, h3, h4, h5, h6, h7, h8⟩ := id fa
    refine ⟨_, rfl, a, CF, dx, fs, _, rfl, h1, F.T.cl, F.T.nh, h2, _, rfl, ?_⟩
    intro b db hb hdb neb
    rcases hh with ⟨i, hp, qE⟩ | ⟨p, xs, rs, rfl, sq, raw, fr, len, qN⟩
    · have xn : Ext H (L2.upd (L2.upd H db (.own b)) b (.ins CF db [])) := fun c u k => by
        rw [upd_ne (ne_of_none k hb), upd_ne (ne_of_none k hdb)]
        exact k
      obtain ⟨hx, hfs, hins⟩ := h4.ins
      refine ⟨b, db, hh', y, fo, th, rfl, upd_same, ne_of_none hins hb, h4.ext xn, nd, hz, zok, .inl ⟨i, hp.ext xn, fun d H' x' hd hd' => ?_⟩⟩
      exact qE d H' (xn.trans x') (ext_none xn hd) hd'
    · refine mkF h4 nd hz zok sq raw fr (by omega) hb hdb neb fun H1 x1 fb => ?_
      have tr2 := told_TR nd fr
      obtain ⟨ms, hms⟩ : ∃ ms, ms = onceR (rs.map (toldR (fo ++ th))) := ⟨_, rfl⟩
      rw [← hms] at fb
      have trm : TR fo th ms := by rw [hms]; exact tr2.once
      have mlen : ms.length ≤ rs.length := by
        rw [hms]
        have := once_len (rs.map (toldR (fo ++ th))) []
        rw [List.length_map, List.length_nil, Nat.zero_add] at this
        exact this
      obtain ⟨dx2, fs2, hh2, r2, ys2, k1, k2, k3, k4, k5, k6, k7, k8⟩ := id fb
      have l1 : ys.length = rows.length := h6.len
      have l2 : ys2.length = ms.length := k6.len
      refine ⟨_, rfl, a, CF, dx, fs, _, rfl, x1 _ _ h1, F.T.cl, F.T.nh, h2, _, rfl, a, CF, dx, fs, _, rfl, x1 _ _ h1, F.T.cl, F.T.nr, h3, r, ys, rfl, .inl (h5.ext x1), _, rfl, b, CF, dx2, fs2, _, rfl, k1, F.T.cl, F.T.nr, k3, r2, ys2, rfl, .inl k5, by rw [List.length_append, List.append_nil, l1, l2, sizeLine_eq]; omega, fun D hD => ?_⟩
      have xD := Ext.upd (o := .lst (ys ++ (ys2 ++ []))) hD
      intro b2 db2 hb2 hdb2 neb2
      have raws2 := (Rows.app ((h6.ext x1).ext xD) (k6.ext xD)).raws
      refine mkF (h4.ext (x1.trans xD)) nd hz zok (.inl (SqL.of (xs := ys ++ ys2) (by rw [upd_same, List.append_nil]))) raws2 (tr.app trm).fact (by rw [List.length_append]; omega) hb2 hdb2 neb2 fun H3 x3 fb2 => ?_
      rw [(tr.app trm).told, hms, once_app] at fb2
      exact qN b2 H3 (x1.trans (xD.trans x3)) (ext_none (x1.trans xD) hb2) fb2
end
end My

/-! list(d.values()), list(d.items()) of a dict with tuples as keys -/
namespace L2
open PySem PySem.Spec PyProof.Rows
theorem dT_raw {P : Program} {w : World} {H : Hp} {h : Heap} {a : Addr} {kvs : List (List Key × V)} (ok : ObjOk P w H h a (.dT kvs)) :
    ∃ es ep, h.DictRaw a es ep ∧ es.size = kvs.length ∧ kvs.length ≤ sizeLine ∧ (a == sysModules) = false ∧ ∀ (i : Nat) (k : List Key) (v : V), kvs[i]? = some (k, v) → ∃ (hi : i < es.size) (b : Addr), es[i].key = .ref b ∧ H b = some (.tup (k.map kV)) ∧ RelV v es[i].val := by
  obtain ⟨hz, hs, xs, pr, o, es, ep, ho, hx, hd, he, _⟩ := ok
  have lk : kvs.length = xs.length := Paired.length pr
  have ls : es.size = xs.length := by rw [← Array.length_toList, he, List.length_map]
  refine ⟨es, ep, ⟨o, ho, hx, hd⟩, by omega, hz, hs, fun i k v hkv => ?_⟩
  obtain ⟨q, hq, e1, e2, e3⟩ := LiI.paired_get pr hkv
  have hi : i < es.size := by
    have := (List.getElem?_eq_some_iff.mp hq).1
    omega
  have e4 : es[i] = entryOfKey (tupleKind (mixKind P w)) q := by
    have e5 : es.toList[i]? = some (entryOfKey (tupleKind (mixKind P w)) q) := by rw [he, List.getElem?_map, hq]; rfl
    have e6 : es.toList[i]? = some es[i] := by rw [Array.getElem?_toList]; exact Array.getElem?_eq_getElem hi
    rw [e6] at e5
    exact Option.some.inj e5
  exact ⟨hi, q.2.1, by rw [e4]; rfl, e2, by rw [e4]; exact e3⟩
def tListVals (te : TE) : TE := fun σ H Q => te σ H fun x H1 => ∃ (d : Addr) (kvs : List (List Key × V)), x = .ref d ∧ H1 d = some (.dT kvs) ∧ ∀ p, H1 p = none → Q (.ref p) (upd H1 p (.lst (kvs.map fun q => q.2)))
def tListItemsT (te : TE) : TE := fun σ H Q => te σ H fun x H1 => ∃ (d : Addr) (kvs : List (List Key × V)), x = .ref d ∧ H1 d = some (.dT kvs) ∧ ∀ (H' : Hp) (p : Addr) (ts : List Addr), (∀ b o, H1 b = some o → H' b = some o) → H1 p = none → H' p = some (.lst (ts.map V.ref)) → ts.length = kvs.length →
  (∀ (i : Nat) (k : List Key) (v : V) (t : Addr), kvs[i]? = some (k, v) → ts[i]? = some t → ∃ b, H' t = some (.tup [.ref b, v]) ∧ H' b = some (.tup (k.map kV))) → Q (.ref p) H'
/-- tuples written one behind the other -/
def layT : Hp → List (Addr × List V) → Hp
  | H, [] => H
  | H, q :: l => layT (upd H q.1 (.tup q.2)) l
theorem layT_off {b : Addr} : ∀ (l : List (Addr × List V)) (H : Hp), (∀ q, q ∈ l → b ≠ q.1) → layT H l b = H b
  | [], _, _ => rfl
  | q :: l, H, h => by
    have e := layT_off l (upd H q.1 (.tup q.2)) fun x hx => h x (List.mem_cons_of_mem _ hx)
    unfold layT
    rw [e, upd_ne (h q List.mem_cons_self)]
theorem layT_at : ∀ (l : List (Addr × List V)) (H : Hp), (l.map (·.1)).Nodup → ∀ q, q ∈ l → layT H l q.1 = some (.tup q.2)
  | [], _, _, _, h => by cases h
  | x :: l, H, nd, q, h => by
    obtain ⟨n1, n2⟩ := List.nodup_cons.mp nd
    unfold layT
    rcases List.mem_cons.mp h with rfl | h
    · rw [layT_off l _ fun y hy e => n1 (by exact List.mem_map.mpr ⟨y, hy, e.symm⟩), upd_same]
    · exact layT_at l _ n2 q h
theorem raw_noDict {h : Heap} {d : Addr} {es : Array DictEntry} {ep : Nat} (hr : h.DictRaw d es ep) : ∀ a, Value.ref d = Value.ref a → ∃ ob, h.get? a = some ob ∧ ob.dict = none := fun a e => by
  injection e with e
  subst e
  obtain ⟨o, ho, hx, _⟩ := hr
  exact ⟨o, ho, hx.2.1⟩
section
variable {X : Cx} {e : Expr} {te : TE} {p apos cpos pos : Pos}
theorem pe_listVals (hc : X.calm = true) (he : PE X e te) (hg : Gl X "list") (hm : X.mg "list" = none) (hv : bootBuiltins "list" = some (.type "list")) (h1 : attributeBase e "values" X.env (eval e X.env) = eval e X.env := by rfl) (h2 : (apos.endLine == cpos.line) = true := by rfl)
    (h3 : starEach [.Call (.Attribute e "values" apos) [] [] cpos] X.env = (false, eval (.Call (.Attribute e "values" apos) [] [] cpos) X.env) :: starEach [] X.env := by rfl) :
    PE X (.Call (.Name "list" p) [.Call (.Attribute e "values" apos) [] [] cpos] [] pos) (tListVals te) := by
  refine ⟨fun pins s σ H Q I hq => ?_⟩
  refine wpAny_Call_Name_kw (ld_blt I hg hm hv ?_)
  refine PyProof.Rows.callWith_type1 ?_ h3 rfl
  rw [h3]
  show wpAny _ _ (PySem.spliced ((false, eval (.Call (.Attribute e "values" apos) [] [] cpos) X.env) :: backTo pos (starEach [] X.env))) _ _ s
  refine Calls.spliced_cons ?_
  refine wpAny_Call_method (T := "dict") (id := "dict.values") h1 rfl h2 PySem.F.plainAttrs_dict PySem.F.slot_dict_values PySem.F.type_dict_values (thn (he.run pins s σ H _ I hq) fun u s1 ⟨x, H1, I1, rx, d, kvs, ex, hd, q⟩ => ?_)
  subst ex
  obtain rfl : u = Value.ref d := rx
  obtain ⟨es, ep, hraw, hsz, hz, hs0, ent⟩ := dT_raw (I1.hok d _ hd)
  have I2 : Inv X pins σ H1 { s1 with heap := s1.heap.push { cls := .type "dict_values", data := .fields #[.ref d] } } := I1.kept (t' := s1.toks) fun b ob z => Heap.get?_push_of_some _ z
  refine ⟨hraw.typeIs, raw_noDict hraw, ?_⟩
  show wpAny _ _ (callWith cpos (.builtin "dict.values") [.ref d] [] []) _ X.xe s1
  refine method_meetsIn PySem.F.slot_dict_values PySem.F.entry_dict_values rfl (PySem.evalArgs_none ⟨rfl, hraw.typeIs, PySem.F.args_dict_values_1 _, _, meets_dict_values_raw d hs0, ⟨es, ep, hraw⟩, ?_⟩)
  refine Calls.spliced_nil ?_
  refine PySem.W.kdl_call (KdlSrc.rawValues (es := es) (ep := ep) (d := d)) (I1.ok.hd hc) ⟨⟨_, Heap.get?_push_size _ rfl, rfl, rfl⟩, hraw.push _⟩ (by omega) fun h' tk acc c kp hS it => ?_
  have l0 : acc.toList.length = acc.size := by simp
  refine ⟨.ref _, upd H1 _ (.lst (kvs.map fun q => q.2)), I2.laid kp (Nat.le_refl _) (show ObjOk X.prog X.w _ _ _ (.lst (kvs.map fun q => q.2)) from ⟨by rw [List.length_map]; exact hz, acc.toList, c, ?_, by rw [Array.toArray_toList]; exact hS⟩), rfl, q _ (I2.hok.fresh (Nat.le_refl _))⟩
  refine vals_of_at (by rw [List.length_map, l0, it.1, hsz]) fun j x w g1 g2 => ?_
  obtain ⟨hj, ew⟩ := it.2 j w (by rw [← Array.getElem?_toList]; exact g2)
  rw [List.getElem?_map] at g1
  cases ek : kvs[j]? with
  | none => rw [ek] at g1; cases g1
  | some kv =>
    rw [ek] at g1
    obtain ⟨_, b, _, _, rv⟩ := ent j kv.1 kv.2 ek
    have ex : kv.2 = x := Option.some.inj g1
    rw [← ex, ew]
    exact rv
theorem itemsT_laid {pins : List (Addr × Obj)} {σ : L2.St} {H : Hp} {s : Shared} {h' : Heap} {tk c : Nat} {kvs : List (List Key × V)} {es : Array DictEntry} {acc : Array Value} {as : List Addr} (I : Inv X pins σ H s) (hz : kvs.length ≤ sizeLine) (hsz : es.size = kvs.length)
    (ent : ∀ (i : Nat) (k : List Key) (v : V), kvs[i]? = some (k, v) → ∃ (hi : i < es.size) (b : Addr), es[i].key = .ref b ∧ H b = some (.tup (k.map kV)) ∧ RelV v es[i].val)
    (kp : ∀ b o, s.heap.get? b = some o → h'.get? b = some o) (hS : h'.get? s.heap.objs.size = some { cls := .type "list", dict := none, data := .seq acc c, slots := #[] }) (hl : as.length = es.size) (hG : PySem.W.DilG es s.heap.objs.size h' as) (ha : acc.toList = as.map Value.ref) :
    ∃ H' : Hp, (∀ b o, H b = some o → H' b = some o) ∧ H s.heap.objs.size = none ∧ H' s.heap.objs.size = some (.lst (as.map V.ref)) ∧
      (∀ (i : Nat) (k : List Key) (v : V) (t : Addr), kvs[i]? = some (k, v) → as[i]? = some t → ∃ b, H' t = some (.tup [.ref b, v]) ∧ H' b = some (.tup (k.map kV))) ∧ Inv X pins σ H' { s with heap := h', toks := tk } := by
  classical
  -- what each tuple holds
  obtain ⟨f, hf⟩ : ∃ f : Nat → List V, ∀ (i : Nat) (k : List Key) (v : V), kvs[i]? = some (k, v) → ∃ (hi : i < es.size) (b : Addr), f i = [.ref b, v] ∧ es[i].key = .ref b ∧ H b = some (.tup (k.map kV)) ∧ RelV v es[i].val := by
    have each : ∀ i : Nat, ∃ b : Addr, ∀ (k : List Key) (v : V), kvs[i]? = some (k, v) → ∃ (hi : i < es.size), es[i].key = .ref b ∧ H b = some (.tup (k.map kV)) ∧ RelV v es[i].val := fun i => by
      cases ck : kvs[i]? with
      | none => exact ⟨0, fun k v z => nomatch z⟩
      | some kv =>
        obtain ⟨hi, b, g1, g2, g3⟩ := ent i kv.1 kv.2 ck
        exact ⟨b, fun k v z => by
          injection z with z
          rw [z] at g2 g3
          exact ⟨hi, g1, g2, g3⟩⟩
    obtain ⟨g, hg⟩ := Classical.axiomOfChoice each
    refine ⟨fun i => [.ref (g i), (kvs[i]?.map fun q => q.2).getD .non], fun i k v hkv => ?_⟩
    obtain ⟨hi, g1, g2, g3⟩ := hg i k v hkv
    exact ⟨hi, g i, by show [V.ref (g i), (kvs[i]?.map fun q => q.2).getD .non] = _; rw [hkv]; rfl, g1, g2, g3⟩
  obtain ⟨L, hL⟩ : ∃ L : List (Addr × List V), L = (List.range as.length).map fun i => (as.getD i 0, f i) := ⟨_, rfl⟩
  have memL : ∀ i t, as[i]? = some t → (t, f i) ∈ L := fun i t ht => by
    rw [hL]
    refine List.mem_map.mpr ⟨i, List.mem_range.mpr (List.getElem?_eq_some_iff.mp ht).1, ?_⟩
    rw [List.getD_eq_getElem?_getD, ht]
    rfl
  have fstL : L.map (·.1) = as := by
    rw [hL, List.map_map]
    refine List.ext_getElem? fun i => ?_
    rw [List.getElem?_map]
    by_cases ci : i < as.length
    · rw [List.getElem?_range ci]
      show some (as.getD i 0) = as[i]?
      rw [List.getD_eq_getElem?_getD, List.getElem?_eq_getElem ci]
      rfl
    · rw [List.getElem?_eq_none (by rw [List.length_range]; omega), List.getElem?_eq_none (by omega)]
      rfl
  have ndL : (L.map (·.1)).Nodup := by
    rw [fstL]
    exact hG.rise.imp fun hlt => Nat.ne_of_lt hlt
  have inL : ∀ q, q ∈ L → q.1 ∈ as := fun q hq => by
    rw [← fstL]
    exact List.mem_map.mpr ⟨q, hq, rfl⟩
  have hiS : ∀ t, t ∈ as → s.heap.objs.size < t := hG.above
  have newT : ∀ t, t ∈ as → H t = none := fun t ht => I.hok.fresh (Nat.le_of_lt (hiS t ht))
  have newS : H s.heap.objs.size = none := I.hok.fresh (Nat.le_refl _)
  obtain ⟨H', hH'⟩ : ∃ H', H' = layT (upd H s.heap.objs.size (.lst (as.map V.ref))) L := ⟨_, rfl⟩
  have offL : ∀ b, b ∉ as → b ≠ s.heap.objs.size → H' b = H b := fun b n1 n2 => by
    rw [hH', layT_off L _ fun q hq e => n1 (by rw [e]; exact inL q hq), upd_ne n2]
  have eS : H' s.heap.objs.size = some (.lst (as.map V.ref)) := by
    rw [hH', layT_off L _ fun q hq e => Nat.lt_irrefl _ (by have := hiS _ (inL q hq); rw [← e] at this; exact this), upd_same]
  have keep : ∀ b u, H b = some u → H' b = some u := fun b u hb => by
    rw [offL b (fun z => by rw [newT b z] at hb; cases hb) fun z => by rw [z, newS] at hb; cases hb]
    exact hb
  have low : ∀ b o, s.heap.get? b = some o → b ∉ as ∧ b ≠ s.heap.objs.size := fun b o hb => by
    exact ⟨fun z => absurd (Heap.lt_size hb) (Nat.not_lt.mpr (Nat.le_of_lt (hiS b z))), Nat.ne_of_lt (Heap.lt_size hb)⟩
  have tupT : ∀ i t, as[i]? = some t → H' t = some (.tup (f i)) := fun i t ht => by
    rw [hH']
    exact layT_at L _ ndL _ (memL i t ht)
  refine ⟨H', keep, newS, eS, fun i k v t hkv ht => ?_, ?_⟩
  · obtain ⟨_, b, g0, _, g2, _⟩ := hf i k v hkv
    exact ⟨b, by rw [tupT i t ht, g0], keep _ _ g2⟩
  · refine I.call' (ch := []) rfl ⟨fun b o z _ _ _ => kp b o z, fun b o z _ _ _ => ⟨o.slots, kp b o z⟩, fun b o z n _ => ?_, fun b o z _ => ⟨o, kp b o z⟩, fun b xs z => keep b _ z, fun b o u z => keep b _ z, fun b ps z => ⟨#[], by rw [keep b _ z]; simp⟩⟩ (fun b u z => ?_) I.bare fun b z => by simp at z
    · obtain ⟨z1, z2⟩ := low b o z
      rw [offL b z1 z2]
      exact n
    · by_cases hb : b ∈ as
      · obtain ⟨j, hj⟩ := List.mem_iff_getElem?.mp hb
        rw [tupT j b hj] at z
        cases z
        obtain ⟨hje, eo⟩ := hG.pairs j b hj
        obtain ⟨kv, hkv⟩ : ∃ kv, kvs[j]? = some kv := ⟨_, List.getElem?_eq_getElem (by omega)⟩
        obtain ⟨_, b0, g0, g1, _, g3⟩ := hf j kv.1 kv.2 hkv
        rw [g0]
        refine ⟨by show 2 ≤ sizeLine; decide, [es[j].key, es[j].val], .cons (by rw [g1]; rfl) (.cons g3 .nil), ⟨_, eo, rfl, _, rfl⟩⟩
      · by_cases hb2 : b = s.heap.objs.size
        · subst hb2
          rw [eS] at z
          cases z
          refine ⟨by rw [List.length_map]; omega, acc.toList, c, by rw [ha]; exact vals_refs as, ?_⟩
          rw [Array.toArray_toList]
          exact hS
        · rw [offL b hb hb2] at z
          exact (I.hok b u z).stay (fun d v _ y => kp d v y) (fun d y => keep d _ y) fun d xs y => keep d _ y
theorem pe_listItemsT (hc : X.calm = true) (he : PE X e te) (hg : Gl X "list") (hm : X.mg "list" = none) (hv : bootBuiltins "list" = some (.type "list")) (h1 : attributeBase e "items" X.env (eval e X.env) = eval e X.env := by rfl) (h2 : (apos.endLine == cpos.line) = true := by rfl)
    (h3 : starEach [.Call (.Attribute e "items" apos) [] [] cpos] X.env = (false, eval (.Call (.Attribute e "items" apos) [] [] cpos) X.env) :: starEach [] X.env := by rfl) :
    PE X (.Call (.Name "list" p) [.Call (.Attribute e "items" apos) [] [] cpos] [] pos) (tListItemsT te) := by
  refine ⟨fun pins s σ H Q I hq => ?_⟩
  refine wpAny_Call_Name_kw (ld_blt I hg hm hv ?_)
  refine PyProof.Rows.callWith_type1 ?_ h3 rfl
  rw [h3]
  show wpAny _ _ (PySem.spliced ((false, eval (.Call (.Attribute e "items" apos) [] [] cpos) X.env) :: backTo pos (starEach [] X.env))) _ _ s
  refine Calls.spliced_cons ?_
  refine wpAny_Call_method (T := "dict") (id := "dict.items") h1 rfl h2 PySem.F.plainAttrs_dict PySem.F.slot_dict_items PySem.F.type_dict_items (thn (he.run pins s σ H _ I hq) fun u s1 ⟨x, H1, I1, rx, d, kvs, ex, hd, q⟩ => ?_)
  subst ex
  obtain rfl : u = Value.ref d := rx
  obtain ⟨es, ep, hraw, hsz, hz, hs0, ent⟩ := dT_raw (I1.hok d _ hd)
  have I2 : Inv X pins σ H1 { s1 with heap := s1.heap.push { cls := .type "dict_items", data := .fields #[.ref d] } } := I1.kept (t' := s1.toks) fun b ob z => Heap.get?_push_of_some _ z
  refine ⟨hraw.typeIs, raw_noDict hraw, ?_⟩
  show wpAny _ _ (callWith cpos (.builtin "dict.items") [.ref d] [] []) _ X.xe s1
  refine method_meetsIn PySem.F.slot_dict_items PySem.F.entry_dict_items rfl (PySem.evalArgs_none ⟨rfl, hraw.typeIs, PySem.F.args_dict_items_1 _, _, meets_dict_items_raw d hs0, ⟨es, ep, hraw⟩, ?_⟩)
  refine Calls.spliced_nil ?_
  refine PySem.W.dil_call (es := es) (ep := ep) (d := d) (I1.ok.hd hc) ⟨_, Heap.get?_push_size _ rfl, rfl, rfl⟩ (hraw.push _) (by omega) fun h' tk acc c as kp hS hl hG hacc => ?_
  obtain ⟨H', k1, k2, k3, k4, J⟩ := itemsT_laid (tk := tk) I2 hz hsz ent kp hS hl hG hacc
  exact ⟨.ref _, H', J, rfl, q H' _ as k1 k2 k3 (by omega) k4⟩
end
end L2

/-! list(zip(a, b)) of two lists -/
namespace PySem.W
open PySem PySem.Calls PyProof.Rows PyProof.V PySem.Spec
theorem zip_no_len : typeLookup (.type "zip") "__len__" = pure none := by rw [typeLookup_type, builtinLookup_eq_fast]; kernel_rfl
theorem zip_no_hint : typeLookup (.type "zip") "__length_hint__" = pure none := by rw [typeLookup_type, builtinLookup_eq_fast]; kernel_rfl
/-- the tuples of a zip, in their order -/
structure ZlG (ps : List (Value × Value)) (lo : Addr) (h : Heap) (as : List Addr) : Prop where
  rise : as.Pairwise (· < ·)
  above : ∀ a ∈ as, lo < a
  pairs : ∀ (j : Nat) (a : Addr), as[j]? = some a → ∃ x y, ps[j]? = some (x, y) ∧ IsPair h a x y
theorem ZlG.there {ps : List (Value × Value)} {lo : Addr} {h : Heap} {as : List Addr} (g : ZlG ps lo h as) {a : Addr} (ha : a ∈ as) : a < h.objs.size := by
  obtain ⟨j, hj⟩ := List.mem_iff_getElem?.mp ha
  obtain ⟨_, _, _, e⟩ := g.pairs j a hj
  exact Heap.lt_size e
/-- where a zip of two lists stands -/
def ZlSt (h : Heap) (z TI TO i1 i2 l1 l2 S : Addr) (xs ys : Array Value) (i : Nat) : Prop := IsPair h TI (.ref i1) (.ref i2) ∧ h.IsListIter i1 l1 i ∧ h.IsListIter i2 l2 i ∧ h.IsList l1 xs ∧ h.IsList l2 ys ∧
  ((IsZip h z TI TO .none ∧ ∃ a b, IsPair h TO a b) ∨ ∃ T f oT, IsZipHeld h z TI TO T f ∧ h.get? T = some oT ∧ T ≠ z ∧ T ≠ i1 ∧ T ≠ i2 ∧ T ≠ S)
theorem ZlSt.at {h h' : Heap} {z TI TO i1 i2 l1 l2 S : Addr} {xs ys : Array Value} {i : Nat} (st : ZlSt h z TI TO i1 i2 l1 l2 S xs ys i) (hS : ∀ b ∈ [z, TI, TO, i1, i2, l1, l2], b ≠ S) (hk : ∀ b o, b ≠ S → h.get? b = some o → h'.get? b = some o) : ZlSt h' z TI TO i1 i2 l1 l2 S xs ys i := by
  obtain ⟨hTI, h1, h2, hl1, hl2, hz⟩ := st
  have n : ∀ b, b ∈ [z, TI, TO, i1, i2, l1, l2] → ∀ o, h.get? b = some o → h'.get? b = some o := fun b hb o e => hk b o (hS b hb) e
  refine ⟨n _ (by simp) _ hTI, h1.at fun o e => n _ (by simp) o e, h2.at fun o e => n _ (by simp) o e, hl1.at fun o e => n _ (by simp) o e, hl2.at fun o e => n _ (by simp) o e, ?_⟩
  rcases hz with ⟨hz, a, b, hTO⟩ | ⟨T, f, oT, hz, hT, r1, r2, r3, r4⟩
  · exact .inl ⟨n _ (by simp) _ hz, a, b, n _ (by simp) _ hTO⟩
  · exact .inr ⟨T, f, oT, n _ (by simp) _ hz, hk _ _ r4 hT, r1, r2, r3, r4⟩
section
variable {prog : Program} {w : World} {A : Around} {E : Value → Shared → Prop} {s : Shared} {z TI TO i1 i2 l1 l2 S : Addr} {xs ys : Array Value}
theorem zl_item {i : Nat} {x y : Value} {Q : Option Value → Shared → Prop} (D : ZipApart z TI TO i1 i2 l1 l2) (hS : S < s.heap.objs.size) (st : ZlSt s.heap z TI TO i1 i2 l1 l2 S xs ys i) (ex : xs[i]? = some x) (ey : ys[i]? = some y)
    (hQ : ∀ h', ZlSt h' z TI TO i1 i2 l1 l2 S xs ys (i + 1) → IsPair h' s.heap.objs.size x y → (∀ b o, b ≠ z → b ≠ TO → b ≠ i1 → b ≠ i2 → s.heap.get? b = some o → h'.get? b = some o) → Q (some (.ref s.heap.objs.size)) { s with heap := h' }) :
    wpAny (model prog w) A (pyNext (.ref z)) Q E s := by
  obtain ⟨hTI, h1, h2, hl1, hl2, hz⟩ := st
  have lt : ∀ {c o}, s.heap.get? c = some o → s.heap.objs.size ≠ c := fun e => Nat.ne_of_gt (Heap.lt_size e)
  have n1 : s.heap.objs.size ≠ i1 := let ⟨_, e, _⟩ := h1; lt e
  have n2 : s.heap.objs.size ≠ i2 := let ⟨_, e, _⟩ := h2; lt e
  rcases hz with ⟨hz, a, b, hTO⟩ | ⟨T, f, oT, hz, hT, r1, r2, r3, r4⟩
  · refine wpAny_pyNext_zip_item D hz hTI hTO h1 h2 hl1 hl2 ex ey fun h' a1 a2 a3 a4 a5 a6 hk => ?_
    exact hQ h' ⟨hk _ _ D.TIz D.TITO D.TIi1 D.TIi2 hTI, a3, a4, hl1.at fun o e => hk _ o D.l1z D.l1TO D.l1i1 D.l1i2 e, hl2.at fun o e => hk _ o D.l2z D.l2TO D.l2i1 D.l2i2 e,
      .inr ⟨s.heap.objs.size, false, _, a1, a5, lt hz, n1, n2, Nat.ne_of_gt hS⟩⟩ a5 hk
  · refine wpAny_pyNext_zip_item_held D hz hT hTI h1 h2 hl1 hl2 ex ey fun h' a1 a3 a4 a5 a6 hk => ?_
    exact hQ h' ⟨hk _ _ D.TIz D.TIi1 D.TIi2 hTI, a3, a4, hl1.at fun o e => hk _ o D.l1z D.l1i1 D.l1i2 e, hl2.at fun o e => hk _ o D.l2z D.l2i1 D.l2i2 e,
      .inr ⟨T, true, oT, a1, hk _ _ r1 r2 r3 hT, r1, r2, r3, r4⟩⟩ a5 fun b o c1 _ c3 c4 e => hk b o c1 c3 c4 e
theorem zl_done {i : Nat} {Q : Option Value → Shared → Prop} (hA : A.handled = none) (D : ZipApart z TI TO i1 i2 l1 l2) (st : ZlSt s.heap z TI TO i1 i2 l1 l2 S xs ys i) (hend : xs[i]? = none ∨ ys[i]? = none)
    (hQ : ∀ h', (∀ b o, b ≠ z → b ≠ TO → b ≠ i1 → b ≠ i2 → s.heap.get? b = some o → h'.get? b = some o) → Q none { s with heap := h' }) : wpAny (model prog w) A (pyNext (.ref z)) Q E s := by
  obtain ⟨hTI, h1, h2, hl1, hl2, hz⟩ := st
  rcases hz with ⟨hz, a, b, hTO⟩ | ⟨T, f, oT, hz, hT, r1, r2, r3, r4⟩
  · exact wpAny_pyNext_zip_end hA D hz hTI hTO h1 h2 hl1 hl2 hend hQ
  · exact wpAny_pyNext_zip_end_held hA D hz hT hTI h1 h2 hl1 hl2 hend fun h' hk => hQ h' fun b o c1 _ c3 c4 e => hk b o c1 c3 c4 e
end
section
variable {prog : Program} {w : World} {A : Around} {s : Shared} {R : Result → Shared → Prop} {z TI TO i1 i2 l1 l2 S : Addr} {xs ys : Array Value}
theorem zl_loop (hh : A.handled = none) (D : ZipApart z TI TO i1 i2 l1 l2) (low : ∀ b ∈ [z, TI, TO, i1, i2, l1, l2], b < S) (hn : min xs.size ys.size ≤ sizeLine) (res : Value) {h₁ : Heap}
    (hR : ∀ h' tk acc c as, (∀ b o, b ≠ S → b ∉ [z, TO, i1, i2] → h₁.get? b = some o → h'.get? b = some o) → h'.get? S = some { cls := .type "list", dict := none, data := .seq acc c, slots := #[] } → as.length = min xs.size ys.size → ZlG (xs.toList.zip ys.toList) S h' as →
      acc.toList = as.map Value.ref → R (.ok (.ret res)) { s with heap := h', toks := tk }) :
    ∀ (k i : Nat) (h : Heap) (tk c : Nat) (acc : Array Value) (as : List Addr), min xs.size ys.size - i = k → i ≤ min xs.size ys.size → ZlSt h z TI TO i1 i2 l1 l2 S xs ys i → (∀ b o, b ≠ S → b ∉ [z, TO, i1, i2] → h₁.get? b = some o → h.get? b = some o) →
      h.get? S = some { cls := .type "list", dict := none, data := .seq acc c, slots := #[] } → acc.toList = as.map Value.ref → as.length = i → ZlG (xs.toList.zip ys.toList) S h as →
      codeAny (model prog w) A (.builtin "list.extend.loop" ⟨[.ref S, .ref z, res], []⟩) R { s with heap := h, toks := tk } := by
  have ne : ∀ b ∈ [z, TI, TO, i1, i2, l1, l2], b ≠ S := fun b hb => Nat.ne_of_lt (low b hb)
  have off : ∀ b, S ≤ b → b ≠ z ∧ b ≠ TO ∧ b ≠ i1 ∧ b ≠ i2 := fun b hb => ⟨fun e => absurd (low z (by simp)) (Nat.not_lt.mpr (e ▸ hb)), fun e => absurd (low TO (by simp)) (Nat.not_lt.mpr (e ▸ hb)), fun e => absurd (low i1 (by simp)) (Nat.not_lt.mpr (e ▸ hb)), fun e => absurd (low i2 (by simp)) (Nat.not_lt.mpr (e ▸ hb))⟩
  have outm : ∀ b, b ∉ [z, TO, i1, i2] → b ≠ z ∧ b ≠ TO ∧ b ≠ i1 ∧ b ≠ i2 := fun b hb => by
    simp only [List.mem_cons, List.not_mem_nil, or_false, not_or] at hb
    exact hb
  intro k
  induction k with
  | zero =>
    intro i h tk c acc as hk hi hst hkeep hS hacc hal hG
    have hin : i = min xs.size ys.size := by omega
    have hend : xs[i]? = none ∨ ys[i]? = none := by
      rcases Nat.le_total xs.size ys.size with c | c
      · exact .inl (Array.getElem?_eq_none (by omega))
      · exact .inr (Array.getElem?_eq_none (by omega))
    refine codeAny_builtin PySem.F.entry_extend_loop ?_
    rw [Around.under_plainId PySem.F.plain_extend_loop _]
    show wpAny _ A.in1 (pyNext (.ref z) >>= _) _ _ _
    refine wpAny_bind (zl_done (s := { s with heap := h, toks := tk }) (A := A.in1) (S := S) hh D hst hend fun h' he => ?_)
    have oS := off S (Nat.le_refl _)
    refine wpAny_pure (hR h' tk acc c as (fun b o g1 g2 e => he b o (outm b g2).1 (outm b g2).2.1 (outm b g2).2.2.1 (outm b g2).2.2.2 (hkeep b o g1 g2 e)) (he S _ oS.1 oS.2.1 oS.2.2.1 oS.2.2.2 hS) (by omega) ⟨hG.rise, hG.above, fun j a hj => ?_⟩ hacc)
    obtain ⟨x, y, e1, e3⟩ := hG.pairs j a hj
    have oa := off a (Nat.le_of_lt (hG.above a (List.mem_of_getElem? hj)))
    exact ⟨x, y, e1, he a _ oa.1 oa.2.1 oa.2.2.1 oa.2.2.2 e3⟩
  | succ k ih =>
    intro i h tk c acc as hk hi hst hkeep hS hacc hal hG
    have hlt : i < min xs.size ys.size := by omega
    have hix : i < xs.size := by omega
    have hiy : i < ys.size := by omega
    have hsz : acc.size = i := by rw [← Array.length_toList, hacc, List.length_map, hal]
    have hSl : S < h.objs.size := Heap.lt_size hS
    refine codeAny_builtin PySem.F.entry_extend_loop ?_
    rw [Around.under_plainId PySem.F.plain_extend_loop _]
    show wpAny _ A.in1 (pyNext (.ref z) >>= _) _ _ _
    refine wpAny_bind (zl_item (s := { s with heap := h, toks := tk }) (S := S) D hSl hst (Array.getElem?_eq_getElem hix) (Array.getElem?_eq_getElem hiy) fun h' hst' ht hkp => ?_)
    dsimp only at ht hkp ⊢
    have oS := off S (Nat.le_refl _)
    have hS' := hkp S _ oS.1 oS.2.1 oS.2.2.1 oS.2.2.2 hS
    have up : ∀ b o, b ≠ S → h'.get? b = some o → (h'.update S (Obj.mapSeq (·.push (Value.ref h.objs.size)))).get? b = some o := fun b o hb e => (Heap.get?_update_other _ _ (Ne.symm hb)).trans e
    show wpAny _ A.in1 (updateSeq S (·.push (Value.ref h.objs.size)) >>= _) _ _ _
    refine wpAny_bind ?_
    refine wpAny_updateSeq hS' rfl (wpAny_pure ⟨plainId_quiet PySem.F.plain_extend_loop _, ih (i + 1) _ tk _ (acc.push (Value.ref h.objs.size)) (as ++ [h.objs.size]) (by omega) hlt (hst'.at ne up)
      (fun b o g1 g2 e => up b o g1 (hkp b o (outm b g2).1 (outm b g2).2.1 (outm b g2).2.2.1 (outm b g2).2.2.2 (hkeep b o g1 g2 e))) (Heap.get?_update_self _ hS' rfl) (by rw [Array.toList_push, hacc, List.map_append]; rfl) (by rw [List.length_append, hal]; rfl) ⟨?_, ?_, ?_⟩⟩) (by rw [hsz]; omega) (by show (acc.push (Value.ref h.objs.size)).size ≤ sizeLine + 1; rw [Array.size_push, hsz]; omega)
    · refine List.pairwise_append.mpr ⟨hG.rise, List.pairwise_singleton _ _, fun a ha b hb => ?_⟩
      rw [List.mem_singleton.mp hb]
      exact hG.there ha
    · intro a ha
      rcases List.mem_append.mp ha with ha | ha
      · exact hG.above a ha
      · rw [List.mem_singleton.mp ha]; exact hSl
    · intro j b hj
      rcases Nat.lt_trichotomy j as.length with h1 | h1 | h1
      · rw [List.getElem?_append_left h1] at hj
        obtain ⟨x, y, hj', e3⟩ := hG.pairs j b hj
        have hb := hG.above b (List.mem_of_getElem? hj)
        have ob := off b (Nat.le_of_lt hb)
        exact ⟨x, y, hj', up b _ (Nat.ne_of_gt hb) (hkp b _ ob.1 ob.2.1 ob.2.2.1 ob.2.2.2 e3)⟩
      · subst h1
        have hb : h.objs.size = b := by simpa using hj
        subst hb
        refine ⟨_, _, ?_, up _ _ (Nat.ne_of_gt hSl) ht⟩
        subst hal
        rw [List.getElem?_zip_eq_some]
        exact ⟨by rw [Array.getElem?_toList, Array.getElem?_eq_getElem hix], by rw [Array.getElem?_toList, Array.getElem?_eq_getElem hiy]⟩
      · have hnone : (as ++ [h.objs.size])[j]? = none := List.getElem?_eq_none (by rw [List.length_append, List.length_singleton]; omega)
        rw [hnone] at hj; cases hj
theorem zl_extend (hh : A.handled = none) (D : ZipApart z TI TO i1 i2 l1 l2) (low : ∀ b ∈ [z, TI, TO, i1, i2, l1, l2], b < S) (hn : min xs.size ys.size ≤ sizeLine) (st : ZlSt s.heap z TI TO i1 i2 l1 l2 S xs ys 0) (ty : s.TypeIs (.ref z) "zip") (self : ∀ (s' : Shared) (A' : Around) (Q : Value → Shared → Prop) (E' : Value → Shared → Prop), ZlSt s'.heap z TI TO i1 i2 l1 l2 S xs ys 0 → Q (.ref z) s' → wpAny (model prog w) A' (pyIter (.ref z)) Q E' s') (res : Value) (c₀ : Nat)
    (hS : s.heap.get? S = some { cls := .type "list", data := .seq #[] c₀ })
    (hR : ∀ h' tk acc c as, (∀ b o, b ≠ S → b ∉ [z, TO, i1, i2] → s.heap.get? b = some o → h'.get? b = some o) → h'.get? S = some { cls := .type "list", dict := none, data := .seq acc c, slots := #[] } → as.length = min xs.size ys.size → ZlG (xs.toList.zip ys.toList) S h' as →
      acc.toList = as.map Value.ref → R (.ok (.ret res)) { s with heap := h', toks := tk }) :
    wpAny (model prog w) A.in1 (Builtin.List.listExtendWith (.ref S) (.ref z) res)
      (fun fin s' => match fin with | .done f => R (.ok f) s' | .again c' => c'.quiet = true ∧ codeAny (model prog w) A c' R s') (fun e s' => R (.error e) s') s := by
  have hSz : S ≠ z := Nat.ne_of_gt (low z (by simp))
  have ne : ∀ b ∈ [z, TI, TO, i1, i2, l1, l2], b ≠ S := fun b hb => Nat.ne_of_lt (low b hb)
  unfold Builtin.List.listExtendWith
  refine wpAny_bind (wpAny_typeOf ty ?_)
  have h1 : Builtin.List.listSameRef (.ref S) (.ref z) = false := by simp [Builtin.List.listSameRef, hSz]
  have h2 : (Value.type "zip" == Value.type "list") = false := by decide
  have h3 : (Value.type "zip" == Value.type "tuple") = false := by decide
  simp only [h1, h2, h3, Bool.or_false, Bool.false_eq_true, if_false]
  refine wpAny_bind (self _ _ _ _ st ?_)
  refine wpAny_bind (wpAny_holding ?_)
  unfold Builtin.List.listLengthHint
  refine wpAny_bind (wpAny_specialOf ty zip_no_len ?_)
  show wpAny _ A.in1 (specialOf (Value.ref z) (Str.ofString "__length_hint__") >>= _) _ _ _
  refine wpAny_bind (wpAny_specialOf ty zip_no_hint ?_)
  refine wpAny_pure ?_
  show wpAny _ A.in1 (rule "list.extend.makes-room" >>= fun _ => Builtin.List.listTouch (.ref S) >>= fun _ =>
    again (.builtin "list.extend.loop" ⟨[.ref S, .ref z, res], []⟩)) _ _ _
  refine wpAny_bind (wpAny_rule ?_)
  refine wpAny_bind ?_
  show wpAny _ A.in1 (updateSeq S (·.push .none) >>= fun _ => updateSeq S (·.pop)) _ _ _
  refine wpAny_bind (wpAny_updateSeq hS rfl ?_)
  have hS₂ := Heap.get?_update_self (Obj.mapSeq (·.push Value.none)) hS rfl
  refine wpAny_updateSeq (hz := by seq_fits) hS₂ rfl ?_
  have hS₃ := Heap.get?_update_self (Obj.mapSeq (·.pop)) hS₂ rfl
  have oth : ∀ b o, b ≠ S → s.heap.get? b = some o → ((s.heap.update S (Obj.mapSeq (·.push Value.none))).update S (Obj.mapSeq (·.pop))).get? b = some o :=
    fun b o hb e => (Heap.get?_update_other _ _ (Ne.symm hb)).trans ((Heap.get?_update_other _ _ (Ne.symm hb)).trans e)
  refine wpAny_pure ⟨plainId_quiet PySem.F.plain_extend_loop _, zl_loop (h₁ := s.heap) hh D low hn res hR _ 0 _ s.toks _ _ [] rfl (Nat.zero_le _) (st.at ne oth) (fun b o hb _ e => oth b o hb e) hS₃ rfl rfl ⟨List.Pairwise.nil, (fun _ ha => nomatch ha), fun j a hj => by simp at hj⟩⟩
theorem zl_self {i : Nat} {Q : Value → Shared → Prop} {E : Value → Shared → Prop} (st : ZlSt s.heap z TI TO i1 i2 l1 l2 S xs ys i) (h : Q (.ref z) s) : wpAny (model prog w) A (pyIter (.ref z)) Q E s := by
  obtain ⟨_, _, _, _, _, ⟨hz, _⟩ | ⟨T, f, oT, hz, _⟩⟩ := st
  · exact wpAny_pyIter_zip hz h
  · have hT : s.TypeIs (.ref z) "zip" := ⟨_, hz, rfl⟩
    refine wpAny_pyIter_slot hT F.slot_zip_iter (wpAny_call_entry F.slot_zip_iter hT F.entry_zip_iter ?_ (F.args_zip_iter_1 _))
    show wpAny _ _ (ret (.ref z)) _ _ s
    exact wpAny_pure ⟨_, rfl, "zip", _, hT, F.slot_zip_next.lookup, h⟩
theorem zl_type {i : Nat} (st : ZlSt s.heap z TI TO i1 i2 l1 l2 S xs ys i) : s.TypeIs (.ref z) "zip" := by
  obtain ⟨_, _, _, _, _, ⟨hz, _⟩ | ⟨T, f, oT, hz, _⟩⟩ := st <;> exact ⟨_, hz, rfl⟩
end
section
variable {prog : Program} {w : World} {A : Around} {E : Value → Shared → Prop} {s : Shared} {z TI TO i1 i2 l1 l2 : Addr} {xs ys : Array Value}
/-- list(z), z a new zip of two lists -/
theorem zl_call {Q : Value → Shared → Prop} (hh : A.handled = none) (D : ZipApart z TI TO i1 i2 l1 l2) (low : ∀ b ∈ [z, TI, TO, i1, i2, l1, l2], b < s.heap.objs.size) (hn : min xs.size ys.size ≤ sizeLine)
    (hz : IsZip s.heap z TI TO .none) (hTI : IsPair s.heap TI (.ref i1) (.ref i2)) (hTO : ∃ a b, IsPair s.heap TO a b) (h1 : s.heap.IsListIter i1 l1 0) (h2 : s.heap.IsListIter i2 l2 0) (hl1 : s.heap.IsList l1 xs) (hl2 : s.heap.IsList l2 ys)
    (hQ : ∀ h' tk acc c as, (∀ b o, b ∉ [z, TO, i1, i2] → s.heap.get? b = some o → h'.get? b = some o) → h'.get? s.heap.objs.size = some { cls := .type "list", dict := none, data := .seq acc c, slots := #[] } → as.length = min xs.size ys.size → ZlG (xs.toList.zip ys.toList) s.heap.objs.size h' as →
      acc.toList = as.map Value.ref → Q (.ref s.heap.objs.size) { s with heap := h', toks := tk }) :
    wpAny (model prog w) A (call (.type "list") [.ref z]) Q E s := by
  refine callType_codes (Q₁ := fun obj s₁ => obj = .ref s.heap.objs.size ∧ s₁ = { s with heap := s.heap.push { cls := .type "list", data := .seq #[] } }) PySem.F.called_list (PySem.F.typeCall_list_1 _) PySem.F.entry_list_init
    (code_list_new _ ⟨rfl, rfl⟩) fun obj s₁ h₁ => ?_
  obtain ⟨rfl, rfl⟩ := h₁
  have hS : (s.heap.push { cls := .type "list", data := .seq #[] }).get? s.heap.objs.size = some { cls := .type "list", data := .seq #[] } := Heap.get?_push_size _ rfl
  have up : ∀ b o, s.heap.get? b = some o → (s.heap.push { cls := .type "list", data := .seq #[] }).get? b = some o := fun b o e => Heap.get?_push_of_some _ e
  obtain ⟨a0, b0, hTO⟩ := hTO
  have st : ZlSt (s.heap.push { cls := .type "list", data := .seq #[] }) z TI TO i1 i2 l1 l2 s.heap.objs.size xs ys 0 := ⟨up _ _ hTI, h1.at fun o e => up _ o e, h2.at fun o e => up _ o e, hl1.at fun o e => up _ o e, hl2.at fun o e => up _ o e, .inl ⟨up _ _ hz, a0, b0, up _ _ hTO⟩⟩
  refine ⟨⟨_, hS, rfl⟩, PySem.F.args_list_init_2 _ _, ?_⟩
  show wpAny _ _ (do let old ← Builtin.List.listItems (.ref s.heap.objs.size); Builtin.List.listUpdate (.ref s.heap.objs.size) (fun _ => #[]); letGo old.toList.reverse; Builtin.List.listExtendWith (.ref s.heap.objs.size) (.ref z) .none) _ _ _
  refine wpAny_bind ?_
  unfold Builtin.List.listItems
  refine wpAny_bind (wpAny_seqItems hS rfl (wpAny_pure ?_))
  show wpAny _ _ (updateSeq s.heap.objs.size (fun _ => #[]) >>= fun _ => letGo (#[] : Array Value).toList.reverse >>= fun _ => Builtin.List.listExtendWith (.ref s.heap.objs.size) (.ref z) .none) _ _ _
  refine wpAny_bind (wpAny_updateSeq hS rfl ?_)
  have hS₂ := Heap.get?_update_self (Obj.mapSeq (fun _ => (#[] : Array Value))) hS rfl
  have oth : ∀ b o, b ≠ s.heap.objs.size → (s.heap.push { cls := .type "list", data := .seq #[] }).get? b = some o → ((s.heap.push { cls := .type "list", data := .seq #[] }).update s.heap.objs.size (Obj.mapSeq (fun _ => (#[] : Array Value)))).get? b = some o :=
    fun b o hb e => (Heap.get?_update_other _ _ (Ne.symm hb)).trans e
  refine wpAny_bind (wpAny_letGo ?_)
  have st2 := st.at (fun b hb => Nat.ne_of_lt (low b hb)) oth
  refine zl_extend (A := A.in1) (s := { s with heap := (s.heap.push { cls := .type "list", data := .seq #[] }).update s.heap.objs.size (Obj.mapSeq (fun _ => (#[] : Array Value))) }) hh D low hn st2 (zl_type (s := { s with heap := _ }) st2) (fun s' A' Q' E' st' h' => zl_self st' h') .none _ hS₂ fun h' tk acc c as hk hS' hl hG hacc => ?_
  exact ⟨rfl, hQ h' tk acc c as (fun b o hb e => hk b o (Nat.ne_of_lt (Heap.lt_size e)) hb (oth b o (Nat.ne_of_lt (Heap.lt_size e)) (up b o e))) hS' hl hG hacc⟩
end
end PySem.W

namespace L2
open PySem PySem.Spec PyProof.Rows
def tListZip (K : PySem.W.Frag) (ta : TA) : TE := fun σ H Q => ta σ H fun vs H1 => ∃ (a b : Addr) (xs ys : List V), vs = [.ref a, .ref b] ∧ SqL K H1 a xs ∧ SqL K H1 b ys ∧ ∀ (H' : Hp) (p : Addr) (ts : List Addr), (∀ c o, H1 c = some o → H' c = some o) → H1 p = none → H' p = some (.lst (ts.map V.ref)) → ts.length = min xs.length ys.length →
  (∀ (i : Nat) (x y : V) (t : Addr), xs[i]? = some x → ys[i]? = some y → ts[i]? = some t → H' t = some (.tup [x, y])) → Q (.ref p) H'
section
variable {X : Cx} {e e2 : Expr} {ta : TA} {p zp zpos pos : Pos}
theorem zl_laid {pins : List (Addr × Obj)} {σ : L2.St} {H : Hp} {s : Shared} {h' : Heap} {tk c S : Nat} {xs ys : List V} {us ws : List Value} {acc : Array Value} {as : List Addr} (I : Inv X pins σ H s) (hle : s.heap.objs.size ≤ S) (hz : min xs.length ys.length ≤ sizeLine) (rx : Vals xs us) (ry : Vals ys ws)
    (kp : ∀ b o, s.heap.get? b = some o → h'.get? b = some o) (hS : h'.get? S = some { cls := .type "list", dict := none, data := .seq acc c, slots := #[] }) (hl : as.length = min us.length ws.length) (hG : PySem.W.ZlG (us.zip ws) S h' as) (ha : acc.toList = as.map Value.ref) :
    ∃ H' : Hp, (∀ b o, H b = some o → H' b = some o) ∧ H S = none ∧ H' S = some (.lst (as.map V.ref)) ∧
      (∀ (i : Nat) (x y : V) (t : Addr), xs[i]? = some x → ys[i]? = some y → as[i]? = some t → H' t = some (.tup [x, y])) ∧ Inv X pins σ H' { s with heap := h', toks := tk } := by
  classical
  have l1 := rx.length
  have l2 := ry.length
  obtain ⟨f, hf⟩ : ∃ f : Nat → List V, ∀ (i : Nat) (x y : V), xs[i]? = some x → ys[i]? = some y → f i = [x, y] := ⟨fun i => [(xs[i]?).getD .non, (ys[i]?).getD .non], fun i x y h1 h2 => by simp only [h1, h2, Option.getD_some]⟩
  obtain ⟨L, hL⟩ : ∃ L : List (Addr × List V), L = (List.range as.length).map fun i => (as.getD i 0, f i) := ⟨_, rfl⟩
  have memL : ∀ i t, as[i]? = some t → (t, f i) ∈ L := fun i t ht => by
    rw [hL]
    refine List.mem_map.mpr ⟨i, List.mem_range.mpr (List.getElem?_eq_some_iff.mp ht).1, ?_⟩
    rw [List.getD_eq_getElem?_getD, ht]
    rfl
  have fstL : L.map (·.1) = as := by
    rw [hL, List.map_map]
    refine List.ext_getElem? fun i => ?_
    rw [List.getElem?_map]
    by_cases ci : i < as.length
    · rw [List.getElem?_range ci]
      show some (as.getD i 0) = as[i]?
      rw [List.getD_eq_getElem?_getD, List.getElem?_eq_getElem ci]
      rfl
    · rw [List.getElem?_eq_none (by rw [List.length_range]; omega), List.getElem?_eq_none (by omega)]
      rfl
  have ndL : (L.map (·.1)).Nodup := by
    rw [fstL]
    exact hG.rise.imp fun hlt => Nat.ne_of_lt hlt
  have inL : ∀ q, q ∈ L → q.1 ∈ as := fun q hq => by
    rw [← fstL]
    exact List.mem_map.mpr ⟨q, hq, rfl⟩
  have hiS : ∀ t, t ∈ as → S < t := hG.above
  have newT : ∀ t, t ∈ as → H t = none := fun t ht => I.hok.fresh (Nat.le_trans hle (Nat.le_of_lt (hiS t ht)))
  have newS : H S = none := I.hok.fresh hle
  obtain ⟨H', hH'⟩ : ∃ H', H' = layT (upd H S (.lst (as.map V.ref))) L := ⟨_, rfl⟩
  have offL : ∀ b, b ∉ as → b ≠ S → H' b = H b := fun b n1 n2 => by
    rw [hH', layT_off L _ fun q hq e => n1 (by rw [e]; exact inL q hq), upd_ne n2]
  have eS : H' S = some (.lst (as.map V.ref)) := by
    rw [hH', layT_off L _ fun q hq e => Nat.lt_irrefl _ (by have := hiS _ (inL q hq); rw [← e] at this; exact this), upd_same]
  have keep : ∀ b u, H b = some u → H' b = some u := fun b u hb => by
    rw [offL b (fun z => by rw [newT b z] at hb; cases hb) fun z => by rw [z, newS] at hb; cases hb]
    exact hb
  have low : ∀ b o, s.heap.get? b = some o → b ∉ as ∧ b ≠ S := fun b o hb => by
    exact ⟨fun z => absurd (Heap.lt_size hb) (Nat.not_lt.mpr (Nat.le_trans hle (Nat.le_of_lt (hiS b z)))), fun z => absurd (Heap.lt_size hb) (Nat.not_lt.mpr (z ▸ hle))⟩
  have tupT : ∀ i t, as[i]? = some t → H' t = some (.tup (f i)) := fun i t ht => by
    rw [hH']
    exact layT_at L _ ndL _ (memL i t ht)
  refine ⟨H', keep, newS, eS, fun i x y t h1 h2 ht => by rw [tupT i t ht, hf i x y h1 h2], ?_⟩
  refine I.call' (ch := []) rfl ⟨fun b o z _ _ _ => kp b o z, fun b o z _ _ _ => ⟨o.slots, kp b o z⟩, fun b o z n _ => ?_, fun b o z _ => ⟨o, kp b o z⟩, fun b xs z => keep b _ z, fun b o u z => keep b _ z, fun b ps z => ⟨#[], by rw [keep b _ z]; simp⟩⟩ (fun b u z => ?_) I.bare fun b z => by simp at z
  · obtain ⟨z1, z2⟩ := low b o z
    rw [offL b z1 z2]
    exact n
  · by_cases hb : b ∈ as
    · obtain ⟨j, hj⟩ := List.mem_iff_getElem?.mp hb
      rw [tupT j b hj] at z
      cases z
      obtain ⟨u, v, ej, eo⟩ := hG.pairs j b hj
      rw [List.getElem?_zip_eq_some] at ej
      obtain ⟨e1, e2⟩ := ej
      have j1 := (List.getElem?_eq_some_iff.mp e1).1
      have j2 := (List.getElem?_eq_some_iff.mp e2).1
      obtain ⟨x, hx⟩ : ∃ x, xs[j]? = some x := ⟨_, List.getElem?_eq_getElem (by omega)⟩
      obtain ⟨y, hy⟩ : ∃ y, ys[j]? = some y := ⟨_, List.getElem?_eq_getElem (by omega)⟩
      obtain ⟨u', hu', ru⟩ := rx.get hx
      obtain ⟨v', hv', rv⟩ := ry.get hy
      rw [e1] at hu'
      rw [e2] at hv'
      injection hu' with hu'
      injection hv' with hv'
      subst hu' hv'
      rw [hf j x y hx hy]
      exact ⟨by show 2 ≤ sizeLine; decide, [u, v], .cons ru (.cons rv .nil), ⟨_, eo, rfl, _, rfl⟩⟩
    · by_cases hb2 : b = S
      · subst hb2
        rw [eS] at z
        cases z
        refine ⟨by rw [List.length_map, hl]; omega, acc.toList, c, by rw [ha]; exact vals_refs as, ?_⟩
        rw [Array.toArray_toList]
        exact hS
      · rw [offL b hb hb2] at z
        exact (I.hok b u z).stay (fun d v _ y => kp d v y) (fun d y => keep d _ y) fun d xs y => keep d _ y
theorem pe_listZip (hc : X.calm = true) (ha : PA X [e, e2] ta) (hg : Gl X "list") (hm : X.mg "list" = none) (hgz : Gl X "zip") (hmz : X.mg "zip" = none) (hv : bootBuiltins "list" = some (.type "list"))
    (hs : starEach [e, e2] X.env = (false, eval e X.env) :: starEach [e2] X.env := by rfl) (hpl : (backTo zpos (starEach [e2] X.env)).any (·.1) = false := by rfl)
    (h3 : starEach [.Call (.Name "zip" zp) [e, e2] [] zpos] X.env = (false, eval (.Call (.Name "zip" zp) [e, e2] [] zpos) X.env) :: starEach [] X.env := by rfl) :
    PE X (.Call (.Name "list" p) [.Call (.Name "zip" zp) [e, e2] [] zpos] [] pos) (tListZip X.K ta) := by
  refine ⟨fun pins s σ H Q I hq => ?_⟩
  refine wpAny_Call_Name_kw (ld_blt I hg hm hv ?_)
  refine PyProof.Rows.callWith_type1 ?_ h3 rfl
  rw [h3]
  show wpAny _ _ (PySem.spliced ((false, eval (.Call (.Name "zip" zp) [e, e2] [] zpos) X.env) :: backTo pos (starEach [] X.env))) _ _ s
  refine Calls.spliced_cons ?_
  refine wpAny_Call_Name_kw (ld_blt I hgz hmz PyProof.Rows.boot_zip (PyProof.Rows.callWith_type1 (thn (ha.run zpos pins s σ H _ I hq) fun us s1 ⟨vs, H1, I1, r1, q1⟩ => ?_) hs hpl))
  obtain ⟨a, b, xs, ys, ex, hqx, hqy, q⟩ := q1
  subst ex
  cases r1 with
  | cons r rr =>
    cases rr with
    | cons r' rr =>
      cases rr
      cases r
      cases r'
      obtain ⟨its, rv, p1, z1⟩ := I1.list hqx
      obtain ⟨its2, rv2, p2, z2⟩ := I1.list hqy
      have n1 := rv.length
      have n2 := rv2.length
      refine call_zip_2 p1.isList p2.isList fun h' hz hTI hTO h1 h2 hsz hk => ?_
      refine Calls.spliced_nil ?_
      have D := PySem.W.ktu_apart s1.heap.objs.size a b p1.lt p2.lt
      have big : ∀ c, c ∈ [s1.heap.objs.size + 4, s1.heap.objs.size + 3, s1.heap.objs.size, s1.heap.objs.size + 1] → ∀ o, s1.heap.get? c ≠ some o := fun c hc' o ho => by
        have lt := Heap.lt_size ho
        simp only [List.mem_cons, List.not_mem_nil, or_false] at hc'
        have ge : s1.heap.objs.size ≤ c := by
          rcases hc' with e | e | e | e
          · rw [e]; exact Nat.le_add_right _ _
          · rw [e]; exact Nat.le_add_right _ _
          · rw [e]; exact Nat.le_refl _
          · rw [e]; exact Nat.le_add_right _ _
        exact absurd lt (Nat.not_lt.mpr ge)
      refine PySem.W.zl_call (xs := its.toArray) (ys := its2.toArray) (I1.ok.hd hc) D (fun c hc' => ?_) ?_ hz hTI ⟨_, _, hTO⟩ h1 h2 (p1.isList.at fun o e => hk _ o e) (p2.isList.at fun o e => hk _ o e) fun h'' tk acc c as kp hS hl hG hacc => ?_
      · rw [hsz]
        have q1 := p1.lt
        have q2 := p2.lt
        simp only [List.mem_cons, List.not_mem_nil, or_false] at hc'
        rcases hc' with e | e | e | e | e | e | e
        · rw [e]; exact Nat.add_lt_add_left (by decide) _
        · rw [e]; exact Nat.add_lt_add_left (by decide) _
        · rw [e]; exact Nat.add_lt_add_left (by decide) _
        · rw [e]; exact Nat.lt_add_of_pos_right (by decide)
        · rw [e]; exact Nat.add_lt_add_left (by decide) _
        · rw [e]; exact Nat.lt_of_lt_of_le q1 (Nat.le_add_right _ _)
        · rw [e]; exact Nat.lt_of_lt_of_le q2 (Nat.le_add_right _ _)
      · show min its.toArray.size its2.toArray.size ≤ sizeLine
        rw [List.size_toArray, List.size_toArray]
        omega
      · have hl' : as.length = min its.length its2.length := by simpa using hl
        have hG' : PySem.W.ZlG (its.zip its2) h'.objs.size h'' as := by simpa using hG
        obtain ⟨H', k1, k2, k3, k4, J⟩ := zl_laid (tk := tk) I1 (S := h'.objs.size) (by rw [hsz]; exact Nat.le_add_right _ _) (by omega) rv rv2 (fun c o e => kp c o (fun hm' => big c hm' o e) (hk c o e)) hS hl' hG' hacc
        exact ⟨.ref _, H', J, rfl, q H' _ as k1 k2 k3 (by omega) k4⟩
end
end L2

namespace L2
open PySem PySem.Spec PyProof.Rows
section
variable {X : Cx}
/-- *a, b, .. -/
theorem pgs_star {e : Expr} {es : List Expr} {t : TG} {u : TGs} {sp : Pos} (h1 : PG X e t) (h2 : PGs X es u)
    (hs : (assignEach (.Starred e sp :: es) X.env).map (·.2) = assign e X.env :: (assignEach es X.env).map (·.2) := by rfl) : PGs X (.Starred e sp :: es) (gCons t u) := by
  refine ⟨fun pins s σ H vs us Q I r h => ?_⟩
  obtain ⟨v, vr, e1, h⟩ := h
  subst e1
  cases r with
  | cons r rr =>
    rw [hs]
    refine assignInOrder_cons (thn (h1.run pins s σ H _ _ _ I r h) fun _ s1 ⟨σ1, H1, I1, q1⟩ => ?_)
    exact h2.run pins s1 σ1 H1 _ _ Q I1 rr q1
/-- a, *b, c = list -/
def gStar (K : PySem.W.Frag) (n i : Nat) (t : TGs) : TG := fun v σ H Q => ∃ a xs, v = .ref a ∧ SqL K H a xs ∧ n ≤ xs.length + 1 ∧ xs.length ≤ 16384 ∧
  ∀ D, H D = none → t (xs.take i ++ [.ref D] ++ (xs.drop i).drop (xs.length + 1 - n)) σ (upd H D (.lst ((xs.drop i).take (xs.length + 1 - n)))) Q
theorem pg_starL {es : List Expr} {k : Nat} {t : TGs} {n i : Nat} {pos : Pos} (hc : X.calm = true) (h : PGs X es t)
    (hn : (assignEach es X.env).length = n := by rfl) (hst : (assignEach es X.env).findIdx? (·.1) = some i := by rfl) (hi : i < n := by decide) : PG X (.Tuple es k pos) (gStar X.K n i t) := by
  refine ⟨fun pins s σ H v u Q I r hw => ?_⟩
  obtain ⟨a, xs, e1, hq, hl, hz', hw⟩ := hw
  subst e1
  cases r
  obtain ⟨its, rv, pl, hz⟩ := I.list hq
  have hlen := rv.length
  have hl' : s.heap.IsList a its.toArray := by
    obtain ⟨o, m, e, c, d, q⟩ := pl
    exact ⟨o, e, c, m, q⟩
  rw [PyProof.Rows.assign_Tuple]
  refine wpAny_bind (wpAny_standAt ?_)
  unfold unpack
  rw [hn, hst]
  have hlt : a ≠ s.heap.objs.size := by obtain ⟨o, ho, _⟩ := hl'; exact Nat.ne_of_lt (Heap.lt_size ho)
  have hll : a < s.heap.objs.size := by obtain ⟨o, ho, _⟩ := hl'; exact Heap.lt_size ho
  have hsz : its.toArray.size = xs.length := by simp [hlen]
  have hh := I.ok.hd hc
  refine wpAny_bind (wpAny_holding ?_)
  unfold unpackItems
  refine wpAny_bind ?_
  unfold notIterableAtAll
  refine wpAny_bind (wpAny_specialOf hl'.typeIs PySem.F.slot_list_iter.lookup ?_)
  refine wpAny_pure ?_
  simp only [Bool.false_eq_true, if_false]
  refine wpAny_bind (wpAny_holding (wpAny_pyIter_list hl' ?_))
  refine wpAny_bind (wpAny_holding (PySem.W.kun_draw hlt i 0 _ _ ⟨_, Heap.get?_push_size _ rfl, rfl, rfl⟩ (hl'.push _) (by omega) fun h₁ hit₁ hs₁ => ?_))
  have hl₁ : h₁.IsList a its.toArray := (hl'.push _).extBut hs₁.extBut hlt
  rw [Nat.zero_add] at hit₁
  have hit₁' := hit₁
  obtain ⟨oi, hoi, _⟩ := hit₁'
  have hl₁' := hl₁
  obtain ⟨ol, hol, _⟩ := hl₁'
  rw [List.drop_zero]
  have hfl : (its.toArray.toList.take i).length = i := by rw [List.length_take, Array.length_toList]; omega
  rw [if_neg (show ¬ ((its.toArray.toList.take i).length < i) by rw [hfl]; omega)]
  refine wpAny_bind (wpAny_holding (PySem.W.kun_collect (s := { s with heap := h₁ }) (T := "list_iterator") (.inr (.inr (.inl rfl))) (Walks.list (A := X.A.in1) hh s.heap.objs.size a hlt its.toArray) (fun j u st => st.1.typeIs) (k := i) (by omega) ⟨hit₁, hl₁⟩ (Heap.lt_size hoi) (Heap.lt_size hol) (fun h₂ tk hk => ?_) (by rw [sizeLine_eq]; omega)))
  have hrl : (its.toArray.toList.drop i).length = its.toArray.size - i := by rw [List.length_drop, Array.length_toList]
  have hmid : (its.toArray.toList.drop i).length - (n - 1 - i) = its.toArray.size + 1 - n := by rw [hrl]; omega
  show wpAny _ _ (if (its.toArray.toList.drop i).length < n - 1 - i then _ else _) _ _ _
  rw [if_neg (by rw [hrl]; omega)]
  show wpAny _ _ (newList ((its.toArray.toList.drop i).take ((its.toArray.toList.drop i).length - (n - 1 - i))) >>= fun d => pure (its.toArray.toList.take i ++ [d] ++ (its.toArray.toList.drop i).drop ((its.toArray.toList.drop i).length - (n - 1 - i)))) _ _ _
  rw [hmid]
  have he : ∀ b o, s.heap.get? b = some o → h₂.get? b = some o := fun b o e => by
    have hb := Nat.ne_of_lt (Heap.lt_size e)
    exact hk b o hb (hs₁.extBut b o hb (Heap.get?_push_of_some _ e))
  have I2 : Inv X pins σ H { s with heap := h₂, toks := tk } := I.kept (t' := tk) he
  refine wpAny_bind (wpAny_newList ?_ (by rw [List.length_take, hrl, sizeLine_eq]; omega))
  have hf : H h₂.objs.size = none := I2.hok.fresh (Nat.le_refl _)
  have et : its.toArray.toList = its := by simp
  have rmid : Vals ((xs.drop i).take (xs.length + 1 - n)) ((its.drop i).take (xs.length + 1 - n)) := (rv.drop i).take _
  have ml : ((xs.drop i).take (xs.length + 1 - n)).length ≤ sizeLine := by rw [List.length_take, List.length_drop, sizeLine_eq]; omega
  have I3 : Inv X pins σ (upd H h₂.objs.size (.lst ((xs.drop i).take (xs.length + 1 - n)))) { s with heap := h₂.push { cls := .type "list", data := .seq ((its.toArray.toList.drop i).take (its.toArray.size + 1 - n)).toArray }, toks := tk } := by
    refine I2.laid (t' := tk) (fun b u e => Heap.get?_push_of_some _ e) (Nat.le_refl _) ?_
    rw [hsz, et]
    exact ⟨ml, _, 0, rmid, Heap.get?_push_size _ rfl⟩
  refine wpAny_pure ?_
  refine h.run pins _ σ _ _ _ Q I3 ?_ (hw _ hf)
  rw [hsz, et]
  refine Vals.append (Vals.append (rv.take i) (.cons rfl .nil)) ?_
  exact (rv.drop i).drop _
end
end L2

namespace L2
open PySem PySem.Spec PyProof.Rows
/-! ### enumerate(list, k) -/
def IteF (K : PySem.W.Frag) (a : Addr) (k₀ : Int) : It :=
  ⟨fun i H => ∃ (xs : List V) (x : V), SqL K H a xs ∧ xs[i]? = some x, fun i H v H' => ∃ T x, v = .ref T ∧ H T = none ∧ H' = upd H T (.tup [.int (k₀ + (i : Nat)), x]) ∧ ∀ xs, SqL K H a xs → xs[i]? = some x, fun i H => ∃ xs : List V, SqL K H a xs ∧ xs.length = i⟩
theorem enumL_ne {h : Heap} {e it l : Addr} {i : Int} {old : Value} {items : Array Value} (he : IsEnum h e it i old) (hl : h.IsList l items) : l ≠ e := fun z => by
  obtain ⟨o, ho, _, n, hd⟩ := hl
  rw [z, he] at ho
  cases ho
  cases hd
theorem iterL_ne {h : Heap} {it l : Addr} {i : Nat} {items : Array Value} (hi : h.IsListIter it l i) (hl : h.IsList l items) : l ≠ it := fun z => by
  obtain ⟨o, ho, _, n, hd⟩ := hl
  obtain ⟨o2, ho2, _, hd2⟩ := hi
  rw [z, ho2] at ho
  cases ho
  rw [hd2] at hd
  cases hd
theorem turn_enumF {P : Program} {w : World} {K : PySem.W.Frag} {elts : List Expr} {kk : Nat} {tpos : Pos} (k₀ : Int) (a e it : Addr) :
    Turn P w K (.Tuple elts kk tpos) (IteF K a k₀) [e, it] e (fun i h => (∃ old, IsEnum h e it (k₀ + ((i : Nat) : Int)) old) ∧ h.IsListIter it a i ∧ e ≠ it) where
  mem := List.mem_cons_self
  obj := fun i h st b hb => by
    obtain ⟨⟨old, he⟩, ⟨o, ho, hc, hd⟩, _⟩ := st
    rcases List.mem_cons.mp hb with rfl | hb
    · exact ⟨_, he, fun v q => nomatch q⟩
    · rw [List.mem_singleton.mp hb]
      exact ⟨o, ho, fun v q => by rw [hd] at q; cases q⟩
  keep := fun i h h' st k => ⟨st.1.elim fun old z => ⟨old, k e List.mem_cons_self _ z⟩, st.2.1.at fun o q => k it (List.mem_cons_of_mem _ List.mem_cons_self) o q, st.2.2⟩
  item := by
    intro X hP hw hK hc i pins s σ H E I hf st hg
    subst hP hw hK
    obtain ⟨⟨old, he⟩, hit, hne⟩ := st
    obtain ⟨xs, x, hq, hx⟩ := hg
    obtain ⟨its, rv, p, hz⟩ := I.list hq
    obtain ⟨u, hu, ru⟩ := rv.get hx
    have pt : s.heap.IsList a its.toArray := p.isList
    have hel : e < s.heap.objs.size := Heap.lt_size he
    have hlen : i < its.toArray.size := by
      rw [List.size_toArray]
      exact (List.getElem?_eq_some_iff.mp hu).1
    refine wpAny_pyNext_enum_itemC (Draws.list (A := X.A.in1) (I.ok.hd hc) it a (iterL_ne hit pt) its.toArray) he ⟨hit, pt⟩ hlen hne (by
      intro z
      rcases List.mem_cons.mp z with z | z
      · exact hne z
      · exact enumL_ne he pt (List.mem_singleton.mp z).symm) fun y h' tk hy ho hit' hT hsz hk => ?_
    have ey : y = u := by
      rw [List.getElem?_toArray, hu] at hy
      exact (Option.some.inj hy).symm
    subst ey
    refine ⟨_, rfl, wpAny_letOwnedTupleGo_enum (s := { s with heap := h', toks := tk + 1 }) ho fun h'' he' sb => ?_⟩
    have hT2 : h''.get? s.heap.objs.size = some { cls := .type "tuple", data := .seq #[.int (k₀ + i) tk, y] } := (sb.2 _ (Nat.ne_of_gt hel)).trans hT
    have new : ObjOk X.prog X.w (upd H s.heap.objs.size (.tup [.int (k₀ + (i : Nat)), x])) h'' s.heap.objs.size (.tup [.int (k₀ + (i : Nat)), x]) :=
      ⟨Nat.le_of_ble_eq_true rfl, [.int (k₀ + i) tk, y], .cons ⟨_, rfl⟩ (.cons ru .nil), ⟨_, hT2, rfl, _, rfl⟩⟩
    have I1 : Inv X pins σ (upd H s.heap.objs.size (.tup [.int (k₀ + (i : Nat)), x])) { s with heap := h'', toks := tk + 1 } :=
      I.turnedNew (ch := [e, it]) (fun b ob hb q => (sb.2 b (fun z => hb (by simp [z]))).trans (hk b ob (fun z => hb (by simp [z])) (fun z => hb (by simp [z])) q)) hf (Nat.le_refl _) new
    have hfr : H s.heap.objs.size = none := I.hok.fresh (Nat.le_refl _)
    refine ⟨.ref s.heap.objs.size, _, I1, rfl, ⟨_, x, rfl, hfr, rfl, fun ys hy => by rw [I.list_inj hy hq]; exact hx⟩, ⟨⟨y, ?_⟩, hit'.1.at fun o q => (sb.2 it (Ne.symm hne)).trans q, hne⟩, fun b hb => ?_⟩
    · have e1 : k₀ + ((i + 1 : Nat) : Int) = k₀ + (i : Int) + 1 := by omega
      rw [e1]
      exact he'
    · have bl : b < s.heap.objs.size := by
        rcases List.mem_cons.mp hb with rfl | hb
        · exact hel
        · rw [List.mem_singleton.mp hb]
          obtain ⟨_, z, _⟩ := hit
          exact Heap.lt_size z
      rw [upd_ne (Nat.ne_of_lt bl)]
      exact (hf b hb).1
  done := by
    intro X hP hw hK hc i pins s σ H E I hf st hg
    subst hP hw hK
    obtain ⟨⟨old, he⟩, hit, hne⟩ := st
    obtain ⟨xs, hq, hx⟩ := hg
    obtain ⟨its, rv, p, hz⟩ := I.list hq
    obtain ⟨f0, f1, f2, f3, f4, f5⟩ := hf it (List.mem_cons_of_mem _ List.mem_cons_self)
    have pt : s.heap.IsList a its.toArray := p.isList
    have hn : its.toArray.size = i := by
      rw [List.size_toArray, ← rv.length]
      exact hx
    exact wpAny_pyNext_enum_endD (Draws.list (A := X.A.in1) (I.ok.hd hc) it a (iterL_ne hit pt) its.toArray) he (by rw [hn]; exact ⟨hit, pt⟩) fun h' eb => ⟨rfl, I.turned (t' := s.toks) (fun b o hb q => eb b o hb q) f0 f1 f3 f4 f5⟩
  self := fun A i s Q E st h => st.1.elim fun _ he => wpAny_pyIter_enum he h
def iEnumF (K : PySem.W.Frag) (ta : TA) : TI := fun σ H R => ta σ H fun vs H1 => ∃ (a : Addr) (xs : List V) (k₀ : Int), vs = [.ref a, .int k₀] ∧ -(2 ^ 63) ≤ k₀ ∧ k₀ < 2 ^ 63 ∧ SqL K H1 a xs ∧ R (IteF K a k₀) H1
theorem pi_enumF {X : Cx} {e1 e2 : Expr} {ta : TA} {p pos tpos : Pos} {elts : List Expr} {kk : Nat} (hg : Gl X "enumerate") (hm : X.mg "enumerate" = none) (ha : PA X [e1, e2] ta) (hs : starEach [e1, e2] X.env = [(false, eval e1 X.env), (false, eval e2 X.env)] := by rfl) (hs2 : starEach [e2] X.env = [(false, eval e2 X.env)] := by rfl) :
    PI X (.Tuple elts kk tpos) (.Call (.Name "enumerate" p) [e1, e2] [] pos) (iEnumF X.K ta) := by
  refine ⟨fun pins s σ H R I h => ?_⟩
  refine Call_ (ld_blt I hg hm boot_enumerate (PyProof.Rows.callWith_type1 (thn (ha.run pos pins s σ H _ I h) fun us s1 ⟨vs, H1, I1, r1, q1⟩ => ?_) (by rw [hs, hs2]) (by rw [hs2]; rfl)))
  obtain ⟨a, xs, k₀, rfl, k0, k1, hq, q⟩ := q1
  obtain ⟨u, v, rfl, ru, rv'⟩ := r1.two
  cases ru
  obtain ⟨tk, rfl⟩ := rv'
  have young : ∀ b, b ∈ [s1.heap.objs.size + 1, s1.heap.objs.size] → s1.heap.objs.size ≤ b := fun b hb => by
    rcases List.mem_cons.mp hb with z | z
    · rw [z]; exact Nat.le_add_right _ _
    · rw [List.mem_singleton.mp z]; exact Nat.le_refl _
  obtain ⟨its, rv, p', hz⟩ := I1.list hq
  refine enum_begins (begins_list a its.toArray) p'.isList k0 k1 fun h' he hit _ hk => wpAny_pyIter_enum he ?_
  exact ⟨s1.heap.objs.size + 1, [s1.heap.objs.size + 1, s1.heap.objs.size], _, _, H1, rfl, I1.kept (t' := s1.toks) hk, turn_enumF k₀ a (s1.heap.objs.size + 1) s1.heap.objs.size, ⟨⟨.none, by rw [show k₀ + ((0 : Nat) : Int) = k₀ by omega]; exact he⟩, ⟨_, hit, rfl, rfl⟩, Nat.succ_ne_self _⟩, fun b hb => I1.fpOk (young b hb) (I1.hok.fresh (young b hb)), q⟩
theorem walk_enumF {K : PySem.W.Frag} {a : Addr} {xs : List V} {k₀ : Int} : Walk (IteF K a k₀) xs.length (fun H => SqL K H a xs) (YPair (fun i => some (.int (k₀ + (i : Nat)))) (fun i => xs[i]?)) := by
  refine ⟨fun i _ hi q => ⟨xs, xs[i], q, by simp [hi]⟩, fun _ q => ⟨xs, q, rfl⟩, fun i H v H' _ q y => ?_⟩
  obtain ⟨T, x, h1, h2, h3, h4⟩ := y
  exact ⟨T, .int (k₀ + (i : Nat)), x, h1, h2, h3, rfl, h4 xs q⟩
end L2

namespace L2
open PySem PySem.Spec PyProof.Rows StX
section
variable {X : Cx} {CX : CXT} {k : Nat} {f C : Addr} {sp : Sp} {E : XK} {x : Str} {e : Expr} {te : TE} {p sp_ pos : Pos}
/-- C(*y) -/
def tMakeZ (K : PySem.W.Frag) (C : Addr) (sp : Sp) (E : XK) (te : TE) : TE := fun σ H Q => te σ H fun y H1 => ∃ a xs, y = V.ref a ∧ (SqT K H1 a xs ∨ SqL K H1 a xs) ∧ ∀ x dx, H1 x = Option.none → H1 dx = Option.none → dx ≠ x →
  sp (V.ref x :: xs) (upd (upd H1 dx (.own x)) x (.ins C dx [])) (fun v H2 => v = .non ∧ Q (.ref x) H2) E
theorem pe_makeZ1 (M : Mk X.K C f) (F : FnR X.prog X.w X.K X.mg X.base CX k f sp) (hr : Room (k + 1) X.A) (hg : Gl X x) (hm : X.mg x = some (.ref C)) (hx : Passes CX X E) (he : PE X e te) (hd : (x == ("__debug__" : Str)) = false := by decide)
    (hst : starEach [.Starred e sp_] X.env = [(true, eval e X.env)] := by rfl) : PE X (.Call (.Name x p) [.Starred e sp_] [] pos) (tMakeZ X.K C sp E te) := by
  refine ⟨fun pins s σ H Q I h => ?_⟩
  refine wpAny_Call_Name_kw (ld_glob I hg hm ?_ hd)
  refine PySem.W.callWith_S (h₀ := X.base) I.ok.mod.kin M.kp (thn (he.run pins s σ H _ I h) fun v s1 ⟨y, H1, I1, ry, a, xs, ey, hxs, q⟩ => ?_) hst
  subst ey
  obtain rfl : v = Value.ref a := ry
  exact star_any I1 hxs fun us s2 I2 rv => ⟨I2.kIn, run_makeR M F hr hx I2 rv q⟩
end
/-! ### join within a comprehension; a star in a tuple -/
section
variable {X : Cx} {o e : Expr} {to te : TE}
theorem pe_joinK {K : PySem.W.Frag} {apos pos : Pos} (hK : X.K = K) (ho : PE X o to) (he : PE X e te) (hs : starEach [e] X.env = [(false, eval e X.env)] := by rfl) (hbase : attributeBase o "join" X.env (eval o X.env) = eval o X.env := by rfl) (hline : (apos.endLine == pos.line) = true := by rfl) :
    PE X (.Call (.Attribute o "join" apos) [e] [] pos) (tM1 (fun x xs H Q => ∃ a p, ∃ ys : List Str, x = .str a ∧ xs = [.ref p] ∧ (SqL K H p (ys.map V.str) ∨ SqT K H p (ys.map V.str)) ∧
      (ys.map (·.length)).sum + ys.length * a.length ≤ 16777216 ∧ Q (.str (Txt.join a ys)) H) to te) := by
  subst hK
  exact pe_join ho he hs hbase hline
theorem pa_starZ {K : PySem.W.Frag} {es : List Expr} {t : TA} {p : Pos} (hK : X.K = K) (he : PE X e te) (hr : PA X es t) (hs : starEach (.Starred e p :: es) X.env = (true, eval e X.env) :: starEach es X.env := by rfl) : PA X (.Starred e p :: es) (StX.tStar K te t) := by
  subst hK
  exact StX.pa_star he hr hs
end
/-! ### texts split and joined -/
theorem str_ext {a b : Str} (h : a.cps.toList = b.cps.toList) : a = b := by
  cases a
  cases b
  congr
  exact Array.toList_inj.mp h
theorem app_cps (a b : Str) : (a ++ b).cps.toList = a.cps.toList ++ b.cps.toList := by
  show (a.cps ++ b.cps).toList = _
  exact Array.toList_append
theorem cut_one {c : Nat} : ∀ {a b r s : List Nat}, c ∉ a → c ∉ b → a ++ c :: r = b ++ c :: s → a = b ∧ r = s
  | [], [], r, s, _, _, h => by
    injection h with _ h
    exact ⟨rfl, h⟩
  | [], y :: b, r, s, _, hb, h => by
    injection h with h _
    exact absurd (h ▸ List.mem_cons_self) hb
  | x :: a, [], r, s, ha, _, h => by
    injection h with h _
    exact absurd (h ▸ List.mem_cons_self) ha
  | x :: a, y :: b, r, s, ha, hb, h => by
    injection h with h1 h2
    obtain ⟨e1, e2⟩ := cut_one (fun m => ha (List.mem_cons_of_mem _ m)) (fun m => hb (List.mem_cons_of_mem _ m)) h2
    exact ⟨by rw [h1, e1], e2⟩
def Free (c : Nat) (z : Str) : Prop := c ∉ z.cps.toList
theorem join_two (y a b : Str) (r : List Str) : Str.join y (a :: b :: r) = a ++ y ++ Str.join y (b :: r) := rfl
theorem join_inj {c : Nat} : ∀ {A B : List Str}, A ≠ [] → B ≠ [] → (∀ z, z ∈ A → Free c z) → (∀ z, z ∈ B → Free c z) → Str.join ⟨#[c]⟩ A = Str.join ⟨#[c]⟩ B → A = B
  | [], _, h, _, _, _, _ => absurd rfl h
  | _ :: _, [], _, h, _, _, _ => absurd rfl h
  | [a], [b], _, _, _, _, h => by
    have h : a = b := h
    rw [h]
  | [a], b :: b2 :: r, _, _, ha, _, h => by
    have h := congrArg (fun z : Str => z.cps.toList) h
    rw [join_two] at h
    rw [app_cps, app_cps] at h
    refine absurd ?_ (ha a List.mem_cons_self)
    show c ∈ a.cps.toList
    have h : a.cps.toList = b.cps.toList ++ [c] ++ _ := h
    rw [h]
    simp
  | a :: a2 :: r, [b], _, _, _, hb, h => by
    have h := congrArg (fun z : Str => z.cps.toList) h
    rw [join_two] at h
    rw [app_cps, app_cps] at h
    refine absurd ?_ (hb b List.mem_cons_self)
    show c ∈ b.cps.toList
    have h : a.cps.toList ++ [c] ++ _ = b.cps.toList := h
    rw [← h]
    simp
  | a :: a2 :: r, b :: b2 :: s, _, _, ha, hb, h => by
    have h := congrArg (fun z : Str => z.cps.toList) h
    rw [join_two, join_two] at h
    rw [app_cps, app_cps, app_cps, app_cps] at h
    have h : a.cps.toList ++ [c] ++ (Str.join ⟨#[c]⟩ (a2 :: r)).cps.toList = b.cps.toList ++ [c] ++ (Str.join ⟨#[c]⟩ (b2 :: s)).cps.toList := h
    rw [List.append_assoc, List.append_assoc] at h
    obtain ⟨e1, e2⟩ := cut_one (ha a List.mem_cons_self) (hb b List.mem_cons_self) h
    have := join_inj (A := a2 :: r) (B := b2 :: s) (List.cons_ne_nil _ _) (List.cons_ne_nil _ _) (fun z hz => ha z (List.mem_cons_of_mem _ hz)) (fun z hz => hb z (List.mem_cons_of_mem _ hz)) (str_ext e2)
    rw [str_ext e1, this]
theorem split_join {c : Nat} {zs : List Str} (ne : zs ≠ []) (h : ∀ z, z ∈ zs → Free c z) : Txt.split (Str.join ⟨#[c]⟩ zs) ⟨#[c]⟩ = zs := by
  refine join_inj (c := c) (fun e => ?_) ne (PySem.StrLaws.split_free _ c) h (PySem.StrLaws.join_split _ _)
  have := PyProof.Rows.split_pos (Str.join ⟨#[c]⟩ zs) ⟨#[c]⟩
  rw [e] at this
  exact absurd this (by decide)
theorem txt_join (a : Str) (zs : List Str) : Txt.join a zs = Str.join a zs := eq_of_beq (PyProof.Rows.join_plain_closes a zs)
/-- lines, each with its feed, are the lines and an empty one joined by feeds -/
theorem lines_join {nl : Str} : ∀ ls : List Str, Str.join ⟨#[]⟩ (ls.map fun l => l ++ nl) = Str.join nl (ls ++ [⟨#[]⟩])
  | [] => rfl
  | [l] => by
    show l ++ nl = l ++ nl ++ Str.join nl [⟨#[]⟩]
    refine str_ext ?_
    rw [app_cps (l ++ nl)]
    show _ = _ ++ ([] : List Nat)
    rw [List.append_nil]
  | l :: l2 :: ls => by
    have ih := lines_join (nl := nl) (l2 :: ls)
    show (l ++ nl) ++ ⟨#[]⟩ ++ Str.join ⟨#[]⟩ ((l2 :: ls).map fun l => l ++ nl) = l ++ nl ++ Str.join nl (l2 :: (ls ++ [⟨#[]⟩]))
    rw [ih]
    refine str_ext ?_
    rw [app_cps, app_cps (l ++ nl), app_cps (l ++ nl)]
    show _ ++ ([] : List Nat) ++ _ = _
    rw [List.append_nil]
    rfl
end L2

/-! [e for a in xs for b in ys] over lists -/
namespace L2
open PySem PySem.Spec PyProof.Rows
/-- the inner walk of a comprehension with two for -/
def InW (J1 : It) (g1 : TG) (tt1 : TT) (te : TE) (vs1 : List Nat) (D : Addr) (σ2 : St) (Nx : Hp → Prop) (H4 : Hp) : Prop :=
  ∃ W1 : Nat → Nat → Hp → Prop, (∃ m, W1 0 m H4) ∧ ∀ j k H, W1 j k H →
    (J1.stop j H ∧ Nx H) ∨ (J1.go j H ∧ ∃ Nx1 : Hp → Prop, (∀ H', Nx1 H' → ∃ k', k' < k ∧ W1 (j + 1) k' H') ∧ ∀ x H', J1.yld j H x H' → g1 x (wipe σ2 vs1) H' fun σ3 H5 => wipe σ3 vs1 = wipe σ2 vs1 ∧ tt1 σ3 H5 fun b H6 =>
      if b = true then te σ3 H6 fun y H7 => ∃ acc, H7 D = some (.lst acc) ∧ acc.length < sizeLine ∧ Nx1 (upd H7 D (.lst (acc ++ [y]))) else Nx1 H6)
theorem inw_it {J1 : It} {n : Nat} {G : Hp → Prop} {Y : Nat → Hp → V → Hp → Prop} (w : Walk J1 n G Y) {g1 : TG} {tt1 : TT} {te : TE} {vs1 : List Nat} {D : Addr} {σ2 : St} {Nx : Hp → Prop} {H4 : Hp} (Pw : Nat → Hp → Prop) (h0 : Pw 0 H4) (hG : ∀ i H, i ≤ n → Pw i H → G H)
    (hs : ∀ j x H H', j < n → Pw j H → Y j H x H' → g1 x (wipe σ2 vs1) H' fun σ3 H5 => wipe σ3 vs1 = wipe σ2 vs1 ∧ tt1 σ3 H5 fun b H6 =>
      if b = true then te σ3 H6 fun y H7 => ∃ acc, H7 D = some (.lst acc) ∧ acc.length < sizeLine ∧ Pw (j + 1) (upd H7 D (.lst (acc ++ [y]))) else Pw (j + 1) H6) (hd : ∀ H, Pw n H → Nx H) : InW J1 g1 tt1 te vs1 D σ2 Nx H4 := by
  refine ⟨fun i m H => m = n - i ∧ i ≤ n ∧ Pw i H, ⟨n, by simp, Nat.zero_le _, h0⟩, ?_⟩
  rintro i m H ⟨rfl, hi, p⟩
  have q := hG i H hi p
  by_cases hlt : i < n
  · refine .inr ⟨w.goes i H hlt q, Pw (i + 1), fun H' p' => ⟨n - (i + 1), by omega, rfl, hlt, p'⟩, fun x H' y => hs i x H H' hlt p (w.yields i H x H' hlt q y)⟩
  · have e : i = n := by omega
    subst e
    exact .inl ⟨w.stops H q, hd H p⟩
theorem lc2_it {J : It} {n : Nat} {G : Hp → Prop} {Y : Nat → Hp → V → Hp → Prop} (w : Walk J n G Y) {g : TG} {tt : TT} {wi1 : TI} {g1 : TG} {tt1 : TT} {te : TE} {vs vs1 : List Nat} {σ : St} {H1 : Hp} {D : Addr} {Qd : Hp → Prop} (Pv : Nat → Hp → Prop) (h0 : Pv 0 (upd H1 D (.lst []))) (hG : ∀ i H, i ≤ n → Pv i H → G H)
    (hs : ∀ i x H H', i < n → Pv i H → Y i H x H' → g x (wipe σ vs) H' fun σ2 H2 => wipe σ2 vs = wipe σ vs ∧ tt σ2 H2 fun b H3 => if b = true then wi1 σ2 H3 fun J1 H4 => InW J1 g1 tt1 te vs1 D σ2 (Pv (i + 1)) H4 else Pv (i + 1) H3) (hd : ∀ H, Pv n H → Qd H) :
    ∃ W : Nat → Nat → Hp → Prop, (∃ m, W 0 m (upd H1 D (.lst []))) ∧ ∀ i m H, W i m H →
      (J.stop i H ∧ Qd H) ∨ (J.go i H ∧ ∃ Nx : Hp → Prop, (∀ H', Nx H' → ∃ m', m' < m ∧ W (i + 1) m' H') ∧ ∀ x H', J.yld i H x H' → g x (wipe σ vs) H' fun σ2 H2 => wipe σ2 vs = wipe σ vs ∧ tt σ2 H2 fun b H3 =>
        if b = true then wi1 σ2 H3 fun J1 H4 => ∃ W1 : Nat → Nat → Hp → Prop, (∃ m, W1 0 m H4) ∧ ∀ j k H, W1 j k H →
          (J1.stop j H ∧ Nx H) ∨ (J1.go j H ∧ ∃ Nx1 : Hp → Prop, (∀ H', Nx1 H' → ∃ k', k' < k ∧ W1 (j + 1) k' H') ∧ ∀ x H', J1.yld j H x H' → g1 x (wipe σ2 vs1) H' fun σ3 H5 => wipe σ3 vs1 = wipe σ2 vs1 ∧ tt1 σ3 H5 fun b H6 =>
            if b = true then te σ3 H6 fun y H7 => ∃ acc, H7 D = some (.lst acc) ∧ acc.length < sizeLine ∧ Nx1 (upd H7 D (.lst (acc ++ [y]))) else Nx1 H6)
        else Nx H3) := by
  refine ⟨fun i m H => m = n - i ∧ i ≤ n ∧ Pv i H, ⟨n, by simp, Nat.zero_le _, h0⟩, ?_⟩
  rintro i m H ⟨rfl, hi, p⟩
  have q := hG i H hi p
  by_cases hlt : i < n
  · refine .inr ⟨w.goes i H hlt q, Pv (i + 1), fun H' p' => ⟨n - (i + 1), by omega, rfl, hlt, p'⟩, fun x H' y => hs i x H H' hlt p (w.yields i H x H' hlt q y)⟩
  · have e : i = n := by omega
    subst e
    exact .inl ⟨w.stops H q, hd H p⟩
end L2

namespace My
open PySem PySem.Spec PyProof.Rows L2
def sp1 : Str := ⟨#[32]⟩
def nl1 : Str := ⟨#[10]⟩
def lineS (r : List Str) : Str := Str.join sp1 r
/-- how a fact stands in a text -/
def turnR : List Str → List Str
  | [w, a, b] => [a, w, b]
  | r => r
def rowsTx (fo th : List Str) (rows : List (List Str)) : List (List Str) := (("folders" : Str) :: fo) :: (("things" : Str) :: th) :: rows.map turnR
/-- the text of facts -/
def txS (fo th : List Str) (rows : List (List Str)) : Str := Str.join ⟨#[]⟩ ((rowsTx fo th rows).map fun r => lineS r ++ nl1)
/-! ### how long a text is -/
theorem app_len (a b : Str) : (a ++ b).length = a.length + b.length := by
  show (a.cps ++ b.cps).size = _
  exact Array.size_append
theorem join_len (y : Str) : ∀ zs : List Str, (Str.join y zs).length ≤ (zs.map (·.length)).sum + zs.length * y.length
  | [] => Nat.zero_le _
  | [a] => by
    show a.length ≤ ([a.length].sum) + _
    simp
  | a :: b :: r => by
    have ih := join_len y (b :: r)
    rw [join_two, app_len, app_len, List.map_cons, List.sum_cons, List.length_cons, Nat.add_mul]
    omega
theorem sum_most {m : Nat} : ∀ {zs : List Str}, (∀ z, z ∈ zs → z.length ≤ m) → (zs.map (·.length)).sum ≤ zs.length * m
  | [], _ => Nat.zero_le _
  | a :: r, h => by
    have ih := sum_most (zs := r) fun z hz => h z (List.mem_cons_of_mem _ hz)
    have := h a List.mem_cons_self
    rw [List.map_cons, List.sum_cons, List.length_cons, Nat.add_mul]
    omega
theorem free_app {c : Nat} {a b : Str} (ha : Free c a) (hb : Free c b) : Free c (a ++ b) := fun m => by
  rw [app_cps] at m
  exact (List.mem_append.mp m).elim ha hb
theorem free_join {c : Nat} {y : Str} (hy : Free c y) : ∀ {zs : List Str}, (∀ z, z ∈ zs → Free c z) → Free c (Str.join y zs)
  | [], _ => fun m => by cases m
  | [a], h => h a List.mem_cons_self
  | a :: b :: r, h => by
    rw [join_two]
    exact free_app (free_app (h a List.mem_cons_self) hy) (free_join hy fun z hz => h z (List.mem_cons_of_mem _ hz))
/-- a word of a line -/
structure Cln (z : Str) : Prop where
  sp : Free 32 z
  nl : Free 10 z
  len : z.length ≤ 8
theorem name_cln {z : Str} (h : nameB z = true) : Cln z := by
  obtain ⟨h1, h2⟩ := Bool.and_eq_true_iff.mp h
  obtain ⟨h2, h3⟩ := Bool.and_eq_true_iff.mp h2
  have h2 := of_decide_eq_true h2
  have hs : ∀ c, c ∈ z.cps.toList → c ∈ letters.cps.toList := fun c hc => by
    have := List.all_eq_true.mp h3 (decide (c ∈ letters.cps.toList)) (List.mem_map.mpr ⟨c, hc, rfl⟩)
    exact of_decide_eq_true this
  refine ⟨fun m => ?_, fun m => ?_, by omega⟩
  · exact absurd (hs _ m) (by decide +kernel)
  · exact absurd (hs _ m) (by decide +kernel)
theorem cln_folders : Cln ("folders" : Str) := name_cln (by decide +kernel)
theorem cln_things : Cln ("things" : Str) := name_cln (by decide +kernel)
theorem cln_words {w : Str} (h : w ∈ wordsS) : Cln w := by
  have : ∀ w, w ∈ wordsS → nameB w = true := by decide +kernel
  exact name_cln (this w h)
/-- lines of words -/
def Lns (rs : List (List Str)) : Prop := ∀ r, r ∈ rs → r ≠ [] ∧ r.length ≤ 100 ∧ ∀ z, z ∈ r → Cln z
theorem line_len {r : List Str} (l : r.length ≤ 100) (h : ∀ z, z ∈ r → Cln z) : (lineS r).length ≤ 900 := by
  have h1 := join_len sp1 r
  have h2 := sum_most (zs := r) (m := 8) fun z hz => (h z hz).len
  have h3 : sp1.length = 1 := rfl
  rw [h3] at h1
  show (Str.join sp1 r).length ≤ 900
  omega
theorem line_fit {r : List Str} (l : r.length ≤ 100) (h : ∀ z, z ∈ r → Cln z) : (r.map (·.length)).sum + r.length * sp1.length ≤ 16777216 := by
  have h2 := sum_most (zs := r) (m := 8) fun z hz => (h z hz).len
  have h3 : sp1.length = 1 := rfl
  rw [h3]
  omega
theorem line_free {r : List Str} (h : ∀ z, z ∈ r → Cln z) : Free 10 (lineS r) := free_join (by intro m; revert m; decide) fun z hz => (h z hz).nl
theorem line_split {r : List Str} (ne : r ≠ []) (h : ∀ z, z ∈ r → Cln z) : Txt.split (lineS r) sp1 = r := split_join ne fun z hz => (h z hz).sp
theorem feed_len {r : List Str} (l : r.length ≤ 100) (h : ∀ z, z ∈ r → Cln z) : (lineS r ++ nl1).length ≤ 901 := by
  rw [app_len]
  have := line_len l h
  have h3 : nl1.length = 1 := rfl
  omega
theorem feeds_fit {rs : List (List Str)} (h : Lns rs) (l : rs.length ≤ 1000) : ((rs.map fun r => lineS r ++ nl1).map (·.length)).sum + (rs.map fun r => lineS r ++ nl1).length * (⟨#[]⟩ : Str).length ≤ 1000000 := by
  have h2 := sum_most (zs := rs.map fun r => lineS r ++ nl1) (m := 901) fun z hz => by
    obtain ⟨r, hr, rfl⟩ := List.mem_map.mp hz
    exact feed_len (h r hr).2.1 (h r hr).2.2
  rw [List.length_map] at h2
  have h3 : (⟨#[]⟩ : Str).length = 0 := rfl
  rw [h3]
  omega
theorem text_len {rs : List (List Str)} (h : Lns rs) (l : rs.length ≤ 1000) : (Str.join ⟨#[]⟩ (rs.map fun r => lineS r ++ nl1)).length ≤ 1000000 := Nat.le_trans (join_len _ _) (feeds_fit h l)
theorem text_split {rs : List (List Str)} (h : Lns rs) : Txt.split (Str.join ⟨#[]⟩ (rs.map fun r => lineS r ++ nl1)) nl1 = rs.map lineS ++ [⟨#[]⟩] := by
  have e : (rs.map fun r => lineS r ++ nl1) = (rs.map lineS).map fun l => l ++ nl1 := by
    rw [List.map_map]
    rfl
  rw [e, lines_join]
  refine split_join (c := 10) (fun z => ?_) fun z hz => ?_
  · have := congrArg List.length z
    rw [List.length_append] at this
    simp at this
  · rcases List.mem_append.mp hz with hz | hz
    · obtain ⟨r, hr, rfl⟩ := List.mem_map.mp hz
      exact line_free (h r hr).2.2
    · rw [List.mem_singleton.mp hz]
      intro m
      cases m
/-- names of a house and rows of facts, in bounds -/
structure Sm (fo th : List Str) (rows : List (List Str)) : Prop where
  ok : Nok (fo ++ th)
  ne : fo ≠ []
  len : (fo ++ th).length ≤ 99
  num' : rows.length ≤ 100
  tr : TR fo th rows
theorem Sm.lns {fo th : List Str} {rows : List (List Str)} (h : Sm fo th rows) : Lns (rowsTx fo th rows) := by
  have l := h.len
  rw [List.length_append] at l
  have nm : ∀ z, z ∈ fo ++ th → Cln z := fun z hz => name_cln (h.ok.2 z hz).1
  intro r hr
  rcases List.mem_cons.mp hr with rfl | hr
  · refine ⟨List.cons_ne_nil _ _, by rw [List.length_cons]; omega, fun z hz => ?_⟩
    rcases List.mem_cons.mp hz with rfl | hz
    · exact cln_folders
    · exact nm z (List.mem_append_left _ hz)
  · rcases List.mem_cons.mp hr with rfl | hr
    · refine ⟨List.cons_ne_nil _ _, by rw [List.length_cons]; omega, fun z hz => ?_⟩
      rcases List.mem_cons.mp hz with rfl | hz
      · exact cln_things
      · exact nm z (List.mem_append_right _ hz)
    · obtain ⟨q, hq, rfl⟩ := List.mem_map.mp hr
      obtain ⟨w, a, b, rfl, t⟩ := h.tr q hq
      refine ⟨List.cons_ne_nil _ _, (by decide : 3 ≤ 100), fun z hz => ?_⟩
      have hz : z ∈ [a, w, b] := hz
      simp only [List.mem_cons, List.not_mem_nil, or_false] at hz
      rcases hz with rfl | rfl | rfl
      · exact nm _ t.1.2.1
      · exact cln_words t.1.1
      · exact nm _ t.1.2.2.1
theorem Sm.num {fo th : List Str} {rows : List (List Str)} (h : Sm fo th rows) : (rowsTx fo th rows).length ≤ 1000 := by
  have := h.num'
  show ((rows.map turnR).length + 1) + 1 ≤ 1000
  rw [List.length_map]
  omega
theorem Sm.take {fo th : List Str} {rows : List (List Str)} (h : Sm fo th rows) (i : Nat) : Sm fo th (rows.take i) := ⟨h.ok, h.ne, h.len, by rw [List.length_take]; have := h.num'; omega, h.tr.sub fun r hr => List.mem_of_mem_take hr⟩
/-! ### comprehensions -/
/-- what is made of each -/
def AllQ {β : Type} (R : Hp → V → β → Prop) (H : Hp) (ys : List V) (bs : List β) : Prop := ys.length = bs.length ∧ ∀ (i : Nat) (y : V), ys[i]? = some y → ∃ b, bs[i]? = some b ∧ R H y b
theorem AllQ.snoc {β : Type} {R : Hp → V → β → Prop} {H : Hp} {ys : List V} {bs : List β} {y : V} {b : β} (h : AllQ R H ys bs) (r : R H y b) : AllQ R H (ys ++ [y]) (bs ++ [b]) := by
  refine ⟨by rw [List.length_append, List.length_append, h.1]; rfl, fun i z hz => ?_⟩
  rcases Nat.lt_trichotomy i ys.length with l | l | l
  · rw [List.getElem?_append_left l] at hz
    obtain ⟨c, hc, rc⟩ := h.2 i z hz
    refine ⟨c, ?_, rc⟩
    rw [List.getElem?_append_left (by rw [← h.1]; exact l)]
    exact hc
  · subst l
    rw [List.getElem?_append_right (Nat.le_refl _), Nat.sub_self] at hz
    injection hz with hz
    subst hz
    refine ⟨b, ?_, r⟩
    rw [List.getElem?_append_right (by rw [h.1]; exact Nat.le_refl _), h.1, Nat.sub_self]
    rfl
  · rw [List.getElem?_eq_none (by rw [List.length_append, List.length_singleton]; omega)] at hz
    cases hz
theorem AllQ.mono {β : Type} {R R' : Hp → V → β → Prop} {H H' : Hp} {ys : List V} {bs : List β} (h : AllQ R H ys bs) (m : ∀ y b, y ∈ ys → R H y b → R' H' y b) : AllQ R' H' ys bs := ⟨h.1, fun i y hy => by
  obtain ⟨b, hb, r⟩ := h.2 i y hy
  exact ⟨b, hb, m y b (List.mem_of_getElem? hy) r⟩⟩
theorem lc_mapQ {α β : Type} {K : PySem.W.Frag} {a D : Addr} {xs : List V} {as : List α} {f : α → β} {R : Addr → Hp → V → β → Prop} {g : TG} {te : TE} {vs : List Nat} {σ : L2.St} {H1 : Hp} {Qd : Hp → Prop} (hD : H1 D = none) (sq : SqL K H1 a xs) (len : xs.length = as.length) (sz : as.length < sizeLine)
    (rext : ∀ H H' y b, Ext H H' → R D H y b → R D H' y b) (rupd : ∀ H acc zs y b, H D = some (.lst acc) → R D H y b → R D (L2.upd H D (.lst zs)) y b)
    (hs : ∀ (i : Nat) (x : V) (v : α) (H' : Hp) (Z : V → Hp → Prop) (N : Hp → Prop), xs[i]? = some x → as[i]? = some v → Ext H1 H' → (∃ acc, H' D = some (.lst acc)) → (∀ H3 y, Ext H' H3 → R D H3 y (f v) → Z y H3) → g x (wipe σ vs) H' fun σ2 H2 => wipe σ2 vs = wipe σ vs ∧ tYes σ2 H2 fun b H3 => if b = true then te σ2 H3 Z else N H3)
    (hd : ∀ (H' : Hp) (ys : List V), Ext H1 H' → H' D = some (.lst ys) → AllQ (R D) H' ys (as.map f) → Qd H') :
    ∃ W : Nat → Nat → Hp → Prop, (∃ m, W 0 m (upd H1 D (.lst []))) ∧ ∀ i m H, W i m H →
      ((Itl K a).stop i H ∧ Qd H) ∨ ((Itl K a).go i H ∧ ∃ Nx : Hp → Prop, (∀ H', Nx H' → ∃ m', m' < m ∧ W (i + 1) m' H') ∧ ∀ x H', (Itl K a).yld i H x H' → g x (wipe σ vs) H' fun σ2 H2 => wipe σ2 vs = wipe σ vs ∧ tYes σ2 H2 fun b H3 =>
        if b = true then te σ2 H3 fun y H4 => ∃ acc, H4 D = some (.lst acc) ∧ acc.length < sizeLine ∧ Nx (upd H4 D (.lst (acc ++ [y]))) else Nx H3) := by
  refine lc_list (K := K) (a := a) (xs := xs) (fun k H' => Ext H1 H' ∧ ∃ ys, H' D = some (.lst ys) ∧ AllQ (R D) H' ys ((as.map f).take k)) ⟨Ext.upd hD, [], upd_same, rfl, fun i y hy => by cases hy⟩ (fun k H' _ w => sq.ext w.1) ?_ ?_
  · rintro i x H' hx ⟨x1, ys, hy, aq⟩
    have il := (List.getElem?_eq_some_iff.mp hx).1
    obtain ⟨v, hv⟩ : ∃ v, as[i]? = some v := ⟨_, List.getElem?_eq_getElem (by omega)⟩
    have tk : (as.map f).take (i + 1) = (as.map f).take i ++ [f v] := by
      rw [List.take_add_one, List.getElem?_map, hv]
      rfl
    refine hs i x v H' _ _ hx hv x1 ⟨_, hy⟩ fun H3 y x3 r => ?_
    refine ⟨_, x3 _ _ hy, ?_, (x1.trans x3).over hD, _, upd_same, ?_⟩
    · have := aq.1
      rw [List.length_take, List.length_map] at this
      omega
    · rw [tk]
      refine AllQ.snoc (aq.mono fun y b _ r => rupd _ _ _ _ _ (x3 _ _ hy) (rext _ _ _ _ x3 r)) (rupd _ _ _ _ _ (x3 _ _ hy) r)
  · rintro H' ⟨x1, ys, hy, aq⟩
    rw [List.take_of_length_le (by rw [List.length_map]; omega)] at aq
    exact hd H' ys x1 hy aq
/-- rows of texts that are lists or tuples, none of them the new list -/
def RowQ (K : PySem.W.Frag) (D : Addr) (H : Hp) (y : V) (r : List Str) : Prop := ∃ t, y = .ref t ∧ t ≠ D ∧ SeqAt2 K H t (r.map V.str)
def StrQ (_ : Addr) (_ : Hp) (y : V) (z : Str) : Prop := y = .str z
theorem strQ_all {H : Hp} {D : Addr} {ys : List V} {bs : List Str} (h : AllQ (StrQ D) H ys bs) : ys = bs.map V.str := by
  refine List.ext_getElem? fun i => ?_
  cases e : ys[i]? with
  | none =>
    have := List.getElem?_eq_none_iff.mp e
    rw [List.getElem?_eq_none (by rw [List.length_map, ← h.1]; exact this)]
  | some y =>
    obtain ⟨b, hb, r⟩ := h.2 i y e
    rw [List.getElem?_map, hb, r]
    rfl
theorem sqL_upd {K : PySem.W.Frag} {H : Hp} {t D : Addr} {xs : List V} {o : HO} (h : SqL K H t xs) (n : t ≠ D) : SqL K (L2.upd H D o) t xs := by
  rcases h with (h | ⟨o, h⟩) | h
  · exact .inl (.inl (by rw [upd_ne n]; exact h))
  · exact .inl (.inr ⟨o, by rw [upd_ne n]; exact h⟩)
  · exact .inr h
theorem seq2_upd {K : PySem.W.Frag} {H : Hp} {t D : Addr} {xs ys zs : List V} (h : SeqAt2 K H t xs) (n : t ≠ D) (hD : H D = some (.lst ys)) : SeqAt2 K (L2.upd H D (.lst zs)) t xs := by
  rcases h with h | h
  · exact .inl (sqL_upd h n)
  · exact .inr (sqT_upd h hD)
theorem rowQ_raws {K : PySem.W.Frag} {D : Addr} {H : Hp} {ys : List V} {rs : List (List Str)} (h : AllQ (RowQ K D) H ys rs) : Raws K H ys rs := ⟨h.1, fun i y hy => by
  obtain ⟨r, hr, t, e, _, sq⟩ := h.2 i y hy
  exact ⟨t, r, e, hr, sq⟩⟩
theorem raws_cons {K : PySem.W.Frag} {H : Hp} {t : Addr} {r : List Str} {xs : List V} {rs : List (List Str)} (h : SeqAt2 K H t (r.map V.str)) (g : Raws K H xs rs) : Raws K H (.ref t :: xs) (r :: rs) := ⟨congrArg (· + 1) g.1, fun i y hy => by
  cases i with
  | zero =>
    cases hy
    exact ⟨t, r, rfl, rfl, h⟩
  | succ i => exact g.2 i y hy⟩
end My

namespace My
open PySem PySem.Spec PyProof.Rows L2
/-! ### what is kept -/
def Kp (S : List Addr) (H H' : Hp) : Prop := ∀ a u, a ∉ S → H a = some u → H' a = some u
/-- only lists change, and tables of code objects -/
def Mu (H H' : Hp) : Prop := ∀ a u, H a = some u → (∀ ps, u ≠ .tbl ps) → H' a = some u ∨ ∃ xs ys, u = .lst xs ∧ H' a = some (.lst ys)
theorem Ext.mu {H H' : Hp} (e : Ext H H') : Mu H H' := fun a u h _ => .inl (e a u h)
theorem ExtN.mu {H H' : Hp} (e : LamX.ExtN H H') : Mu H H' := fun a u h n => .inl (e a u h n)
theorem Mu.trans {H H1 H2 : Hp} (m : Mu H H1) (n : Mu H1 H2) : Mu H H2 := fun a u h t => by
  rcases m a u h t with h1 | ⟨xs, ys, e, h1⟩
  · exact n a u h1 t
  · rcases n a _ h1 (fun _ z => nomatch z) with h2 | ⟨_, zs, _, h2⟩
    · exact .inr ⟨xs, ys, e, h2⟩
    · exact .inr ⟨xs, zs, e, h2⟩
theorem Mu.upd {H H' : Hp} {l : Addr} {ys zs : List V} (m : Mu H H') (hl : H' l = some (.lst ys)) : Mu H (L2.upd H' l (.lst zs)) := m.trans fun a u h _ => by
  by_cases e : a = l
  · subst e
    rw [hl] at h
    exact .inr ⟨ys, zs, (Option.some.inj h).symm, upd_same⟩
  · exact .inl (by rw [upd_ne e]; exact h)
theorem But.mu {H H' : Hp} {p : Addr} {xs ys : List V} (b : But H H' p) (hp : H p = some (.lst xs)) (hp' : H' p = some (.lst ys)) : Mu H H' := fun a u h _ => by
  by_cases e : a = p
  · subst e
    rw [hp] at h
    exact .inr ⟨xs, ys, (Option.some.inj h).symm, hp'⟩
  · exact .inl (b a u e h)
theorem Mu.keep {H H' : Hp} (m : Mu H H') {a : Addr} {u : HO} (h : H a = some u) (n : ∀ xs, u ≠ .lst xs) (n2 : ∀ ps, u ≠ .tbl ps) : H' a = some u := (m a u h n2).resolve_right fun ⟨xs, _, e, _⟩ => n xs e
theorem SqT.mu {K : PySem.W.Frag} {H H' : Hp} {f : Addr} {xs : List V} (h : SqT K H f xs) (m : Mu H H') : SqT K H' f xs := by
  rcases h with (h | ⟨o, h⟩) | h
  · exact .inl (.inl (m.keep h (fun _ z => nomatch z) fun _ z => nomatch z))
  · exact .inl (.inr ⟨o, m.keep h (fun _ z => nomatch z) fun _ z => nomatch z⟩)
  · exact .inr h
theorem Rows.mu {K : PySem.W.Frag} {H H' : Hp} (m : Mu H H') : ∀ {xs : List V} {rs : List (List Str)}, Rows K H xs rs → Rows K H' xs rs
  | [], [], _ => True.intro
  | _ :: _, _ :: _, ⟨⟨t, e1, h⟩, hr⟩ => ⟨⟨t, e1, SqT.mu h m⟩, Rows.mu m hr⟩
  | [], _ :: _, h => h.elim
  | _ :: _, [], h => h.elim
theorem Hou.mu {H H' : Hp} {K : PySem.W.Frag} {C a : Addr} {fo th : List Str} (h : Hou H K C a fo th) (m : Mu H H') : Hou H' K C a fo th := by
  obtain ⟨⟨dx, fs, f, t, n, h1, h2, h3, h4, h5, h6, h7⟩, ok⟩ := h
  exact ⟨⟨dx, fs, f, t, n, m.keep h1 (fun _ z => nomatch z) (fun _ z => nomatch z), h2, h3, h4, SqT.mu h5 m, SqT.mu h6 m, SqT.mu h7 m⟩, ok⟩
theorem FacAt.mu {H H' : Hp} {K : PySem.W.Frag} {CF C a : Addr} {fo th : List Str} {rows : List (List Str)} (h : FacAt H K CF C a fo th rows) (m : Mu H H') : FacAt H' K CF C a fo th rows := by
  obtain ⟨dx, fs, ho, r, ys, h1, h2, h3, h4, h5, h6, h7, h8⟩ := h
  exact ⟨dx, fs, ho, r, ys, m.keep h1 (fun _ z => nomatch z) (fun _ z => nomatch z), h2, h3, Hou.mu h4 m, SqT.mu h5 m, Rows.mu m h6, h7, h8⟩
theorem Kp.ext {S : List Addr} {H H1 H2 : Hp} (k : Kp S H H1) (e : Ext H1 H2) : Kp S H H2 := fun a u n h => e _ _ (k a u n h)
theorem Kp.but {S : List Addr} {H H1 H2 : Hp} {p : Addr} (k : Kp S H H1) (b : But H1 H2 p) (m : p ∈ S) : Kp S H H2 := fun a u n h => b a u (fun e => n (e ▸ m)) (k a u n h)
theorem Kp.upd {S : List Addr} {H H1 : Hp} {l : Addr} {o : HO} (k : Kp S H H1) (m : l ∈ S) : Kp S H (L2.upd H1 l o) := fun a u n h => by
  rw [upd_ne (show a ≠ l from fun e => n (by rw [e]; exact m))]
  exact k a u n h
theorem Kp.rfl' {S : List Addr} {H : Hp} : Kp S H H := fun _ _ _ h => h
/-! ### what is handed over -/
def Hnd (K : PySem.W.Frag) (HB H : Hp) (x : V) (r : List Str) : Prop := ∃ t, x = .ref t ∧ (SqT K H t (r.map V.str) ∨ (HB t = none ∧ H t = some (.lst (r.map V.str))))
def Hnds (K : PySem.W.Frag) (HB H : Hp) (xs : List V) (rs : List (List Str)) : Prop := xs.length = rs.length ∧ ∀ (i : Nat) (x : V), xs[i]? = some x → ∃ r, rs[i]? = some r ∧ Hnd K HB H x r
theorem Hnd.kp {K : PySem.W.Frag} {HB H H' : Hp} {S : List Addr} {x : V} {r : List Str} (h : Hnd K HB H x r) (m : Mu H H') (k : Kp S H H') (n : ∀ a, a ∈ S → HB a ≠ none) : Hnd K HB H' x r := by
  obtain ⟨t, e, h | ⟨h0, h⟩⟩ := h
  · exact ⟨t, e, .inl (SqT.mu h m)⟩
  · exact ⟨t, e, .inr ⟨h0, k _ _ (fun z => n t z h0) h⟩⟩
theorem Hnds.kp {K : PySem.W.Frag} {HB H H' : Hp} {S : List Addr} {xs : List V} {rs : List (List Str)} (h : Hnds K HB H xs rs) (m : Mu H H') (k : Kp S H H') (n : ∀ a, a ∈ S → HB a ≠ none) : Hnds K HB H' xs rs := ⟨h.1, fun i x hx => by
  obtain ⟨r, h1, h2⟩ := h.2 i x hx
  exact ⟨r, h1, h2.kp m k n⟩⟩
theorem Hnds.snoc {K : PySem.W.Frag} {HB H : Hp} {xs : List V} {rs : List (List Str)} {x : V} {r : List Str} (h : Hnds K HB H xs rs) (h1 : Hnd K HB H x r) : Hnds K HB H (xs ++ [x]) (rs ++ [r]) := by
  refine ⟨by rw [List.length_append, List.length_append, h.1]; rfl, fun i y hy => ?_⟩
  by_cases c : i < xs.length
  · rw [List.getElem?_append_left c] at hy
    obtain ⟨r2, e, z⟩ := h.2 i y hy
    exact ⟨r2, by rw [List.getElem?_append_left (by rw [← h.1]; exact c)]; exact e, z⟩
  · have hi : i < (xs ++ [x]).length := (List.getElem?_eq_some_iff.mp hy).1
    rw [List.length_append, List.length_singleton] at hi
    have e : i = xs.length := by omega
    subst e
    rw [List.getElem?_concat_length] at hy
    cases hy
    exact ⟨r, by rw [h.1, List.getElem?_concat_length], h1⟩
theorem Hnds.raws {K : PySem.W.Frag} {HB H : Hp} {xs : List V} {rs : List (List Str)} (h : Hnds K HB H xs rs) : Raws K H xs rs := ⟨h.1, fun i x hx => by
  obtain ⟨r, h1, t, e, h2⟩ := h.2 i x hx
  exact ⟨t, r, e, h1, h2.elim .inr fun z => .inl (SqL.of z.2)⟩⟩
theorem dpAll_ex {K : PySem.W.Frag} {H : Hp} {Pd : PyData → Prop} : ∀ xs : List V, (∀ x, x ∈ xs → ∃ d, Dp K H x d ∧ Pd d) → ∃ ds, DpAll K H xs ds ∧ ∀ d, d ∈ ds → Pd d
  | [], _ => ⟨[], .nil, fun d hd => by cases hd⟩
  | x :: xs, h => by
    obtain ⟨d, h1, h2⟩ := h x List.mem_cons_self
    obtain ⟨ds, h3, h4⟩ := dpAll_ex xs fun y hy => h y (List.mem_cons_of_mem _ hy)
    refine ⟨d :: ds, .cons h1 h3, fun e he => ?_⟩
    rcases List.mem_cons.mp he with rfl | he
    · exact h2
    · exact h4 e he
theorem Hnds.dp {K : PySem.W.Frag} {HB H : Hp} {xs : List V} {rs : List (List Str)} (h : Hnds K HB H xs rs) (ok : OkR rs) : ∃ ds, DpAll K H xs ds ∧ ∀ d, d ∈ ds → d.canLay0 = true ∧ d.depth ≤ 2 := dpAll_ex xs fun x hx => by
  obtain ⟨i, hi⟩ := List.mem_iff_getElem?.mp hx
  obtain ⟨r, h1, t, rfl, h2⟩ := h.2 i x hi
  have okr := ok r (List.mem_of_getElem? h1)
  rcases h2 with h2 | ⟨_, h2⟩
  · exact ⟨_, .tup h2 (dpAll_str r), flat_tup r okr⟩
  · exact ⟨_, .lst (SqL.of h2) (dpAll_str r), flat_lst r okr⟩
theorem once_nodup : ∀ rs acc : List (List Str), acc.Nodup → (rs.foldl (fun acc r => if r ∈ acc then acc else acc ++ [r]) acc).Nodup
  | [], _, h => h
  | r :: rs, acc, h => by
    rw [List.foldl_cons]
    refine once_nodup rs _ ?_
    split
    · exact h
    · rename_i n
      exact List.nodup_append.mpr ⟨h, (by simp : [r].Nodup), fun a ha b hb e => n (by rw [List.mem_singleton.mp hb] at e; rw [← e]; exact ha)⟩
theorem zeros_dp {K : PySem.W.Frag} {H : Hp} (n : Nat) : DpAll K H (List.replicate n (V.int 0)) (List.replicate n (PyData.int 0)) := by
  have h := dpAll_rep (K := K) (H := H) (d := .int 0) (List.replicate n (V.int 0)) fun x hx => by
    rw [List.eq_of_mem_replicate hx]
    exact .int 0
  rw [List.length_replicate] at h
  exact h
theorem zeros_shaped (n : Nat) : SeqAt.shaped (.list (List.replicate n (PyData.int 0))) = true := shaped_ds _ fun d hd => by
  rw [List.eq_of_mem_replicate hd]
  exact ⟨rfl, by decide⟩
theorem Rows.take {K : PySem.W.Frag} {H : Hp} : ∀ (n : Nat) {xs : List V} {rs : List (List Str)}, Rows K H xs rs → Rows K H (xs.take n) (rs.take n)
  | 0, _, _, _ => True.intro
  | _ + 1, [], [], _ => True.intro
  | n + 1, x :: xs, r :: rs, ⟨h1, h2⟩ => ⟨h1, Rows.take n h2⟩
  | _ + 1, [], _ :: _, h => h.elim
  | _ + 1, _ :: _, [], h => h.elim
theorem Rows.drop {K : PySem.W.Frag} {H : Hp} : ∀ (n : Nat) {xs : List V} {rs : List (List Str)}, Rows K H xs rs → Rows K H (xs.drop n) (rs.drop n)
  | 0, _, _, h => h
  | _ + 1, [], [], _ => True.intro
  | n + 1, x :: xs, r :: rs, ⟨h1, h2⟩ => Rows.drop n h2
  | _ + 1, [], _ :: _, h => h.elim
  | _ + 1, _ :: _, [], h => h.elim
theorem FactsOf.app {K : PySem.W.Frag} {H : Hp} {fo th : List Str} {xs ys : List V} {bs cs : List Bool} (h : FactsOf K H fo th xs bs) (g : FactsOf K H fo th ys cs) : FactsOf K H fo th (xs ++ ys) (bs ++ cs) := by
  refine ⟨by rw [List.length_append, List.length_append, h.1, g.1], fun i x hx => ?_⟩
  by_cases c : i < xs.length
  · rw [List.getElem?_append_left c] at hx
    obtain ⟨b, e, z⟩ := h.2 i x hx
    exact ⟨b, by rw [List.getElem?_append_left (by rw [← h.1]; exact c)]; exact e, z⟩
  · rw [List.getElem?_append_right (by omega)] at hx
    obtain ⟨b, e, z⟩ := g.2 _ x hx
    exact ⟨b, by rw [List.getElem?_append_right (by rw [← h.1]; omega), ← h.1]; exact e, z⟩
theorem FactsOf.one {K : PySem.W.Frag} {H : Hp} {fo th : List Str} {x : V} (h : FactOf K H fo th x false) : FactsOf K H fo th [x] [false] := ⟨rfl, fun i y hy => by
  cases i with
  | zero =>
    cases hy
    exact ⟨false, rfl, h⟩
  | succ i => cases hy⟩
theorem isF_more {fo th more : List Str} {w a b : Str} (h : IsF fo th w a b) : IsF fo (th ++ more) w a b := by
  obtain ⟨h1, h2, h3, h4, h5⟩ := h
  exact ⟨h1, by rw [← List.append_assoc]; exact List.mem_append_left _ h2, by rw [← List.append_assoc]; exact List.mem_append_left _ h3, h4, h5⟩
theorem FactR.snoc {fo th : List Str} {rs : List (List Str)} {w a b : Str} (h : FactR fo th rs) (i : IsF fo th w a b) : FactR fo th (rs ++ [[w, a, b]]) := fun r hr => by
  rcases List.mem_append.mp hr with hr | hr
  · exact h r hr
  · exact ⟨w, a, b, List.mem_singleton.mp hr, i⟩
theorem FactR.ok {fo th : List Str} {rs : List (List Str)} (h : FactR fo th rs) (zok : ∀ z, z ∈ fo ++ th → PyData.strOk z = true) : OkR rs := fun r hr z hz => by
  obtain ⟨w, a, b, rfl, i⟩ := h r hr
  simp at hz
  rcases hz with rfl | rfl | rfl
  · exact wordsOk _ i.1
  · exact zok _ i.2.1
  · exact zok _ i.2.2.1
/-! ### all but the pool and the tables stays -/
def Nx (p : Addr) (H H' : Hp) : Prop := ∀ b u, b ≠ p → H b = some u → (∀ ps, u ≠ .tbl ps) → H' b = some u
theorem Nx.rfl' {p : Addr} {H : Hp} : Nx p H H := fun _ _ _ h _ => h
theorem Nx.trans {p : Addr} {H H1 H2 : Hp} (a : Nx p H H1) (b : Nx p H1 H2) : Nx p H H2 := fun c u n h t => b c u n (a c u n h t) t
theorem Ext.nx {p : Addr} {H H' : Hp} (e : Ext H H') : Nx p H H' := fun b u _ h _ => e b u h
theorem But.nx {p : Addr} {H H' : Hp} (e : But H H' p) : Nx p H H' := fun b u n h _ => e b u n h
theorem ExtN.nx {p : Addr} {H H' : Hp} (e : LamX.ExtN H H') : Nx p H H' := fun b u _ h t => e b u h t
theorem Nx.mu {p : Addr} {H H' : Hp} {xs ys : List V} (e : Nx p H H') (hp : H p = some (.lst xs)) (hp' : H' p = some (.lst ys)) : Mu H H' := fun a u h t => by
  by_cases c : a = p
  · subst c
    rw [hp] at h
    exact .inr ⟨xs, ys, (Option.some.inj h).symm, hp'⟩
  · exact .inl (e a u c h t)
theorem Nx.lst {p : Addr} {H H' : Hp} {a : Addr} {xs : List V} (e : Nx p H H') (n : a ≠ p) (h : H a = some (.lst xs)) : H' a = some (.lst xs) := e a _ n h fun _ z => nomatch z
theorem tabs_but {T : List (Addr × Str)} {H H' : Hp} {p : Addr} {xs : List V} (t : LamX.Tabs T H) (b : But H H' p) (hp : H p = some (.lst xs)) : LamX.Tabs T H' := fun q hq => by
  obtain ⟨ps, h1, h2, h3⟩ := t q hq
  refine ⟨ps, b _ _ (fun e => by rw [e, hp] at h1; cases h1) h1, h2, fun pos cv hc => ?_⟩
  obtain ⟨c, e1, e2⟩ := h3 pos cv hc
  refine ⟨c, e1, b _ _ (fun e => ?_) e2⟩
  rw [e, hp] at e2
  unfold LamX.CodeO at e2
  cases e2
theorem sqL_extN {K : PySem.W.Frag} {H H' : Hp} {a : Addr} {xs : List V} (h : SqL K H a xs) (e : LamX.ExtN H H') : SqL K H' a xs := by
  rcases h with (h | ⟨o, h⟩) | h
  · exact .inl (.inl (e _ _ h fun _ z => nomatch z))
  · exact .inl (.inr ⟨o, e _ _ h fun _ z => nomatch z⟩)
  · exact .inr h
/-- where a turn of the law stands: since HC only the pool and the tables changed -/
structure At (Pt : Addr) (q : Str) (p : Addr) (HC H : Hp) (n : Int) : Prop where
  nx : Nx p HC H
  pl : Pool H p n
  tb : LamX.Tabs [(Pt, q)] H
theorem At.ext {Pt : Addr} {q : Str} {p : Addr} {HC H H' : Hp} {n : Int} (a : At Pt q p HC H n) (e : Ext H H') : At Pt q p HC H' n := ⟨a.nx.trans (Ext.nx e), pool_ext a.pl e, a.tb.ext e⟩
theorem At.but {Pt : Addr} {q : Str} {p : Addr} {HC H H' : Hp} {n m : Int} (a : At Pt q p HC H n) (e : But H H' p) (pl : Pool H' p m) : At Pt q p HC H' m := by
  obtain ⟨y, hy⟩ := a.pl.lst
  exact ⟨a.nx.trans (But.nx e), pl, tabs_but a.tb e hy⟩
theorem At.extN {Pt : Addr} {q : Str} {p : Addr} {HC H H' : Hp} {n : Int} (a : At Pt q p HC H n) (e : LamX.ExtN H H') (t : LamX.Tabs [(Pt, q)] H') : At Pt q p HC H' n := by
  obtain ⟨y, hy⟩ := a.pl.lst
  refine ⟨a.nx.trans (ExtN.nx e), ?_, t⟩
  obtain ⟨x1, x2, x3, h1, h2⟩ := a.pl
  exact ⟨x1, x2, x3, e _ _ h1 (fun _ z => nomatch z), h2⟩
theorem At.mono {Pt : Addr} {q : Str} {p : Addr} {HC H : Hp} {n m : Int} (a : At Pt q p HC H n) (h : n ≤ m) : At Pt q p HC H m := ⟨a.nx, pool_mono a.pl h, a.tb⟩
theorem At.fresh {Pt : Addr} {q : Str} {p : Addr} {HC H : Hp} {n : Int} (a : At Pt q p HC H n) : At Pt q p H H n := ⟨Nx.rfl', a.pl, a.tb⟩
theorem At.mu {Pt : Addr} {q : Str} {p : Addr} {HC H : Hp} {n : Int} (a : At Pt q p HC H n) {xs : List V} (hp : HC p = some (.lst xs)) : Mu HC H := by
  obtain ⟨y, hy⟩ := a.pl.lst
  exact a.nx.mu hp hy
end My

namespace My
open PySem PySem.Spec PyProof.Rows L2
def spFact (K : PySem.W.Frag) : Sp := fun vs H Q _ => ∃ (p lf lt : Addr) (fo th : List Str) (n : Int), vs = [.ref p, .ref lf, .ref lt] ∧ Pool H p n ∧ n < 900000 ∧ H lf = some (.lst (fo.map V.str)) ∧ H lt = some (.lst (th.map V.str)) ∧ lf ≠ p ∧ lt ≠ p ∧ (fo ++ th).Nodup ∧ 1 ≤ fo.length ∧ 2 ≤ (fo ++ th).length ∧ (fo ++ th).length ≤ 7 ∧
  ∀ t w a b H', But H H' p → Pool H' p (n + 3) → H t = none → H' t = some (.tup [.str w, .str a, .str b]) → IsT fo th w a b → Q (.ref t) H'
theorem toldS_line {ns : List Str} {a b : Str} (h : ordS ns a b = [a, b]) : toldS ns "line" a b = [("line" : Str), a, b] := by
  unfold toldS
  rw [if_pos rfl, h]
theorem toldS_other {ns : List Str} {w a b : Str} (h : w ≠ "line") : toldS ns w a b = [w, a, b] := by
  unfold toldS
  rw [if_neg h]
abbrev nm__law_fact : List Str := ["_law_pool_here", "_law_folders", "_law_things", "_law_nodes", "_law_other", "_law_rest", "_law_one", "_law_word", "_law_node"]
theorem sc__law_fact : FnScope nm__law_fact ["_law_pool_here", "_law_folders", "_law_things"] (defScope s__law_fact) := ⟨rfl, rfl, rfl, by decide +kernel, rfl, by decide +kernel, by decide +kernel⟩
section
variable {P : Program} {w : World} {K : PySem.W.Frag} {mg : Str → Option Value} {base : Heap} {f C CB CF : Addr} {fd : FuncData}
theorem ok_fact (Fn : FnP K "_law_fact" s__law_fact f fd) (h_law_take : Has P w K mg base 1 "_law_take" ["_law_pool_here", "_law_many"] spTake) (gB_len : mg "len" = none) : FnOk P w K mg base CX0 2 f fd ["_law_pool_here", "_law_folders", "_law_things"] (spFact K) := by
  refine Fn.ok sc__law_fact (fun vs H Q E h => ?_) (fun cdv A outer s H vs Q E hr h => ⟨_, PSs.nox
    (pss_cons (ps_set (i := 3) sc__law_fact.nd rfl (Or.inl rfl) (pe_op L2.op_cat (pv 1) (pv 2)))
      (pss_cons (ps_set (i := 4) sc__law_fact.nd rfl (Or.inr rfl) (pe_ix ix_list (pv 1) (pe_has h_law_take (hr.mono (by decide)) (pa_cons (pv 0) (pa_cons (pe_callB call_len (by rfl) gB_len boot_len (pa_cons (pv 1) pa_nil)) pa_nil))) (fun _ _ => rfl)))
      (pss_cons (ps_setLc (i := 5) (own := [("_law_node", 8)]) (g := (gName 8)) rfl sc__law_fact.nd rfl rfl (sw_true rfl rfl rfl (by decide +kernel)) (pi_list (pv 3)) (blkOk_by (N := nm__law_fact) (sc := defScope s__law_fact) (by decide +kernel)) (fun _ _ _ _ _ => (pg_name (i := 8) sc__law_fact.nd rfl (Or.inl rfl))) (fun _ _ _ _ _ => pts_one (pt_cmpR op_ne (pv 8) (pv 4) (nomark _))) (fun _ _ _ _ _ => (pv 8)))
      (pss_cons (ps_set (i := 6) sc__law_fact.nd rfl (Or.inl rfl) (pe_ix ix_list (pv 5) (pe_has h_law_take (hr.mono (by decide)) (pa_cons (pv 0) (pa_cons (pe_callB call_len (by rfl) gB_len boot_len (pa_cons (pv 5) pa_nil)) pa_nil))) (fun _ _ => rfl)))
      (pss_cons (ps_set (i := 7) sc__law_fact.nd rfl (Or.inl rfl) (pe_ix ix_list (pe_lst (pa_cons pe_str (pa_cons pe_str (pa_cons pe_str (pa_cons pe_str pa_nil))))) (pe_has h_law_take (hr.mono (by decide)) (pa_cons (pv 0) (pa_cons pe_int pa_nil))) (fun _ _ => rfl)))
      (C8.pss_cut (ps_if (pt_cmpR op_eq (pv 7) pe_str (nomark _)) (pss_one (ps_if (pt_cmpR op_gt (pe_bm PySem.F.plainAttrs_list PySem.F.slot_list_index PySem.F.type_list_index mt_index (pv 3) (pa_cons (pv 6) pa_nil)) (pe_bm PySem.F.plainAttrs_list PySem.F.slot_list_index PySem.F.type_list_index mt_index (pv 3) (pa_cons (pv 4) pa_nil)) (nomark _)) (pss_one (ps_ret (pe_tup (pa_cons (pv 7) (pa_cons (pv 4) (pa_cons (pv 6) pa_nil)))))) pss_nil)) pss_nil)
      (pss_one (ps_ret (pe_tup (pa_cons (pv 7) (pa_cons (pv 6) (pa_cons (pv 4) pa_nil)))))))))))), ?_⟩)
  · obtain ⟨p, lf, lt, fo, th, n, rfl, _⟩ := h
    rfl
  · obtain ⟨p, lf, lt, fo, th, n, rfl, hp, hn, hf, ht, nfp, ntp, nd, f1, n2, n7, q⟩ := h
    have lm : ∀ zs : List Str, (zs.map V.str).length = zs.length := fun zs => List.length_map _
    have f7 : fo.length ≤ 7 := by
      rw [List.length_append] at n7
      omega
    refine ⟨_, rfl, _, rfl, lf, lt, _, _, rfl, rfl, hf, ht, by rw [lm, lm, sizeLine_eq, ← List.length_append]; omega, fun ln hln => ?_⟩
    obtain ⟨H1, hH1⟩ : ∃ H1, H1 = upd H ln (.lst (fo.map V.str ++ th.map V.str)) := ⟨_, rfl⟩
    rw [← hH1]
    have x1 : Ext H H1 := by
      rw [hH1]
      exact Ext.upd hln
    have n1 : H1 ln = some (.lst ((fo ++ th).map V.str)) := by rw [hH1, upd_same, List.map_append]
    have nln : ln ≠ p := pool_ne hp hln
    have p1 := pool_ext hp x1
    refine ⟨_, rfl, _, rfl, _, rfl, _, _, rfl, .inl ⟨_, SqL.of (x1 _ _ hf), rfl⟩, p, _, n, rfl, by rw [lm]; omega, by rw [lm]; omega, p1, by omega, fun r1 o1 r10 r11 gp => ?_⟩
    obtain ⟨r1, rfl⟩ := Int.eq_ofNat_of_zero_le r10
    rw [lm] at r11
    have r1' : r1 < fo.length := by omega
    obtain ⟨H2, hH2⟩ : ∃ H2, H2 = upd H1 p o1 := ⟨_, rfl⟩
    rw [← hH2] at gp ⊢
    have b2 : But H H2 p := by
      rw [hH2]
      exact But.upd (ext_but x1)
    have k2 : ∀ b u, b ≠ p → H1 b = some u → H2 b = some u := fun b u hb e => by rw [hH2, upd_ne hb]; exact e
    have hf2 := k2 _ _ nfp (x1 _ _ hf)
    have n2' := k2 _ _ nln n1
    obtain ⟨ot, hot⟩ : ∃ ot, ot = fo[r1] := ⟨_, rfl⟩
    refine ⟨lf, _, _, .str ot, rfl, rfl, SqL.of hf2, atI_nat (by rw [List.getElem?_map, List.getElem?_eq_getElem r1', hot]; rfl), ?_⟩
    have mo : ot ∈ fo := by rw [hot]; exact List.getElem_mem r1'
    refine ⟨_, rfl, ln, rfl, ⟨_, SqL.of n2'⟩, fun D hD => ?_⟩
    refine lc_list (K := K) (a := ln) (xs := (fo ++ th).map V.str) (fun k H' => Ext H2 H' ∧ H' D = some (.lst ((((fo ++ th).take k).filter fun z => !decide (z = ot)).map V.str))) ⟨Ext.upd hD, upd_same⟩ (fun k H' _ z => SqL.of (z.1 _ _ n2')) ?_ ?_
    · intro k v H4 hv ⟨x4, d4⟩
      obtain ⟨z, hz, rfl⟩ := strs_at hv
      have tk : (fo ++ th).take (k + 1) = (fo ++ th).take k ++ [z] := by
        rw [List.take_add_one, hz]
        rfl
      have k6 : k < 7 := by
        have := (List.getElem?_eq_some_iff.mp hz).1
        omega
      rw [tk]
      refine ⟨rfl, _, rfl, _, rfl, rfl, _, rfl, ?_⟩
      have ee : decide (V.str z = V.str ot) = decide (z = ot) := by
        by_cases e : z = ot
        · rw [e, decide_eq_true rfl, decide_eq_true rfl]
        · rw [decide_eq_false e, decide_eq_false fun h => e (by injection h)]
      refine ite2 (fun c => ?_) fun c => ?_
      · rw [ee] at c
        refine ⟨_, rfl, _, d4, ?_, x4.over hD, ?_⟩
        · rw [List.length_map]
          refine Nat.lt_of_le_of_lt (List.length_filter_le _ _) ?_
          rw [List.length_take, sizeLine_eq]
          omega
        · rw [upd_same, List.filter_append, List.filter_cons, if_pos c, List.map_append]
          rfl
      · rw [ee] at c
        refine ⟨x4, ?_⟩
        rw [d4, List.filter_append, List.filter_cons, if_neg c, List.filter_nil, List.append_nil]
    · intro H4 ⟨x4, d4⟩
      rw [lm, List.take_length] at d4
      obtain ⟨rest, hrest⟩ : ∃ rest, rest = (fo ++ th).filter fun z => !decide (z = ot) := ⟨_, rfl⟩
      rw [← hrest] at d4
      have rlen : rest.length ≤ 7 := by
        rw [hrest]
        exact Nat.le_trans (List.length_filter_le _ _) n7
      have rmem : ∀ z, z ∈ rest → z ∈ fo ++ th ∧ z ≠ ot := fun z hz => by
        rw [hrest] at hz
        obtain ⟨h1, h2⟩ := List.mem_filter.mp hz
        exact ⟨h1, fun e => by simp [e] at h2⟩
      have rpos : 0 < rest.length := by
        cases hh : rest with
        | cons z zs => exact Nat.succ_pos _
        | nil =>
          exfalso
          have all : ∀ z, z ∈ fo ++ th → z = ot := fun z hz => by
            by_cases e : z = ot
            · exact e
            · have : z ∈ rest := by
                rw [hrest]
                exact List.mem_filter.mpr ⟨hz, by simp [e]⟩
              rw [hh] at this
              cases this
          have h0 : 0 < (fo ++ th).length := by omega
          have h1 : 1 < (fo ++ th).length := by omega
          have e0 := all _ (List.getElem_mem h0)
          have e1 := all _ (List.getElem_mem h1)
          have := (List.getElem_inj nd).mp (e0.trans e1.symm)
          omega
      have p4 := pool_ext gp x4
      have nDp : D ≠ p := pool_ne gp hD
      have n4 := x4 _ _ n2'
      refine ⟨_, rfl, _, rfl, _, rfl, _, _, rfl, .inl ⟨_, SqL.of d4, rfl⟩, p, _, _, rfl, by rw [lm]; omega, by rw [lm]; omega, p4, by omega, fun r2 o2 r20 r21 gp2 => ?_⟩
      obtain ⟨r2, rfl⟩ := Int.eq_ofNat_of_zero_le r20
      rw [lm] at r21
      have r2' : r2 < rest.length := by omega
      obtain ⟨H5, hH5⟩ : ∃ H5, H5 = upd H4 p o2 := ⟨_, rfl⟩
      rw [← hH5] at gp2 ⊢
      have k5 : ∀ b u, b ≠ p → H4 b = some u → H5 b = some u := fun b u hb e => by rw [hH5, upd_ne hb]; exact e
      have b5 : But H H5 p := fun b u hb e => k5 b u hb (x4 _ _ (b2 b u hb e))
      have d5 := k5 _ _ nDp d4
      have n5 := k5 _ _ nln n4
      obtain ⟨on, hon⟩ : ∃ on, on = rest[r2] := ⟨_, rfl⟩
      refine ⟨D, _, _, .str on, rfl, rfl, SqL.of d5, atI_nat (by rw [List.getElem?_map, List.getElem?_eq_getElem r2', hon]; rfl), ?_⟩
      obtain ⟨mon, nno⟩ := rmem on (by rw [hon]; exact List.getElem_mem r2')
      refine ⟨Nat.le_of_ble_eq_true rfl, fun l6 hl6 => ⟨_, rfl, p, 4, _, rfl, by decide, by decide, pool_ext gp2 (Ext.upd hl6), by omega, fun r3 o3 r30 r31 gp3 => ?_⟩⟩
      obtain ⟨r3, rfl⟩ := Int.eq_ofNat_of_zero_le r30
      obtain ⟨H6, hH6⟩ : ∃ H6, H6 = upd (upd H5 l6 (.lst [.str "below", .str "below", .str "not", .str "line"])) p o3 := ⟨_, rfl⟩
      rw [← hH6] at gp3 ⊢
      have n6p : l6 ≠ p := pool_ne gp2 hl6
      have l66 : H6 l6 = some (.lst [.str "below", .str "below", .str "not", .str "line"]) := by rw [hH6, upd_ne n6p, upd_same]
      have k6 : ∀ b u, b ≠ p → H5 b = some u → H6 b = some u := fun b u hb e => by
        rw [hH6, upd_ne hb]
        exact Ext.upd hl6 _ _ e
      have b6 : But H H6 p := fun b u hb e => k6 b u hb (b5 b u hb e)
      have n6 := k6 _ _ nln n5
      have none6 : ∀ t, H6 t = none → H t = none := fun t h => by
        cases hh : H t with
        | none => rfl
        | some u =>
          by_cases e : t = p
          · obtain ⟨y, hy⟩ := gp3.lst
            rw [e, hy] at h
            cases h
          · rw [b6 t u e hh] at h
            cases h
      obtain ⟨wd, hwd, hw⟩ : ∃ wd : Str, atI ([.str "below", .str "below", .str "not", .str "line"] : List V) (r3 : Int) = some (.str wd) ∧ (wd = "below" ∨ wd = "not" ∨ wd = "line") := by
        match r3, r31 with
        | 0, _ => exact ⟨_, rfl, .inl rfl⟩
        | 1, _ => exact ⟨_, rfl, .inl rfl⟩
        | 2, _ => exact ⟨_, rfl, .inr (.inl rfl)⟩
        | 3, _ => exact ⟨_, rfl, .inr (.inr rfl)⟩
        | n + 4, h => exact absurd h (by omega)
      refine ⟨l6, _, _, .str wd, rfl, rfl, SqL.of l66, hwd, ?_⟩
      have mow : ot ∈ fo ++ th := List.mem_append_left _ mo
      refine ⟨fun σ' H' => H' = H6 ∧ σ' = [some (.ref p), some (.ref lf), some (.ref lt), some (.ref ln), some (.str ot), some (.ref D), some (.str on), some (.str wd), none] ∧ (wd = "line" → ordS (fo ++ th) on ot = [on, ot]), ?_, ?_⟩
      · obtain ⟨i, hi⟩ := List.mem_iff_getElem?.mp mon
        obtain ⟨j, hj⟩ := List.mem_iff_getElem?.mp mow
        have ij : i ≠ j := fun e => nno (by
          subst e
          rw [hi] at hj
          injection hj)
        refine ⟨_, rfl, rfl, _, rfl, ?_⟩
        refine ite2 (fun c => ?_) fun c => ⟨rfl, rfl, fun e => absurd (decide_eq_true (by rw [e])) c⟩
        have e' : wd = "line" := by
          have z := of_decide_eq_true c
          injection z
        subst e'
        refine ⟨_, rfl, .inl ⟨rfl, _, .inl (.inl n6)⟩, _, rfl, ln, _, _, i, .str on, rfl, rfl, SqL.of n6, rfl, flat_strs _, by rw [List.getElem?_map, hi]; rfl, beq_self_eq_true on, strs_idx nd hi, ?_⟩
        refine ⟨_, rfl, .inl ⟨rfl, _, .inl (.inl n6)⟩, _, rfl, ln, _, _, j, .str ot, rfl, rfl, SqL.of n6, rfl, flat_strs _, by rw [List.getElem?_map, hj]; rfl, beq_self_eq_true ot, strs_idx nd hj, ?_⟩
        refine ⟨_, _, rfl, rfl, _, rfl, ?_⟩
        refine ite2 (fun c => ?_) fun c => ?_
        · have c' : j < i := by
            have := of_decide_eq_true c
            omega
          have oo := ord_lt nd hj hi c'
          exact ⟨_, rfl, _, rfl, _, rfl, Nat.le_of_ble_eq_true rfl, fun t ht => q t "line" ot on _ (b6.ext (Ext.upd ht)) (pool_mono (pool_ext gp3 (Ext.upd ht)) (by omega)) (none6 t ht) upd_same ⟨⟨by decide, mow, mon, fun e => nno e.symm, .inl rfl⟩, toldS_line oo⟩⟩
        · have c' : i < j := by
            have : ¬ ((i : Int) > j) := fun z => c (decide_eq_true z)
            omega
          exact ⟨rfl, rfl, fun _ => ord_lt nd hi hj c'⟩
      · rintro σ' H' ⟨rfl, rfl, ho⟩
        refine ⟨_, rfl, _, rfl, _, rfl, Nat.le_of_ble_eq_true rfl, fun t ht => q t wd on ot _ (b6.ext (Ext.upd ht)) (pool_mono (pool_ext gp3 (Ext.upd ht)) (by omega)) (none6 t ht) upd_same ?_⟩
        have hwm : wd ∈ wordsS := by rcases hw with rfl | rfl | rfl <;> decide
        refine ⟨⟨hwm, mon, mow, nno, .inr mo⟩, ?_⟩
        by_cases e : wd = "line"
        · subst e
          exact toldS_line (ho rfl)
        · exact toldS_other e
end
end My

namespace My
open PySem PySem.Spec PyProof.Rows L2
theorem sp_eq : (" " : Str) = sp1 := by decide +kernel
theorem nl_eq : ("\n" : Str) = nl1 := by decide +kernel
theorem em_eq : ("" : Str) = ⟨#[]⟩ := by decide +kernel
/-! ### what a text splits into -/
def wds (l : Str) : List Str := Txt.split l sp1
def lns (t : Str) : List Str := Txt.split t nl1
theorem join_eqlen {c : Nat} : ∀ {zs : List Str}, zs ≠ [] → (Str.join ⟨#[c]⟩ zs).length + 1 = (zs.map (·.length)).sum + zs.length
  | [], h => absurd rfl h
  | [a], _ => by
    show a.length + 1 = ([a.length].sum) + 1
    simp
  | a :: b :: r, _ => by
    have ih := join_eqlen (c := c) (zs := b :: r) (List.cons_ne_nil _ _)
    rw [join_two, app_len, app_len, List.map_cons, List.sum_cons, List.length_cons]
    have : (⟨#[c]⟩ : Str).length = 1 := rfl
    omega
theorem split_ne (a : Str) (c : Nat) : Txt.split a ⟨#[c]⟩ ≠ [] := fun e => by
  have := PyProof.Rows.split_pos a ⟨#[c]⟩
  rw [e] at this
  exact absurd this (by decide)
theorem split_join' (a : Str) (c : Nat) : Str.join ⟨#[c]⟩ (Txt.split a ⟨#[c]⟩) = a := PySem.StrLaws.join_split _ _
theorem mem_sum {zs : List Str} {z : Str} (h : z ∈ zs) : z.length ≤ (zs.map (·.length)).sum := by
  induction zs with
  | nil => cases h
  | cons a r ih =>
    rw [List.map_cons, List.sum_cons]
    rcases List.mem_cons.mp h with rfl | h
    · omega
    · have := ih h
      omega
theorem split_sz (a : Str) (c : Nat) : (Txt.split a ⟨#[c]⟩).length ≤ a.length + 1 ∧ ∀ z, z ∈ Txt.split a ⟨#[c]⟩ → z.length ≤ a.length := by
  have h := join_eqlen (c := c) (split_ne a c)
  rw [split_join'] at h
  have hp : 1 ≤ (Txt.split a ⟨#[c]⟩).length := PyProof.Rows.split_pos a ⟨#[c]⟩
  refine ⟨by omega, fun z hz => ?_⟩
  have := mem_sum hz
  omega
theorem wds_inj {a b : Str} (h : wds a = wds b) : a = b := by
  have := congrArg (Str.join ⟨#[32]⟩) h
  unfold wds at this
  rwa [show sp1 = ⟨#[32]⟩ from rfl, split_join', split_join'] at this
theorem wds_cons (l : Str) : ∃ h t, wds l = h :: t := by
  cases e : wds l with
  | nil => exact absurd e (split_ne l 32)
  | cons h t => exact ⟨h, t, rfl⟩
/-! ### what can stand -/
def newB (zs : List Str) : Bool := decide (wrongOf (zs.map V.str) = none)
def hdW (l : Str) : Str := (wds l).headD ⟨#[]⟩
def tlW (l : Str) : List Str := (wds l).tail
def foB (l : Str) : Bool := decide (hdW l = "folders") && (decide (tlW l ≠ []) && newB (tlW l))
def thB (l m : Str) : Bool := decide (hdW m = "things") && newB (tlW l ++ tlW m)
/-- what a line tells -/
def rowW (l : Str) : List Str := turnR (wds l)
def facLB (fo th : List Str) (before : List Str) (l : Str) : Bool := match wds l with
  | [a, w, b] => factB fo th (.str w) (.str a) (.str b) && (decide (toldS (fo ++ th) w a b = [w, a, b]) && !decide (l ∈ before))
  | _ => false
def standB : List Str → Nat → Bool
  | l :: _, 0 => foB l
  | l :: m :: _, 1 => thB l m
  | l :: m :: r, k + 2 => facLB (tlW l) (tlW m) (r.take k) ((r[k]?).getD ⟨#[]⟩)
  | _, _ => false
def firstB (bs : List Str) : Option Nat := (List.range bs.length).find? fun i => !standB bs i
/-- the number of the line that is refused -/
def dueB (bs : List Str) (r : Str) : Option Nat := match firstB bs with
  | some i => some (i + 1)
  | none => if r = ⟨#[]⟩ ∧ 2 ≤ bs.length then none else some (bs.length + 1)
def dueT (t : Str) : Option Nat := dueB (lns t).dropLast ((lns t).getLastD ⟨#[]⟩)
theorem first_at {bs : List Str} {i : Nat} (hi : i < bs.length) (h : standB bs i = false) (ok : ∀ j, j < i → standB bs j = true) : firstB bs = some i :=
  List.find?_range_eq_some.mpr ⟨by rw [h]; rfl, List.mem_range.mpr hi, fun j hj => by rw [ok j hj]; rfl⟩
theorem first_no {bs : List Str} (ok : ∀ j, j < bs.length → standB bs j = true) : firstB bs = none := List.find?_range_eq_none.mpr fun j hj => by rw [ok j hj]; rfl
theorem due_at {bs : List Str} {r : Str} {i : Nat} (hi : i < bs.length) (h : standB bs i = false) (ok : ∀ j, j < i → standB bs j = true) : dueB bs r = some (i + 1) := by
  unfold dueB
  rw [first_at hi h ok]
theorem due_end {bs : List Str} {r : Str} (ok : ∀ j, j < bs.length → standB bs j = true) (n : ¬ (r = ⟨#[]⟩ ∧ 2 ≤ bs.length)) : dueB bs r = some (bs.length + 1) := by
  unfold dueB
  rw [first_no ok]
  exact if_neg n
theorem due_no {bs : List Str} {r : Str} (ok : ∀ j, j < bs.length → standB bs j = true) (n : r = ⟨#[]⟩ ∧ 2 ≤ bs.length) : dueB bs r = none := by
  unfold dueB
  rw [first_no ok]
  exact if_pos n
theorem lns_split (t : Str) : lns t = (lns t).dropLast ++ [(lns t).getLastD ⟨#[]⟩] := by
  have h : lns t ≠ [] := split_ne t 10
  conv => lhs; rw [← List.dropLast_concat_getLast h]
  rw [List.getLastD_eq_getLast?, List.getLast?_eq_getLast h]
  rfl
theorem wrong_names {zs : List Str} (h : wrongOf (zs.map V.str) = none) : zs.Nodup ∧ ∀ z, z ∈ zs → nameB z = true := by
  have h := List.find?_range_eq_none.mp h
  rw [List.length_map] at h
  have at_ : ∀ i (hi : i < zs.length), nameB zs[i] = true ∧ zs[i] ∉ zs.take i := fun i hi => by
    have := h i hi
    unfold badAt at this
    rw [List.getElem?_map, List.getElem?_eq_getElem hi] at this
    have this : (!(!nameB zs[i] || inV (.str zs[i]) ((zs.map V.str).take i))) = true := this
    rw [← List.map_take, inV_str] at this
    simp at this
    exact this
  refine ⟨?_, fun z hz => ?_⟩
  · refine List.pairwise_iff_getElem.mpr fun i j hi hj hij e => ?_
    refine (at_ j hj).2 ?_
    rw [← e]
    exact List.mem_iff_getElem?.mpr ⟨i, by rw [List.getElem?_take, if_pos hij, List.getElem?_eq_getElem hi]⟩
  · obtain ⟨i, hi⟩ := List.mem_iff_getElem?.mp hz
    have il := (List.getElem?_eq_some_iff.mp hi).1
    have := (at_ i il).1
    rw [List.getElem?_eq_getElem il] at hi
    injection hi with hi
    rw [← hi]
    exact this
theorem name_ok {z : Str} (h : nameB z = true) : PyData.strOk z = true := by
  obtain ⟨h1, h2⟩ := Bool.and_eq_true_iff.mp h
  obtain ⟨h2, h3⟩ := Bool.and_eq_true_iff.mp h2
  have hs : ∀ c, c ∈ z.cps.toList → c ∈ letters.cps.toList := fun c hc => by
    have := List.all_eq_true.mp h3 (decide (c ∈ letters.cps.toList)) (List.mem_map.mpr ⟨c, hc, rfl⟩)
    exact of_decide_eq_true this
  have lt : ∀ c, c ∈ letters.cps.toList → c < 0x110000 := by decide +kernel
  show z.cps.all (· < 0x110000) = true
  rw [← Array.all_toList, List.all_eq_true]
  exact fun c hc => decide_eq_true (lt c (hs c hc))
theorem part_none {x y : List Str} : partOf (some (x.map V.str)) (some (y.map V.str)) = none ↔ x ≠ [] ∧ newB (x ++ y) = true := by
  show (if (x.map V.str).length = 0 then some 0 else wrongOf (x.map V.str ++ y.map V.str)) = none ↔ _
  rw [List.length_map, ← List.map_append]
  unfold newB
  rw [decide_eq_true_iff]
  by_cases e : x = []
  · subst e
    simp
  · rw [if_neg fun z => e (List.length_eq_zero_iff.mp z)]
    exact ⟨fun h => ⟨e, h⟩, fun h => h.2⟩
theorem part_noneB (x y : List Str) : decide (partOf (some (x.map V.str)) (some (y.map V.str)) = none) = (decide (x ≠ []) && newB (x ++ y)) := by
  rw [Bool.eq_iff_iff, decide_eq_true_iff, part_none, Bool.and_eq_true, decide_eq_true_iff]
end My

namespace My
open PySem PySem.Spec PyProof.Rows L2
theorem pa_starK {X : Cx} {K : PySem.W.Frag} {e : Expr} {es : List Expr} {te : TE} {t : TA} {p : Pos} (hK : X.K = K) (he : PE X e te) (hr : PA X es t) (hs : starEach (.Starred e p :: es) X.env = (true, eval e X.env) :: starEach es X.env := by rfl) : PA X (.Starred e p :: es) (StX.tStar K te t) := pa_starZ hK he hr hs
/-- + of facts -/
structure AddTxt (P : Program) (w : World) (K : PySem.W.Frag) (mg : Str → Option Value) (CF C CE : Addr) where
  fA : Addr
  fdA : FuncData
  mA : AddM K CF fA
  A : ∀ base, FnOk P w K mg base (L2.CX P w) 9 fA fdA ["self", "other"] (spFAdd K CF C CE)
  bA : Binds K fdA ["self", "other"] []
  add : ∀ T, T ∈ ["NoneType", "list", "tuple", "int", "str"] → PySem.W.AddT K CF "add" (.type T)
abbrev nm_house_of : List Str := ["lines", "parts", "at", "line", "word", "names"]
theorem sc_house_of : FnScope nm_house_of ["lines"] (defScope s_house_of) := ⟨rfl, rfl, rfl, by decide +kernel, rfl, by decide +kernel, by decide +kernel⟩
abbrev nm_fact_of : List Str := ["line", "words"]
theorem sc_fact_of : FnScope nm_fact_of ["line"] (defScope s_fact_of) := ⟨rfl, rfl, rfl, by decide +kernel, rfl, by decide +kernel, by decide +kernel⟩
abbrev nm_read : List Str := ["text", "lines", "rest", "house", "facts", "at", "line", "fact"]
theorem sc_read : FnScope nm_read ["text"] (defScope s_read) := ⟨rfl, rfl, rfl, by decide +kernel, rfl, by decide +kernel, by decide +kernel⟩
theorem star_head1 (z : V) (zs : List V) (D : Addr) : (z :: zs).take 1 ++ [V.ref D] ++ ((z :: zs).drop 1).drop ((z :: zs).length + 1 - 2) = [z, .ref D] := by
  show [z, V.ref D] ++ zs.drop (zs.length + 1 + 1 - 2) = _
  rw [List.drop_eq_nil_of_le (by omega)]
  rfl
theorem star_head2 (z : V) (zs : List V) : ((z :: zs).drop 1).take ((z :: zs).length + 1 - 2) = zs := by
  show zs.take (zs.length + 1 + 1 - 2) = _
  exact List.take_of_length_le (by omega)
theorem star_last1 (zs : List V) (z : V) (D : Addr) : (zs ++ [z]).take 0 ++ [V.ref D] ++ ((zs ++ [z]).drop 0).drop ((zs ++ [z]).length + 1 - 2) = [.ref D, z] := by
  show [V.ref D] ++ (zs ++ [z]).drop ((zs ++ [z]).length + 1 - 2) = _
  rw [List.length_append, show zs.length + [z].length + 1 - 2 = zs.length from rfl, List.drop_left]
  rfl
theorem star_last2 (zs : List V) (z : V) : ((zs ++ [z]).drop 0).take ((zs ++ [z]).length + 1 - 2) = zs := by
  show (zs ++ [z]).take ((zs ++ [z]).length + 1 - 2) = _
  rw [List.length_append, show zs.length + [z].length + 1 - 2 = zs.length from rfl, List.take_left]
theorem cut_two {xs : List V} : cutV xs none (some 2) = xs.take 2 := cutV_takeA (k := 2)
theorem nok_things {K : PySem.W.Frag} {H : Hp} {zs : List Str} (h : ∀ z, z ∈ zs → z.length ≤ sizeLine) : ∀ y ∈ zs.map V.str, Thing K H y := fun y hy => by
  obtain ⟨z, hz, rfl⟩ := List.mem_map.mp hy
  exact .inl ⟨z, rfl, h z hz⟩
theorem not_before {rows : List (List Str)} {i : Nat} {r : List Str} (nd : rows.Nodup) (h : rows[i]? = some r) : r ∉ rows.take i := fun m => by
  obtain ⟨j, hj⟩ := List.mem_iff_getElem?.mp m
  have jl := (List.getElem?_eq_some_iff.mp hj).1
  rw [List.length_take] at jl
  have il := (List.getElem?_eq_some_iff.mp h).1
  rw [List.getElem?_take] at hj
  rw [if_pos (by omega)] at hj
  have := (List.getElem?_inj (by omega : j < rows.length) nd).mp (hj.trans h.symm)
  omega
/-- a def that may raise -/
def HasX (P : Program) (w : World) (K : PySem.W.Frag) (mg : Str → Option Value) (base : Heap) (k : Nat) (x : Str) (ps : List Str) (sp : Sp) : Prop :=
  ∃ (f : Addr) (fd : FuncData), FnOk P w K mg base (L2.CX P w) k f fd ps sp ∧ mg x = some (.ref f) ∧ PySem.W.keepIn K (.ref f) = true ∧ Binds K fd ps []
theorem pe_hasX {X : Cx} {k : Nat} {x : Str} {ps : List Str} {sp : Sp} {E : XK} {e : Expr} {es : List Expr} {t : TA} {p pos : Pos} (h : HasX X.prog X.w X.K X.mg X.base k x ps sp) (hr : Room k X.A) (ha : PA X (e :: es) t) (hx : Passes (L2.CX X.prog X.w) X E) (hg : Gl X x := by rfl)
    (hdb : (x == ("__debug__" : Str)) = false := by decide) (h1 : starEach (e :: es) X.env = (false, eval e X.env) :: starEach es X.env := by rfl) (h2 : (backTo pos (starEach es X.env)).any (·.1) = false := by rfl) :
    PE X (.Call (.Name x p) (e :: es) [] pos) (tCall sp [] E t) := by
  obtain ⟨f, fd, F, m, kp, b⟩ := h
  exact pe_call F hr hg m kp b .nil hx ha hdb h1 h2
def Er1 (CX : Addr) (n : Nat) (H : Hp) (E : XK) : Prop := ∀ d H', Ext H H' → H d = none → H' d = some (.xd [(("line" : Str), V.int (n : Nat))]) → E (.ref CX) (some d) H'
theorem raise_in {f : Str} {CI : Addr} {σ : L2.St} {H H3 : Hp} {y : V} {E : XK} (x3 : Ext H H3) (q : ∀ d H', Ext H H' → H d = none → H' d = some (.xd [(f, y)]) → E (.ref CI) (some d) H') :
    tMkO CI (spInit CI f) [] (fun _ H Q => Q [y] H) σ H3 fun cls d H' => E cls d H' := by
  obtain ⟨x, hx, hh⟩ := raise_at (σ := [some y]) (i := 0) (E := E) rfl x3 q
  cases hx
  exact hh
/-- where house_of refuses -/
def HouE (ls : List Str) (n : Nat) : Prop := (∃ i, i < 2 ∧ i < ls.length ∧ n = i + 1 ∧ standB ls i = false ∧ ∀ j, j < i → standB ls j = true) ∨ (ls.length < 2 ∧ n = ls.length + 1 ∧ ∀ j, j < ls.length → standB ls j = true)
theorem hou_due {ls : List Str} {n : Nat} {r : Str} (h : HouE ls n) : dueB ls r = some n := by
  rcases h with ⟨i, _, h1, rfl, h2, h3⟩ | ⟨h1, rfl, h2⟩
  · exact due_at h1 h2 h3
  · exact due_end h2 fun z => by omega
def spHouseG (K : PySem.W.Frag) (C CX : Addr) : Sp := fun vs H Q E => ∃ l ls, vs = [.ref l] ∧ H l = some (.lst (ls.map V.str)) ∧ (∀ z, z ∈ ls → z.length ≤ 1000) ∧ (∀ n, HouE ls n → Er1 CX n H E) ∧
  ∀ a b r, ls = a :: b :: r → foB a = true → thB a b = true → ∀ h H', Ext H H' → Hou H' K C h (tlW a) (tlW b) → Q (.ref h) H'
def spFactG (K : PySem.W.Frag) : Sp := fun vs H Q _ => ∃ l, vs = [.str l] ∧ l.length ≤ 1000 ∧ (∀ a w b, wds l = [a, w, b] → ∀ t H', Ext H H' → H' t = some (.tup [.str w, .str a, .str b]) → Q (.ref t) H') ∧ ((wds l).length ≠ 3 → ∀ H', Ext H H' → Q .non H')
def spReadG (K : PySem.W.Frag) (CF C CX : Addr) : Sp := fun vs H Q E => ∃ t, vs = [.str t] ∧ t.length ≤ 450 ∧ (∀ n, dueT t = some n → Er1 CX n H E) ∧ (dueT t = none → ∀ f H' fo th rows, Ext H H' → FacAt H' K CF C f fo th rows → Q (.ref f) H')
section
variable {P : Program} {w : World} {K : PySem.W.Frag} {mg : Str → Option Value} {base : Heap} {f C CB CF CE CX aH : Addr} {fd : FuncData}
theorem ok_houseOf (Fn : FnP K "house_of" s_house_of f fd) (Z : HouseTxt P w K mg C CB) (EX : Er P w K mg base "BadText" "line" CX) (hwrong_part : Has P w K mg base 3 "wrong_part" ["folders", "things"] (spWrongPart K)) (gHe : mg "HEADS" = some (.ref aH)) (tH : ∀ H, SqT K H aH [.str "folders", .str "things"]) (gB_enumerate : mg "enumerate" = none) (gB_len : mg "len" = none) : FnOk P w K mg base (L2.CX P w) 6 f fd ["lines"] (spHouseG K C CX) := by
  obtain ⟨fI, fdI, TB, FB, bB, _⟩ := EX
  refine Fn.ok sc_house_of (fun vs H Q E h => ?_) (fun cdv A outer s H vs Q E hr h => ⟨_,
    (pss_cons (ps_set (i := 1) sc_house_of.nd rfl (Or.inl rfl) (pe_lst (pa_cons (pe_tup pa_nil) (pa_cons (pe_tup pa_nil) pa_nil))))
      (pss_cons (ps_for (passes_of rfl) rfl (pi_enumS (by rfl) gB_enumerate (pa_cons (pe_slice sl_list (pv 0) po_none (po_some pe_int)) pa_nil)) (pg_tup rfl (pgs_cons (pg_name (i := 2) sc_house_of.nd rfl (Or.inl rfl)) (pgs_cons (pg_name (i := 3) sc_house_of.nd rfl (Or.inl rfl)) pgs_nil)))
      (pss_cons (ps_asg (pe_split (pv 3) pe_str) (pg_starL (n := 2) (i := 1) rfl (pgs_cons (pg_name (i := 4) sc_house_of.nd rfl (Or.inl rfl)) (pgs_star (pg_name (i := 5) sc_house_of.nd rfl (Or.inl rfl)) pgs_nil))))
      (pss_cons (ps_asg (pv 5) (pg_sub (pv 1) (pv 2) set_list))
      (pss_one (ps_if (PW.pt (pw_or (pt_cmpR op_ne (pv 4) (pe_ix ix_tup (pe_glob (v := .ref aH) (by rfl) gHe rfl) (pv 2) (fun _ _ => rfl)) (nomark _)) (pw_or1 (pt_cmpR op_notN (pe_has hwrong_part (hr.mono (by decide)) (pa_cons (pe_ix ix_list (pv 1) pe_int (fun _ _ => rfl)) (pa_cons (pe_ix ix_list (pv 1) pe_int (fun _ _ => rfl)) pa_nil))) pe_non (nomark _))))) (pss_one (ps_raise rfl (takes_of rfl rfl rfl rfl) (pmk_oex TB.oex TB.iC TB.tI FB (hr.mono (by decide)) bB .nil pass0 (by rfl) TB.gl (pa_cons (pe_op op_add (pv 2) pe_int) pa_nil)))) pss_nil)))))
      (pss_cons (ps_if (pt_cmpR op_lt (pe_callB call_len (by rfl) gB_len boot_len (pa_cons (pv 0) pa_nil)) pe_int (nomark _)) (pss_one (ps_raise rfl (takes_of rfl rfl rfl rfl) (pmk_oex TB.oex TB.iC TB.tI FB (hr.mono (by decide)) bB .nil pass0 (by rfl) TB.gl (pa_cons (pe_op op_add (pe_callB call_len (by rfl) gB_len boot_len (pa_cons (pv 0) pa_nil)) pe_int) pa_nil)))) pss_nil)
      (pss_one (ps_ret (pe_makeZ1 Z.M ((Z.I _).raw Z.bI .nil) (hr.mono (by decide)) (by rfl) Z.gH passL (pv 1))))))), ?_⟩)
  · obtain ⟨l, ls, rfl, _⟩ := h
    rfl
  · obtain ⟨l, ls, rfl, hl, lz, qE, q⟩ := h
    refine ⟨by show 0 ≤ sizeLine; exact Nat.zero_le _, fun e1 he1 => ?_⟩
    obtain ⟨H1, hH1⟩ : ∃ H1, H1 = L2.upd H e1 (.tup []) := ⟨_, rfl⟩
    have xH1 : Ext H H1 := by
      rw [hH1]
      exact Ext.upd he1
    have nH1 : H1 e1 = some (.tup []) := by rw [hH1, upd_same]
    rw [← hH1]
    clear hH1
    refine ⟨by show 0 ≤ sizeLine; exact Nat.zero_le _, fun e2 he2 => ?_⟩
    obtain ⟨H2, hH2⟩ : ∃ H2, H2 = L2.upd H1 e2 (.tup []) := ⟨_, rfl⟩
    have xH2 : Ext H1 H2 := by
      rw [hH2]
      exact Ext.upd he2
    have nH2 : H2 e2 = some (.tup []) := by rw [hH2, upd_same]
    rw [← hH2]
    clear hH2
    refine ⟨by show 2 ≤ sizeLine; rw [sizeLine_eq]; decide, fun p hp => ?_⟩
    obtain ⟨H3, hH3⟩ : ∃ H3, H3 = L2.upd H2 p (.lst [.ref e1, .ref e2]) := ⟨_, rfl⟩
    have xH3 : Ext H2 H3 := by
      rw [hH3]
      exact Ext.upd hp
    have nH3 : H3 p = some (.lst [.ref e1, .ref e2]) := by rw [hH3, upd_same]
    rw [← hH3]
    clear hH3
    have x03 := xH1.trans (xH2.trans xH3)
    have hpH : H p = none := ext_none (xH1.trans xH2) hp
    show tSeq _ _ _ [some (.ref l), some (.ref p), none, none, none, none] _
    refine ⟨_, rfl, _, rfl, l, _, rfl, SqL.of (x03 _ _ hl), fun s0 hs0 => ?_⟩
    rw [cut_two, ← List.map_take]
    obtain ⟨H4, hH4⟩ : ∃ H4, H4 = L2.upd H3 s0 (.lst ((ls.take 2).map V.str)) := ⟨_, rfl⟩
    have xH4 : Ext H3 H4 := by
      rw [hH4]
      exact Ext.upd hs0
    have nH4 : H4 s0 = some (.lst ((ls.take 2).map V.str)) := by rw [hH4, upd_same]
    rw [← hH4]
    clear hH4
    have hsH : H s0 = none := ext_none x03 hs0
    have psn : s0 ≠ p := fun e => by rw [e, nH3] at hs0; cases hs0
    refine ⟨s0, (ls.take 2).map V.str, rfl, .inl ⟨SqL.of nH4, ?_⟩⟩
    refine for_it (walk_enum (xs := (ls.take 2).map V.str)) (fun i σ H' => Ext H H' ∧ H' s0 = some (.lst ((ls.take 2).map V.str)) ∧ (∃ v2 v3 v4 v5, σ = [some (.ref l), some (.ref p), v2, v3, v4, v5]) ∧ (∀ j, j < i → standB ls j = true) ∧ ∃ y0 y1, H' p = some (.lst [.ref y0, .ref y1]) ∧
      (0 < i → ∃ a, ls[0]? = some a ∧ H' y0 = some (.lst ((tlW a).map V.str))) ∧ (1 < i → ∃ b, ls[1]? = some b ∧ H' y1 = some (.lst ((tlW b).map V.str))) ∧ (i ≤ 1 → H' y1 = some (.tup []))) ⟨x03.trans xH4, nH4, ⟨_, _, _, _, rfl⟩, fun j hj => absurd hj (Nat.not_lt_zero _), e1, e2, xH4 _ _ nH3, fun z => absurd z (Nat.lt_irrefl _), fun z => absurd z (by decide), fun _ => (xH3.trans xH4) _ _ nH2⟩ (fun i σ H' _ p => SqL.of p.2.1) ?_ ?_
    · rintro i y σ Ha Hb hi ⟨xa, na, ⟨v2, v3, v4, v5, rfl⟩, good, y0, y1, hpa, h0, h1, h2⟩ yy
      obtain ⟨T, u1, u2, rfl, hT, rfl, e1', e2'⟩ := yy
      cases e1'
      have e2' : ((ls.take 2).map V.str)[i]? = some u2 := e2'
      rw [List.length_map, List.length_take] at hi
      have i2 : i < 2 := by omega
      have il : i < ls.length := by omega
      obtain ⟨ln, hln, rfl⟩ := strs_at e2'
      rw [List.getElem?_take, if_pos i2] at hln
      have lnz := lz _ (List.mem_of_getElem? hln)
      obtain ⟨Hb, hHb⟩ : ∃ Hb, Hb = L2.upd Ha T (.tup [.int (i : Nat), .str ln]) := ⟨_, rfl⟩
      have xHb : Ext Ha Hb := by
        rw [hHb]
        exact Ext.upd hT
      have nHb : Hb T = some (.tup [.int (i : Nat), .str ln]) := by rw [hHb, upd_same]
      rw [← hHb]
      clear hHb
      refine ⟨T, _, rfl, SqT.of nHb, rfl, _, _, rfl, _, _, rfl, rfl, ?_⟩
      have xb := xa.trans xHb
      have pb := xHb _ _ hpa
      obtain ⟨hd, nm, wln⟩ := wds_cons ln
      have wsz := split_sz ln 32
      rw [show Txt.split ln ⟨#[32]⟩ = hd :: nm from wln] at wsz
      have nml := wsz.1
      rw [List.length_cons] at nml
      have hdw : hdW ln = hd := by unfold hdW; rw [wln]; rfl
      have tlw : tlW ln = nm := by unfold tlW; rw [wln]; rfl
      show tSeq _ _ _ [some (.ref l), some (.ref p), some (.int (i : Nat)), some (.str ln), v4, v5] _
      refine ⟨_, rfl, ⟨_, rfl⟩, _, (" " : Str), rfl, rfl, by decide, by rw [sizeLine_eq]; omega, fun q0 hq0 => ?_⟩
      rw [sp_eq, show Txt.split ln sp1 = hd :: nm from wln, List.map_cons]
      obtain ⟨Hc, hHc⟩ : ∃ Hc, Hc = L2.upd Hb q0 (.lst (V.str hd :: nm.map V.str)) := ⟨_, rfl⟩
      have xHc : Ext Hb Hc := by
        rw [hHc]
        exact Ext.upd hq0
      have nHc : Hc q0 = some (.lst (V.str hd :: nm.map V.str)) := by rw [hHc, upd_same]
      rw [← hHc]
      clear hHc
      refine ⟨q0, _, rfl, SqL.of nHc, by rw [List.length_cons, List.length_map]; omega, by rw [List.length_cons, List.length_map]; omega, fun D hD => ?_⟩
      rw [star_head1, star_head2]
      obtain ⟨Hd, hHd⟩ : ∃ Hd, Hd = L2.upd Hc D (.lst (nm.map V.str)) := ⟨_, rfl⟩
      have xHd : Ext Hc Hd := by
        rw [hHd]
        exact Ext.upd hD
      have nHd : Hd D = some (.lst (nm.map V.str)) := by rw [hHd, upd_same]
      rw [← hHd]
      clear hHd
      refine ⟨_, _, rfl, _, _, rfl, rfl, ?_⟩
      show tSeq _ _ _ [some (.ref l), some (.ref p), some (.int (i : Nat)), some (.str ln), some (.str hd), some (.ref D)] _
      have xbd := xHc.trans xHd
      have pd := xbd _ _ pb
      have nDp : D ≠ p := fun e => by rw [e, (xHc) _ _ pb] at hD; cases hD
      have ixe : ixN [V.ref y0, V.ref y1].length ((i : Nat) : Int) = some i := by
        rcases i with _ | _ | i
        · rfl
        · rfl
        · omega
      refine ⟨_, rfl, _, rfl, _, rfl, p, _, _, i, rfl, rfl, pd, ixe, ?_⟩
      obtain ⟨He, hHe⟩ : ∃ He, He = L2.upd Hd p (.lst ([V.ref y0, V.ref y1].set i (.ref D))) := ⟨_, rfl⟩
      have xHe : Ext H He := by
        rw [hHe]
        exact (xb.trans xbd).over hpH
      have ke : ∀ c u, c ≠ p → Hd c = some u → He c = some u := fun c u n e => by rw [hHe, upd_ne n]; exact e
      have pe : He p = some (.lst ([V.ref y0, V.ref y1].set i (.ref D))) := by rw [hHe, upd_same]
      rw [← hHe]
      have nD := ke _ _ nDp nHd
      have ns := ke _ _ psn (xbd _ _ (xHb _ _ na))
      have bigN : ∀ z, z ∈ nm → z.length ≤ sizeLine := fun z hz => by
        have := wsz.2 z (List.mem_cons_of_mem _ hz)
        rw [sizeLine_eq]
        omega
      -- it is refused
      have bad : standB ls i = false → ∀ Hx, Ext He Hx → tMkO CX (spInit CX "line") [] (tCons (tOp (rI0 fun i j => V.int (i + j)) (tVar 2) (tC (V.int 1))) tNil) [some (.ref l), some (.ref p), some (.int (i : Nat)), some (.str ln), some (.str hd), some (.ref D)] Hx fun cls d H' => E cls d H' := fun sb Hx xx => by
        refine ⟨_, rfl, _, _, rfl, rfl, ?_⟩
        exact raise_in (σ := []) (xHe.trans xx) (qE (i + 1) (.inl ⟨i, i2, il, rfl, sb, good⟩))
      rcases i with _ | _ | i
      · have ye := h2 (Nat.zero_le _)
        have yn : y1 ≠ p := fun e => by rw [e, hpa] at ye; cases ye
        have ye2 := ke _ _ yn (xbd _ _ (xHb _ _ ye))
        have sb : standB ls 0 = foB ln := by
          cases ls with
          | nil => cases hln
          | cons a r => cases hln; rfl
        refine ⟨_, rfl, _, rfl, aH, _, _, _, rfl, rfl, tH _, rfl, rfl, _, rfl, ?_⟩
        refine ite2 (fun c => ?_) (fun c => ?_)
        · refine bad ?_ _ Ext.rfl'
          rw [sb]
          unfold foB
          rw [hdw, decide_eq_false (by simpa using c)]
          rfl
        have hdf : hd = "folders" := by simpa using c
        refine ⟨_, rfl, p, _, _, _, rfl, rfl, SqL.of pe, rfl, _, rfl, p, _, _, _, rfl, rfl, SqL.of pe, rfl, _, _, some (nm.map V.str), some (([] : List Str).map V.str), rfl, ⟨D, rfl, .inl (SqL.of nD), nok_things bigN⟩, ⟨y1, rfl, .inr (SqT.of ye2), fun y hy => by cases hy⟩, fun xs ys e1 e2 => ?_, fun H5 x5 => ?_⟩
        · cases e1
          cases e2
          rw [List.map_nil, List.append_nil, List.length_map, sizeLine_eq]
          omega
        · refine ⟨rfl, _, rfl, ?_⟩
          have fb : foB ln = decide (partOf (some (nm.map V.str)) (some (([] : List Str).map V.str)) = none) := by
            unfold foB
            rw [hdw, tlw, hdf, decide_eq_true rfl, Bool.true_and, part_noneB, List.append_nil]
          cases hp : partOf (some (nm.map V.str)) (some (([] : List Str).map V.str)) with
          | some n =>
            refine iteT' (by simp [optV]) (bad ?_ _ x5)
            rw [sb, fb, hp]
            rfl
          | none =>
            refine iteF' (by simp [optV]) ?_
            rw [hp] at fb
            refine ⟨xHe.trans x5, x5 _ _ ns, ⟨_, _, _, _, rfl⟩, fun j hj => ?_, D, y1, x5 _ _ pe, fun _ => ⟨ln, hln, by rw [tlw]; exact x5 _ _ nD⟩, fun z => absurd z (by decide), fun _ => x5 _ _ ye2⟩
            have : j = 0 := by omega
            rw [this, sb, fb]
            rfl
      · obtain ⟨la, hla, yf⟩ := h0 (Nat.zero_lt_one)
        have yn : y0 ≠ p := fun e => by
          rw [e, hpa] at yf
          injection yf with yf
          injection yf with yf
          have := congrArg (fun l => l.head?) yf
          rw [List.head?_map] at this
          cases c : (tlW la).head? with
          | none => rw [c] at this; cases this
          | some z => rw [c] at this; cases this
        have yf2 := ke _ _ yn (xbd _ _ (xHb _ _ yf))
        have sb : standB ls 1 = thB la ln := by
          match ls, hla, hln with
          | a :: b :: r, hla, hln => cases hla; cases hln; rfl
        have laz := lz _ (List.mem_of_getElem? hla)
        have wla := split_sz la 32
        have tls : (tlW la).length ≤ 1001 := by
          have := wla.1
          unfold tlW wds
          rw [List.length_tail]
          show (Txt.split la ⟨#[32]⟩).length - 1 ≤ _
          omega
        have bigA : ∀ z, z ∈ tlW la → z.length ≤ sizeLine := fun z hz => by
          have := wla.2 z (List.mem_of_mem_tail hz)
          rw [sizeLine_eq]
          omega
        have fa0 : foB la = true := by
          have := good 0 Nat.zero_lt_one
          cases ls with
          | nil => cases hla
          | cons a r => cases hla; exact this
        have fne : tlW la ≠ [] := by
          unfold foB at fa0
          simp at fa0
          exact fa0.2.1
        refine ⟨_, rfl, _, rfl, aH, _, _, _, rfl, rfl, tH _, rfl, rfl, _, rfl, ?_⟩
        refine ite2 (fun c => ?_) (fun c => ?_)
        · refine bad ?_ _ Ext.rfl'
          rw [sb]
          unfold thB
          rw [hdw, decide_eq_false (by simpa using c)]
          rfl
        have hdf : hd = "things" := by simpa using c
        refine ⟨_, rfl, p, _, _, _, rfl, rfl, SqL.of pe, rfl, _, rfl, p, _, _, _, rfl, rfl, SqL.of pe, rfl, _, _, some ((tlW la).map V.str), some (nm.map V.str), rfl, ⟨y0, rfl, .inl (SqL.of yf2), nok_things bigA⟩, ⟨D, rfl, .inl (SqL.of nD), nok_things bigN⟩, fun xs ys e1 e2 => ?_, fun H5 x5 => ?_⟩
        · cases e1
          cases e2
          rw [List.length_append, List.length_map, List.length_map, sizeLine_eq]
          omega
        · refine ⟨rfl, _, rfl, ?_⟩
          have fb : thB la ln = decide (partOf (some ((tlW la).map V.str)) (some (nm.map V.str)) = none) := by
            unfold thB
            rw [hdw, tlw, hdf, decide_eq_true rfl, Bool.true_and, part_noneB, decide_eq_true fne, Bool.true_and]
          cases hp : partOf (some ((tlW la).map V.str)) (some (nm.map V.str)) with
          | some n =>
            refine iteT' (by simp [optV]) (bad ?_ _ x5)
            rw [sb, fb, hp]
            rfl
          | none =>
            refine iteF' (by simp [optV]) ?_
            rw [hp] at fb
            refine ⟨xHe.trans x5, x5 _ _ ns, ⟨_, _, _, _, rfl⟩, fun j hj => ?_, y0, D, x5 _ _ pe, fun _ => ⟨la, hla, x5 _ _ yf2⟩, fun _ => ⟨ln, hln, by rw [tlw]; exact x5 _ _ nD⟩, fun z => absurd z (by decide)⟩
            rcases Nat.lt_or_ge j 1 with h | h
            · exact good j h
            · have : j = 1 := by omega
              rw [this, sb, fb]
              rfl
      · omega
    · rintro σ Ha ⟨xa, na, ⟨v2, v3, v4, v5, rfl⟩, good, y0, y1, hpa, h0, h1, _⟩
      rw [List.length_map, List.length_take] at good h0 h1
      refine ⟨_, rfl, _, _, rfl, .inl ⟨_, SqL.of (xa _ _ hl), rfl⟩, _, _, rfl, rfl, _, rfl, ?_⟩
      rw [List.length_map]
      refine ite2 (fun c => ?_) (fun c => ?_)
      · have l2 : ls.length < 2 := by
          have := of_decide_eq_true c
          omega
        refine ⟨_, rfl, _, _, rfl, .inl ⟨_, SqL.of (xa _ _ hl), rfl⟩, _, _, rfl, rfl, ?_⟩
        rw [List.length_map]
        exact raise_in (σ := []) xa (qE (ls.length + 1) (.inr ⟨l2, rfl, fun j hj => good j (by omega)⟩))
      · have l2 : 2 ≤ ls.length := Nat.le_of_not_lt fun z => c (decide_eq_true (by omega))
        obtain ⟨a, ha, g0⟩ := h0 (by omega)
        obtain ⟨b, hb, g1⟩ := h1 (by omega)
        match ls, ha, hb with
        | a' :: b' :: r, ha, hb =>
          cases ha
          cases hb
          have fa0 : foB a = true := good 0 (by show 0 < min 2 (r.length + 2); omega)
          have ta0 : thB a b = true := good 1 (by show 1 < min 2 (r.length + 2); omega)
          have fne : tlW a ≠ [] := by
            unfold foB at fa0
            simp at fa0
            exact fa0.2.1
          have nw : newB (tlW a ++ tlW b) = true := by
            unfold thB at ta0
            simp at ta0
            exact ta0.2
          obtain ⟨nd, nam⟩ := wrong_names (of_decide_eq_true nw)
          have sa := split_sz a 32
          have sb := split_sz b 32
          have la := lz a List.mem_cons_self
          have lb := lz b (List.mem_cons_of_mem _ List.mem_cons_self)
          have len : (tlW a ++ tlW b).length ≤ 2002 := by
            rw [List.length_append]
            unfold tlW wds
            rw [List.length_tail, List.length_tail]
            show (Txt.split a ⟨#[32]⟩).length - 1 + ((Txt.split b ⟨#[32]⟩).length - 1) ≤ _
            omega
          have nok : Nok (tlW a ++ tlW b) := ⟨nd, fun z hz => ⟨nam z hz, name_ok (nam z hz), by
            have := (name_cln (nam z hz)).len
            rw [sizeLine_eq]
            omega⟩⟩
          refine ⟨_, rfl, p, _, rfl, .inr (SqL.of hpa), fun x dx n1 n2 n3 => ?_⟩
          exact mk_at (.inl (SqL.of g0)) (.inl (SqL.of g1)) nok fne (by rw [sizeLine_eq]; omega) n1 n2 n3 fun H6 x6 hou => q a b r rfl fa0 ta0 x H6 (xa.trans x6) hou
theorem ok_factOf (Fn : FnP K "fact_of" s_fact_of f fd) (gB_len : mg "len" = none) : FnOk P w K mg base CX0 1 f fd ["line"] (spFactG K) := by
  refine Fn.ok sc_fact_of (fun vs H Q E h => ?_) (fun cdv A outer s H vs Q E hr h => ⟨_, PSs.nox
    (pss_cons (ps_set (i := 1) sc_fact_of.nd rfl (Or.inl rfl) (pe_split (pv 0) pe_str))
      (pss_one (ps_ret (pe_ifExp (pt_cmpR op_eq (pe_callB call_len (by rfl) gB_len boot_len (pa_cons (pv 1) pa_nil)) pe_int (nomark _)) (pe_tup (pa_cons (pe_ix ix_list (pv 1) pe_int (fun _ _ => rfl)) (pa_cons (pe_ix ix_list (pv 1) pe_int (fun _ _ => rfl)) (pa_cons (pe_ix ix_list (pv 1) pe_int (fun _ _ => rfl)) pa_nil)))) pe_non)))), ?_⟩)
  · obtain ⟨l, rfl, _⟩ := h
    rfl
  · obtain ⟨ln, rfl, ll, q1, q2⟩ := h
    refine ⟨_, rfl, ⟨_, rfl⟩, _, (" " : Str), rfl, rfl, by decide, by rw [sizeLine_eq]; omega, fun l hl => ?_⟩
    rw [sp_eq, show Txt.split ln sp1 = wds ln from rfl]
    obtain ⟨H1, hH1⟩ : ∃ H1, H1 = L2.upd H l (.lst ((wds ln).map V.str)) := ⟨_, rfl⟩
    have xH1 : Ext H H1 := by
      rw [hH1]
      exact Ext.upd hl
    have nH1 : H1 l = some (.lst ((wds ln).map V.str)) := by rw [hH1, upd_same]
    rw [← hH1]
    clear hH1
    refine ⟨_, rfl, _, (wds ln).length, rfl, .inl ⟨_, SqL.of nH1, (List.length_map _).symm⟩, rfl, _, rfl, ?_⟩
    refine ite2 (fun c => ?_) (fun c => ?_)
    · have c3 : (wds ln).length = 3 := by
        have := of_decide_eq_true c
        injection this with this
        omega
      obtain ⟨a, w', b, e⟩ : ∃ a w' b, wds ln = [a, w', b] := by
        match wds ln, c3 with
        | [a, w', b], _ => exact ⟨a, w', b, rfl⟩
      rw [e] at nH1
      refine ⟨_, rfl, l, _, _, _, rfl, rfl, SqL.of nH1, rfl, _, rfl, l, _, _, _, rfl, rfl, SqL.of nH1, rfl, _, rfl, l, _, _, _, rfl, rfl, SqL.of nH1, rfl, by show 3 ≤ sizeLine; rw [sizeLine_eq]; decide, fun t ht => ?_⟩
      exact q1 a w' b e _ _ (xH1.trans (Ext.upd ht)) upd_same
    · refine q2 (fun e => ?_) _ xH1
      exact c (decide_eq_true (by rw [e]; rfl))
theorem stand_two {a b : Str} {r : List Str} {i : Nat} {l : Str} (h : r[i]? = some l) : standB (a :: b :: r) (i + 2) = facLB (tlW a) (tlW b) (r.take i) l := by
  show facLB (tlW a) (tlW b) (r.take i) ((r[i]?).getD ⟨#[]⟩) = _
  rw [h]
  rfl
theorem fac_three {fo th bs : List Str} {l : Str} (h : facLB fo th bs l = true) : ∃ a w b, wds l = [a, w, b] ∧ factB fo th (.str w) (.str a) (.str b) = true ∧ toldS (fo ++ th) w a b = [w, a, b] ∧ l ∉ bs := by
  unfold facLB at h
  split at h
  · rename_i a w b e
    obtain ⟨h1, h2⟩ := Bool.and_eq_true_iff.mp h
    obtain ⟨h2, h3⟩ := Bool.and_eq_true_iff.mp h2
    exact ⟨a, w, b, e, h1, of_decide_eq_true h2, by simpa using h3⟩
  · cases h
theorem row_back {l m : Str} {a w b a' w' b' : Str} (h1 : wds l = [a, w, b]) (h2 : wds m = [a', w', b']) (e : rowW l = rowW m) : l = m := by
  unfold rowW at e
  rw [h1, h2] at e
  have e : [w, a, b] = [w', a', b'] := e
  injection e with e1 e
  injection e with e2 e
  injection e with e3 e
  refine wds_inj ?_
  rw [h1, h2, e1, e2, e3]
theorem ok_read (Fn : FnP K "read" s_read f fd) (F : FacTxt P w K mg CF C CE) (Z : HouseTxt P w K mg C CB) (EX : Er P w K mg base "BadText" "line" CX) (M : AddTxt P w K mg CF C CE) (his_fact : Has P w K mg base 5 "is_fact" ["house", "thing"] (spIsFact K C)) (has_told : Has P w K mg base 1 "as_told" ["house", "fact"] (spAsTold K C)) (hhouse_of : HasX P w K mg base 6 "house_of" ["lines"] (spHouseG K C CX)) (hfact_of : Has P w K mg base 1 "fact_of" ["line"] (spFactG K)) (gB_enumerate : mg "enumerate" = none) (gB_len : mg "len" = none) : FnOk P w K mg base (L2.CX P w) 10 f fd ["text"] (spReadG K CF C CX) := by
  obtain ⟨fI, fdI, TB, FB, bB, _⟩ := EX
  refine Fn.ok sc_read (fun vs H Q E h => ?_) (fun cdv A outer s H vs Q E hr h => ⟨_,
    (pss_cons (ps_asg (pe_split (pv 0) pe_str) (pg_starL (n := 2) (i := 0) rfl (pgs_star (pg_name (i := 1) sc_read.nd rfl (Or.inl rfl)) (pgs_cons (pg_name (i := 2) sc_read.nd rfl (Or.inl rfl)) pgs_nil))))
      (pss_cons (ps_set (i := 3) sc_read.nd rfl (Or.inl rfl) (pe_hasX hhouse_of (hr.mono (by decide)) (pa_cons (pv 1) pa_nil) (passes_call (takes_of rfl rfl rfl rfl) (fun _ _ _ _ h => h))))
      (pss_cons (ps_set (i := 4) sc_read.nd rfl (Or.inl rfl) (pe_make F.M (F.I _) (hr.mono (by decide)) (by rfl) F.gF F.bD F.vD passL (pa_cons (pv 3) pa_nil)))
      (pss_cons (ps_for (passes_of rfl) rfl (pi_enumF (by rfl) gB_enumerate (pa_cons (pe_slice sl_list (pv 1) (po_some pe_int) po_none) (pa_cons pe_int pa_nil))) (pg_tup rfl (pgs_cons (pg_name (i := 5) sc_read.nd rfl (Or.inl rfl)) (pgs_cons (pg_name (i := 6) sc_read.nd rfl (Or.inl rfl)) pgs_nil)))
      (pss_cons (ps_set (i := 7) sc_read.nd rfl (Or.inl rfl) (pe_has hfact_of (hr.mono (by decide)) (pa_cons (pv 6) pa_nil)))
      (pss_cons (ps_if (PW.pt (pw_or (pt_not (pt_val (pe_has his_fact (hr.mono (by decide)) (pa_cons (pv 3) (pa_cons (pv 7) pa_nil))))) (pw_or (pt_cmpR (op_neD hr.units) (pv 7) (pe_has has_told (hr.mono (by decide)) (pa_cons (pv 3) (pa_cons (pv 7) pa_nil))) (nomark _)) (pw_or1 (pt_cmpR (op_inO (EI := E0) (hr.mono (by decide)) F.mS (F.S _) F.bS pass0) (pv 7) (pv 4) (by rfl)))))) (pss_one (ps_raise rfl (takes_of rfl rfl rfl rfl) (pmk_oex TB.oex TB.iC TB.tI FB (hr.mono (by decide)) bB .nil pass0 (by rfl) TB.gl (pa_cons (pv 5) pa_nil)))) pss_nil)
      (pss_one (ps_set (i := 4) sc_read.nd rfl (Or.inl rfl) (pe_op (op_addO (EI := E0) (hr.mono (by decide)) M.mA (M.A _) M.bA passL) (pv 4) (pe_lst (pa_cons (pv 7) pa_nil))))))))
      (pss_cons (ps_if (pt_cmpR op_ne (pv 2) pe_str (nomark _)) (pss_one (ps_raise rfl (takes_of rfl rfl rfl rfl) (pmk_oex TB.oex TB.iC TB.tI FB (hr.mono (by decide)) bB .nil pass0 (by rfl) TB.gl (pa_cons (pe_op op_add (pe_callB call_len (by rfl) gB_len boot_len (pa_cons (pv 1) pa_nil)) pe_int) pa_nil)))) pss_nil)
      (pss_one (ps_ret (pv 4)))))))), ?_⟩)
  · obtain ⟨t, rfl, _⟩ := h
    rfl
  · obtain ⟨tx, rfl, tl, qE, q⟩ := h
    have tsz := split_sz tx 10
    rw [show Txt.split tx ⟨#[10]⟩ = lns tx from rfl] at tsz
    have lsp := lns_split tx
    obtain ⟨bs, hbs⟩ : ∃ bs, bs = (lns tx).dropLast := ⟨_, rfl⟩
    obtain ⟨rr, hrr⟩ : ∃ rr, rr = (lns tx).getLastD ⟨#[]⟩ := ⟨_, rfl⟩
    have due : dueT tx = dueB bs rr := by rw [hbs, hrr]; rfl
    rw [← hbs, ← hrr] at lsp
    rw [due] at qE q
    have bl : bs.length ≤ 450 := by
      have := tsz.1
      rw [lsp, List.length_append, List.length_singleton] at this
      omega
    have bz : ∀ z, z ∈ bs → z.length ≤ 450 := fun z hz => by
      have := tsz.2 z (by rw [lsp]; exact List.mem_append_left _ hz)
      omega
    clear hbs hrr tsz due
    refine ⟨_, rfl, ⟨_, rfl⟩, _, ("\n" : Str), rfl, rfl, by decide, by rw [sizeLine_eq]; omega, fun l0 hl0 => ?_⟩
    rw [nl_eq, show Txt.split tx nl1 = bs ++ [rr] from lsp, List.map_append, show List.map V.str [rr] = [V.str rr] from rfl]
    obtain ⟨H1, hH1⟩ : ∃ H1, H1 = L2.upd H l0 (.lst (bs.map V.str ++ [V.str rr])) := ⟨_, rfl⟩
    have xH1 : Ext H H1 := by
      rw [hH1]
      exact Ext.upd hl0
    have nH1 : H1 l0 = some (.lst (bs.map V.str ++ [V.str rr])) := by rw [hH1, upd_same]
    rw [← hH1]
    clear hH1
    refine ⟨l0, _, rfl, SqL.of nH1, by rw [List.length_append]; simp, by rw [List.length_append, List.length_map]; show _ + 1 ≤ _; omega, fun l hl => ?_⟩
    rw [star_last1, star_last2]
    obtain ⟨H2, hH2⟩ : ∃ H2, H2 = L2.upd H1 l (.lst (bs.map V.str)) := ⟨_, rfl⟩
    have xH2 : Ext H1 H2 := by
      rw [hH2]
      exact Ext.upd hl
    have nH2 : H2 l = some (.lst (bs.map V.str)) := by rw [hH2, upd_same]
    rw [← hH2]
    clear hH2
    have x02 := xH1.trans xH2
    refine ⟨_, _, rfl, _, _, rfl, rfl, ?_⟩
    show tSeq _ _ _ [some (.str tx), some (.ref l), some (.str rr), none, none, none, none, none] _
    refine ⟨_, rfl, l, bs, rfl, nH2, fun z hz => Nat.le_trans (bz z hz) (by decide), fun n hn d H' x' h0 h1 => qE n (hou_due hn) d H' (x02.trans x') (ext_none x02 h0) h1, fun a b rest ebs foa thb h H3 x3 hou => ?_⟩
    subst ebs
    obtain ⟨fo, hfo⟩ : ∃ fo, fo = tlW a := ⟨_, rfl⟩
    obtain ⟨th, hth⟩ : ∃ th, th = tlW b := ⟨_, rfl⟩
    have nw : newB (tlW a ++ tlW b) = true := by
      have ta0 := thb
      unfold thB at ta0
      simp at ta0
      exact ta0.2
    obtain ⟨ndn, nam⟩ := wrong_names (of_decide_eq_true nw)
    have len : (tlW a ++ tlW b).length ≤ 902 := by
      have sa := (split_sz a 32).1
      have sb := (split_sz b 32).1
      have la := bz a List.mem_cons_self
      have lb := bz b (List.mem_cons_of_mem _ List.mem_cons_self)
      rw [List.length_append]
      unfold tlW wds
      rw [List.length_tail, List.length_tail]
      show (Txt.split a ⟨#[32]⟩).length - 1 + ((Txt.split b ⟨#[32]⟩).length - 1) ≤ _
      omega
    have st : ∀ {i : Nat} {l : Str}, rest[i]? = some l → standB (a :: b :: rest) (i + 2) = facLB fo th (rest.take i) l := fun h => by rw [hfo, hth]; exact stand_two h
    have s01 : ∀ j, j < 2 → standB (a :: b :: rest) j = true := fun j hj => by
      rcases j with _ | _ | j
      · exact foa
      · exact thb
      · omega
    rw [← hfo, ← hth] at hou ndn nam len
    have szn : (fo ++ th).length < sizeLine := by rw [sizeLine_eq]; omega
    have zok : ∀ z, z ∈ fo ++ th → PyData.strOk z = true := fun z hz => name_ok (nam z hz)
    rw [List.length_cons, List.length_cons] at bl
    show tSeq _ _ _ [some (.str tx), some (.ref l), some (.str rr), some (.ref h), none, none, none, none] _
    refine ⟨_, rfl, fun f0 df n1 n2 n3 => ?_⟩
    refine mkF hou ndn szn zok (.inr (F.tD _)) (rs := []) ⟨rfl, fun i x hx => by cases hx⟩ (fun r hr => by cases hr) (by decide) n1 n2 n3 fun H4 x4 fa => ?_
    show tSeq _ _ _ [some (.str tx), some (.ref l), some (.str rr), some (.ref h), some (.ref f0), none, none, none] _
    have x24 := x3.trans x4
    refine ⟨_, rfl, _, rfl, l, _, rfl, SqL.of (x24 _ _ nH2), fun s0 hs0 => ?_⟩
    rw [show cutV ((a :: b :: rest).map V.str) (some 2) none = rest.map V.str from by
      rw [show (2 : Int) = ((2 : Nat) : Int) from rfl, cutV_drop (by rw [List.length_map]; exact Nat.le_add_left 2 _)]
      rfl]
    obtain ⟨H5, hH5⟩ : ∃ H5, H5 = L2.upd H4 s0 (.lst (rest.map V.str)) := ⟨_, rfl⟩
    have xH5 : Ext H4 H5 := by
      rw [hH5]
      exact Ext.upd hs0
    have nH5 : H5 s0 = some (.lst (rest.map V.str)) := by rw [hH5, upd_same]
    rw [← hH5]
    clear hH5
    refine ⟨s0, _, 3, rfl, by decide, by decide, SqL.of nH5, ?_⟩
    have x05 := x02.trans (x24.trans xH5)
    refine for_it (walk_enumF (xs := rest.map V.str)) (fun i σ H' => Ext H5 H' ∧ (∀ j, j < i → standB (a :: b :: rest) (j + 2) = true) ∧ TR fo th ((rest.take i).map rowW) ∧ ((rest.take i).map rowW).Nodup ∧ ∃ f0 v5 v6 v7, σ = [some (.str tx), some (.ref l), some (.str rr), some (.ref h), some (.ref f0), v5, v6, v7] ∧ FacAt H' K CF C f0 fo th ((rest.take i).map rowW)) ⟨Ext.rfl', (fun j hj => absurd hj (Nat.not_lt_zero _)), (fun r hr => by cases hr), List.nodup_nil, f0, _, _, _, rfl, fa.ext xH5⟩ (fun i σ H' _ p => SqL.of (p.1 _ _ nH5)) ?_ ?_
    · rintro i y σ Ha Hb hi ⟨xa, good, tri, ndi, f1, v5, v6, v7, rfl, fa1⟩ yy
      obtain ⟨T, u1, u2, rfl, hT, rfl, e1', e2'⟩ := yy
      cases e1'
      have e2' : (rest.map V.str)[i]? = some u2 := e2'
      obtain ⟨ln, hln, rfl⟩ := strs_at e2'
      have il := (List.getElem?_eq_some_iff.mp hln).1
      have lnz := bz ln (List.mem_cons_of_mem _ (List.mem_cons_of_mem _ (List.mem_of_getElem? hln)))
      have goodA : ∀ j, j < i + 2 → standB (a :: b :: rest) j = true := fun j hj => by
        rcases Nat.lt_or_ge j 2 with c | c
        · exact s01 j c
        · have := good (j - 2) (by omega)
          rwa [show j - 2 + 2 = j by omega] at this
      -- it is refused
      have bad : facLB fo th (rest.take i) ln = false → ∀ v7 Hx, Ext Ha Hx → tMkO CX (spInit CX "line") [] (tCons (tVar 5) tNil) [some (.str tx), some (.ref l), some (.str rr), some (.ref h), some (.ref f1), some (.int (3 + (i : Nat))), some (.str ln), v7] Hx fun cls d H' => E cls d H' := fun sb v7 Hx xx => by
        have dn : dueB (a :: b :: rest) rr = some (i + 2 + 1) := due_at (by rw [List.length_cons, List.length_cons]; omega) (by rw [st hln]; exact sb) goodA
        have qq := qE _ dn
        refine raise_at rfl ((x05.trans xa).trans xx) fun d H' x' h0 h1 => qq d H' x' h0 ?_
        rw [h1, show (3 : Int) + (i : Nat) = ((i + 2 + 1 : Nat) : Int) by omega]
      obtain ⟨Hb, hHb⟩ : ∃ Hb, Hb = L2.upd Ha T (.tup [.int (3 + (i : Nat)), .str ln]) := ⟨_, rfl⟩
      have xHb : Ext Ha Hb := by
        rw [hHb]
        exact Ext.upd hT
      have nHb : Hb T = some (.tup [.int (3 + (i : Nat)), .str ln]) := by rw [hHb, upd_same]
      rw [← hHb]
      clear hHb
      refine ⟨T, _, rfl, SqT.of nHb, rfl, _, _, rfl, _, _, rfl, rfl, ?_⟩
      refine ⟨_, rfl, ln, rfl, Nat.le_trans lnz (by decide), fun a' w' b' ew t Hc xc nt => ?_, fun n3 Hc xc => ?_⟩
      · have houB := hou.ext (x4.trans (xH5.trans (xa.trans (xHb.trans xc))))
        show tSeq _ _ _ [some (.str tx), some (.ref l), some (.str rr), some (.ref h), some (.ref f1), some (.int (3 + (i : Nat))), some (.str ln), some (.ref t)] _
        have fl : facLB fo th (rest.take i) ln = (factB fo th (.str w') (.str a') (.str b') && (decide (toldS (fo ++ th) w' a' b' = [w', a', b']) && !decide (ln ∈ rest.take i))) := by
          unfold facLB
          rw [ew]
        refine ⟨_, rfl, _, rfl, h, _, fo, th, factB fo th (.str w') (.str a') (.str b'), rfl, houB, .inr (.inr ⟨t, _, _, _, rfl, .inr (SqT.of nt), .inl rfl, .inl rfl, .inl rfl, rfl⟩), fun Hd xd => ⟨_, rfl, ?_⟩⟩
        cases cf : factB fo th (.str w') (.str a') (.str b') with
        | false => exact iteT' rfl (bad (by rw [fl, cf]; rfl) _ _ (xHb.trans (xc.trans xd)))
        | true =>
          refine iteF' rfl ?_
          obtain ⟨z1, z2, z3, ez1, ez2, ez3, isF⟩ := fact_is cf
          cases ez1
          cases ez2
          cases ez3
          refine ⟨_, rfl, _, rfl, _, rfl, h, t, fo, th, w', a', b', rfl, houB.ext xd, ndn, szn, isF, .inr (SqT.of (xd _ _ nt)), fun t2 He xe nt2 => ?_⟩
          have oks : OkS [w', a', b'] := fun z hz => by
            simp only [List.mem_cons, List.not_mem_nil, or_false] at hz
            rcases hz with rfl | rfl | rfl
            · exact wordsOk _ isF.1
            · exact zok _ isF.2.1
            · exact zok _ isF.2.2.1
          have okt : OkS (toldS (fo ++ th) w' a' b') := fun z hz => by
            obtain ⟨c, d, e, cd⟩ := told_three ndn isF
            rw [e] at hz
            simp only [List.mem_cons, List.not_mem_nil, or_false] at hz
            rcases hz with rfl | rfl | rfl
            · exact wordsOk _ isF.1
            · rcases cd with ⟨rfl, _⟩ | ⟨_, rfl, _⟩
              · exact zok _ isF.2.1
              · exact zok _ isF.2.2.1
            · rcases cd with ⟨_, rfl⟩ | ⟨_, _, rfl⟩
              · exact zok _ isF.2.2.1
              · exact zok _ isF.2.1
          refine ⟨.tuple ([w', a', b'].map PyData.str), .tuple ((toldS (fo ++ th) w' a' b').map PyData.str), .tup (SqT.of ((xd.trans xe) _ _ nt)) (dpAll_str [w', a', b']), .tup (SqT.of nt2) (dpAll_str _), shaped_strT _ oks, shaped_strT _ okt, _, rfl, ?_⟩
          rw [eqv_strT]
          refine ite2 (fun c => ?_) (fun c => ?_)
          · refine bad ?_ _ _ (xHb.trans (xc.trans (xd.trans xe)))
            have : ¬ toldS (fo ++ th) w' a' b' = [w', a', b'] := fun z => by
              rw [z] at c
              simp at c
            rw [fl, cf, decide_eq_false this]
            rfl
          have tol : toldS (fo ++ th) w' a' b' = [w', a', b'] := by
            have : [w', a', b'] = toldS (fo ++ th) w' a' b' := by simpa using c
            exact this.symm
          have fe := fa1.ext (xHb.trans (xc.trans (xd.trans xe)))
          obtain ⟨df2, fs2, hf2⟩ := fe.ins
          have rw3 : rowW ln = [w', a', b'] := by
            unfold rowW
            rw [ew]
            rfl
          refine ⟨_, rfl, _, rfl, f1, df2, fs2, rfl, hf2, f1, fo, th, (rest.take i).map rowW, .ref t, rfl, fe, ndn, szn, zok, .inr ⟨t, w', a', b', rfl, .inr (SqT.of ((xd.trans xe) _ _ nt)), isF, fun Hf xf => ⟨_, rfl, _, rfl, ?_⟩⟩⟩
          rw [tol]
          refine ite2 (fun c => ?_) (fun c => ?_)
          · refine bad ?_ _ _ (xHb.trans (xc.trans (xd.trans (xe.trans xf))))
            have c := of_decide_eq_true c
            obtain ⟨m, hm, em⟩ := List.mem_map.mp c
            obtain ⟨j, hj⟩ := List.mem_iff_getElem?.mp hm
            have jl := (List.getElem?_eq_some_iff.mp hj).1
            rw [List.length_take] at jl
            rw [List.getElem?_take, if_pos (by omega)] at hj
            obtain ⟨a2, w2, b2, e2, _⟩ := fac_three (by rw [← st hj]; exact good j (by omega))
            have : m = ln := row_back e2 ew (by rw [em, rw3])
            have mm : ln ∈ rest.take i := this ▸ hm
            rw [fl, decide_eq_true mm]
            simp
          have nin : [w', a', b'] ∉ (rest.take i).map rowW := fun z => c (decide_eq_true z)
          have lnin : ln ∉ rest.take i := fun z => nin (by rw [← rw3]; exact List.mem_map.mpr ⟨_, z, rfl⟩)
          have gd : facLB fo th (rest.take i) ln = true := by
            rw [fl, cf, decide_eq_true tol, decide_eq_false lnin]
            rfl
          refine ⟨_, rfl, _, rfl, by show 1 ≤ sizeLine; rw [sizeLine_eq]; decide, fun g hg => ?_⟩
          obtain ⟨Hg, hHg⟩ : ∃ Hg, Hg = L2.upd Hf g (.lst [.ref t]) := ⟨_, rfl⟩
          have xHg : Ext Hf Hg := by
            rw [hHg]
            exact Ext.upd hg
          have nHg : Hg g = some (.lst [.ref t]) := by rw [hHg, upd_same]
          rw [← hHg]
          clear hHg
          refine ⟨f1, df2, fs2, _, rfl, (xf.trans xHg) _ _ hf2, tyx_sqL (SqL.of nHg), M.add _ (by simp), f1, .ref g, fo, th, (rest.take i).map rowW, rfl, fe.ext (xf.trans xHg), tri, by rw [List.length_map, List.length_take]; omega, ndn, szn, zok, .inr ⟨g, [.ref t], [[w', a', b']], rfl, .inl (SqL.of nHg), raws_cons (.inr (SqT.of ((xd.trans (xe.trans (xf.trans xHg))) _ _ nt))) ⟨rfl, fun i x hx => by cases hx⟩, fun r hr => ⟨w', a', b', List.mem_singleton.mp hr, isF⟩, by show 1 < 400; decide, fun b2 Hh xh nb fb => ⟨b2, rfl, ?_⟩⟩⟩
          have tke : (rest.take (i + 1)).map rowW = (rest.take i).map rowW ++ [[w', a', b']] := by
            rw [List.take_add_one, hln, List.map_append]
            show _ ++ [rowW ln] = _
            rw [rw3]
          have ndn2 : ((rest.take i).map rowW ++ [[w', a', b']]).Nodup := by
            refine List.nodup_append.mpr ⟨ndi, by simp, fun x hx y hy e => ?_⟩
            rw [List.mem_singleton.mp hy] at e
            exact nin (e ▸ hx)
          have en : onceR ((rest.take i).map rowW ++ [[w', a', b']].map (toldR (fo ++ th))) = (rest.take (i + 1)).map rowW := by
            rw [show [[w', a', b']].map (toldR (fo ++ th)) = [toldS (fo ++ th) w' a' b'] from rfl, tol, tke]
            exact once_nd ndn2
          rw [en] at fb
          refine ⟨xa.trans (xHb.trans (xc.trans (xd.trans (xe.trans (xf.trans (xHg.trans xh)))))), fun j hj => ?_, ?_, by rw [tke]; exact ndn2, b2, _, _, _, rfl, fb⟩
          · rcases Nat.lt_or_ge j i with c | c
            · exact good j c
            · rw [show j = i by omega, st hln]
              exact gd
          · rw [tke]
            refine tri.app fun r hr => ⟨w', a', b', List.mem_singleton.mp hr, isF, tol⟩
      · have houB := hou.ext (x4.trans (xH5.trans (xa.trans (xHb.trans xc))))
        have fl : facLB fo th (rest.take i) ln = false := by
          unfold facLB
          split
          · rename_i e
            rw [e] at n3
            exact absurd rfl n3
          · rfl
        refine ⟨_, rfl, _, rfl, h, _, fo, th, false, rfl, houB, .inl ⟨rfl, _, .base .non, by exact kit_no (by decide +kernel) (by decide +kernel)⟩, fun Hd xd => ⟨_, rfl, ?_⟩⟩
        exact iteT' rfl (bad fl _ _ (xHb.trans (xc.trans xd)))
    · rintro σ Ha ⟨xa, good, tri, ndi, f1, v5, v6, v7, rfl, fa1⟩
      rw [List.length_map] at good fa1
      have all : ∀ j, j < (a :: b :: rest).length → standB (a :: b :: rest) j = true := fun j hj => by
        rw [List.length_cons, List.length_cons] at hj
        rcases Nat.lt_or_ge j 2 with c | c
        · exact s01 j c
        · have := good (j - 2) (by omega)
          rwa [show j - 2 + 2 = j by omega] at this
      refine ⟨_, rfl, rfl, _, rfl, ?_⟩
      rw [em_eq]
      refine ite2 (fun c => ?_) (fun c => ?_)
      · have ne : ¬ rr = ⟨#[]⟩ := by
          intro z
          rw [z] at c
          simp at c
        have dn : dueB (a :: b :: rest) rr = some ((a :: b :: rest).length + 1) := due_end all fun z => ne z.1
        refine ⟨_, rfl, _, _, rfl, .inl ⟨_, SqL.of ((x24.trans (xH5.trans xa)) _ _ nH2), rfl⟩, _, _, rfl, rfl, ?_⟩
        rw [List.length_map]
        exact raise_in (σ := []) (x05.trans xa) (qE _ dn)
      · have ee : rr = ⟨#[]⟩ := by
          have : V.str rr = V.str ⟨#[]⟩ := by simpa using c
          injection this
        have dn : dueB (a :: b :: rest) rr = none := due_no all ⟨ee, Nat.le_add_left 2 _⟩
        exact ⟨_, rfl, q dn _ _ _ _ _ (x05.trans xa) fa1⟩
end
end My

namespace L2
open PySem PySem.Spec PyProof.Rows
section
variable {X : Cx}
/-- len of a dict that is read, maybe locked -/
theorem call_lenDR : CallR X (.builtin "len") (fun xs H Q => ∃ a kvs, xs = [V.ref a] ∧ Rd H a (.dK kvs) ∧ Q (.int kvs.length) H) := by
  intro pins s σ H xs us Q I r h
  obtain ⟨a, kvs, rfl, ha, q⟩ := h
  obtain ⟨u, rfl, ru⟩ := vals1 r
  cases ru
  exact d_len I ha fun t s' I' => ⟨.int kvs.length, H, I', ⟨t, rfl⟩, q⟩
/-- name = {..} on one line, the name a local -/
theorem ps_setDc {i : Nat} {y : Str} {py : Pos} {kx vx tg iter : Expr} {ifs : List Expr} {scope : Scope} {own : List (Str × Nat)} {pos spos : Pos} {wi : TI} {g : TG} {tt : TT} {tk tv : TE} (hc : X.calm = true) (hN : X.N.Nodup) (hy : X.N[i]? = some y) (hyl : X.env.scope.names.lookup y = some .local)
    (hsw : swapsWith (.DictComp kx vx [⟨tg, iter, ifs, 0⟩] scope pos) (some (.Name y py)) spos.line X.env = pure true) (hi : PI X tg iter wi) (ok : BlkOk X.N X.env.scope scope own)
    (hg : ∀ (s : Shared) (H : Hp) (C : Addr) (cl : List (Str × Addr)) (fp : List Addr), PG (X.blk s H scope (compEnvC scope cl C X.env) fp) tg g) (ht : ∀ (s : Shared) (H : Hp) (C : Addr) (cl : List (Str × Addr)) (fp : List Addr), PTs (X.blk s H scope (compEnvC scope cl C X.env) fp) ifs tt)
    (hk : ∀ (s : Shared) (H : Hp) (C : Addr) (cl : List (Str × Addr)) (fp : List Addr), PE (X.blk s H scope (compEnvC scope cl C X.env) fp) kx tk)
    (he : ∀ (s : Shared) (H : Hp) (C : Addr) (cl : List (Str × Addr)) (fp : List Addr), PE (X.blk s H scope (compEnvC scope cl C X.env) fp) vx tv) (hs : ∀ x, foldedSetIterable iter X.env x = pure x := by intro _; rfl) :
    PS X (.Assign [.Name y py] (.DictComp kx vx [⟨tg, iter, ifs, 0⟩] scope pos) spos) (tAsg (tDc wi g tt tk tv (own.map (·.2))) (gName i)) := by
  refine ⟨fun pins s σ H D I h => ?_⟩
  rw [exec_Assign_Name_used _ _ _ _ hsw]
  refine wpAny_bind (wpAny_standAt (wpAny_bind ?_))
  show wpAny _ X.A (do let _ ← comprehension (.DictComp kx vx [⟨tg, iter, ifs, 0⟩] scope pos) scope X.env (firstIterPos [⟨tg, iter, ifs, 0⟩] pos) newDict false (eval iter X.env) (some (assign (.Name y py) X.env))) _ _ s
  have h : tDc wi g tt tk tv (own.map (·.2)) σ H (fun x H1 => gName i x σ H1 D.nx) := h
  refine wpAny_bind (thn (dc_core (Qf := fun _ s' => SP X pins D .next s') hc hN I hi ok hg ht hk he hs h fun L C s' m H' I' q hn f => ?_) fun _ s' hq => wpAny_pure (wpAny_pure hq))
  show wpAny _ _ (assign (.Name y py) X.env (.ref L)) _ _ _
  refine wpAny_assign_Name (store_ok2 (v := V.ref L) I' hN hy (.inl hyl) rfl (fun s2 I2 ⟨a, sb, ha⟩ => ?_) (.inr hyl))
  obtain ⟨f0, f1, f2, f3, f4, f5⟩ := f
  have haC : C ≠ a := by
    rcases ha with z | z
    · rw [z]; exact f1
    · exact fun e => f4 y a z e.symm
  refine ⟨m, hn.sameBut sb haC, fun h3 sb3 => ?_⟩
  exact ⟨_, H', I2.turned (t' := s2.toks) (fun b o hb e => (sb3.2 b hb).trans e) f0 f1 f3 f4 f5, q⟩
theorem sw_trueD {kx vx : Expr} {gs : List Comprehension} {scope : Scope} {pos py : Pos} {y : Str} {l : Nat} {env : Env} (hk : env.scope.kind = .function) (hy : env.scope.names.lookup y = some .local) (hl : (py.line == pos.line) = true)
    (ha : (scope.names.any fun (n, k) => n == y && (k == .local || k == .cell)) = false) : swapsWith (.DictComp kx vx gs scope pos) (some (.Name y py)) l env = pure true := by
  have ky : env.kindOf y = some .local := hy
  have hb : env.blockKind = .function := by unfold Env.blockKind; rw [hk]; rfl
  unfold swapsWith
  simp only [hb, ky, ha, Expr.pos, hl]
  rfl
end
end L2

namespace L2
open PySem PySem.Spec PyProof.Rows
/-! two dicts with flat values compared, whatever comes of it -/
def eqDV (ks ls : List (Key × V)) : Bool := (ks.length == ls.length) && ks.all fun p => match valV ls p.1 with
  | none => false
  | some v => eqV p.2 v
theorem hits_any {A : Around} {s : Shared} {kvs : List (Key × V)} {vb : List (Key × Value)} (rb : KV kvs vb) {ks : List (Key × V)} {va : List (Key × Value)} (ra : KV ks va) :
    (∀ p ∈ ks, flatV p.2 = true) → (∀ k v, valV kvs k = some v → flatV v = true) → PySem.W.KeqHits A s vb va (ks.all fun p => match valV kvs p.1 with
      | none => false
      | some v => eqV p.2 v) := by
  unfold KV at ra
  induction ra with
  | nil => intro _ _; exact .nil
  | @cons p q ps qs h t ih =>
    intro hp hl
    obtain ⟨h1, h2⟩ := h
    have f := hp p List.mem_cons_self
    have rr : RelO (valV kvs p.1) (valueAt vb p.1) := rb.val p.1
    obtain ⟨k, v⟩ := q
    have h1' : p.1 = k := h1
    rw [List.all_cons]
    cases e : valV kvs p.1 with
    | none =>
      rw [e] at rr
      refine .miss ?_
      rw [← h1']
      cases c : valueAt vb p.1 with
      | none => rfl
      | some y => rw [c] at rr; exact rr.elim
    | some v' =>
      rw [e] at rr
      obtain ⟨y, hy, ry⟩ := rr.some_of
      rw [h1'] at hy
      exact .hit hy (eqAt_V h2 ry f (hl _ _ e)) (ih (fun p' hm => hp p' (List.mem_cons_of_mem _ hm)) hl)
section
variable {X : Cx}
def rEqDF : R2 := fun x y H Q => ∃ a b ks ls, x = .ref a ∧ y = .ref b ∧ H a = some (.dK ks) ∧ H b = some (.dK ls) ∧ (∀ p ∈ ks, flatV p.2 = true) ∧ (∀ k v, valV ls k = some v → flatV v = true) ∧ Q (.bl (eqDV ks ls)) H
def rNeDF : R2 := fun x y H Q => ∃ a b ks ls, x = .ref a ∧ y = .ref b ∧ H a = some (.dK ks) ∧ H b = some (.dK ls) ∧ (∀ p ∈ ks, flatV p.2 = true) ∧ (∀ k v, valV ls k = some v → flatV v = true) ∧ Q (.bl (!eqDV ks ls)) H
theorem op_eq_dictF (hu : X.A.units < cLine) : OpR X (compareOp .Eq) rEqDF := by
  intro pins s σ H x y v u Q I rx ry h
  obtain ⟨a, b, ks, ls, rfl, rfl, ea, eb, f1, f2, q⟩ := h
  obtain rfl : v = Value.ref a := rx
  obtain rfl : u = Value.ref b := ry
  obtain ⟨_, ya, va, ra, da⟩ := (show ObjOk X.prog X.w H s.heap a (.dK ks) from I.hok a _ ea)
  obtain ⟨_, yb, vb, rb, db⟩ := (show ObjOk X.prog X.w H s.heap b (.dK ls) from I.hok b _ eb)
  refine PySem.W.keq_eq (knd := mixKind X.prog X.w) (r := _) ya yb da db hu (fun _ => hits_any rb ra f1 f2) (fin_bl I q ?_)
  unfold eqDV
  rw [ra.length, rb.length]
theorem op_ne_dictF (hu : X.A.units < cLine) : OpR X (compareOp .NotEq) rNeDF := by
  intro pins s σ H x y v u Q I rx ry h
  obtain ⟨a, b, ks, ls, rfl, rfl, ea, eb, f1, f2, q⟩ := h
  obtain rfl : v = Value.ref a := rx
  obtain rfl : u = Value.ref b := ry
  obtain ⟨_, ya, va, ra, da⟩ := (show ObjOk X.prog X.w H s.heap a (.dK ks) from I.hok a _ ea)
  obtain ⟨_, yb, vb, rb, db⟩ := (show ObjOk X.prog X.w H s.heap b (.dK ls) from I.hok b _ eb)
  refine PySem.W.keq_ne (knd := mixKind X.prog X.w) (r := _) ya yb da db hu (fun _ => hits_any rb ra f1 f2) (fin_bl I q ?_)
  unfold eqDV
  rw [ra.length, rb.length]
end
end L2

/-! a dict in a list of dicts -/
namespace PySem.SeqAt
open AutoSeq1 (wpAny_loadPart')
open MeetsSeq MeetsSeq2 MeetsSeq3 SeqRoads2
section
variable {prog : Program} {w : World}
theorem containsP_loop (l : Addr) (items : Array Value) (n : Nat) (dd : Option Addr) (sl : Array (Option Value)) (x : Value) (e : Nat → Bool) (k : Nat) :
    ∀ i : Nat, items.size - i = k → MeetsIn prog w (Builtin.«list.__contains__.loop» ⟨[.ref l, x, rawInt i], []⟩)
      (fun A R s => s.heap.get? l = some { cls := .type "list", dict := dd, data := .seq items n, slots := sl } ∧ (∀ j (h : j < items.size), EqP prog w A.in1 s items[j] x (e j)) ∧ R (.ok (.ret (.bool (((List.range items.size).drop i).any e)))) s) := by
  induction k with
  | zero =>
    intro i hk A R s h
    obtain ⟨hp, g, d, tk, os⟩ := s; obtain ⟨hl, he, h⟩ := h
    wp_walk using wpAny_loadPart' hl
    have hi : items[((i : Nat) : Int).toNat]? = none := by simp; omega
    have hd : (List.range items.size).drop i = [] := by simp; omega
    rw [hd] at h
    rw [hi]
    wp_walk
    exact h
  | succ k ih =>
    intro i hk A R s h
    obtain ⟨hp, g, d, tk, os⟩ := s; obtain ⟨hl, he, h⟩ := h
    wp_walk using wpAny_loadPart' hl
    have hlt : i < items.size := by omega
    have hi : items[((i : Nat) : Int).toNat]? = some items[i] := by simp [hlt]
    have hd : (List.range items.size).drop i = i :: (List.range items.size).drop (i + 1) := by simp [List.drop_eq_getElem_cons, hlt]
    rw [hd, List.any_cons] at h
    rw [hi]
    refine wpAny_bind (he i hlt _ _ ?_)
    cases hb : e i with
    | true =>
      rw [hb] at h
      wp_walk
      exact h
    | false =>
      rw [hb] at h
      have hc : ((i : Int) + 1) = ((i + 1 : Nat) : Int) := by push_cast; rfl
      wp_walk
      rw [hc]
      exact ⟨plainId_quiet plain_contains_loop _, codeAny_builtin entry_contains_loop (by
        rw [Around.under_plainId plain_contains_loop _]
        exact ih (i + 1) (by omega) A R _ ⟨hl, he, by simpa using h⟩)⟩
theorem list_containsP (l : Addr) (items : Array Value) (n : Nat) (dd : Option Addr) (sl : Array (Option Value)) (x : Value) (e : Nat → Bool) :
    MeetsIn prog w (Builtin.«list.__contains__» ⟨[.ref l, x], []⟩)
      (fun A R s => s.heap.get? l = some { cls := .type "list", dict := dd, data := .seq items n, slots := sl } ∧ (∀ j (h : j < items.size), EqP prog w A.in1 s items[j] x (e j)) ∧ R (.ok (.ret (.bool ((List.range items.size).any e)))) s) := by
  intro A R s h
  obtain ⟨hp, g, d, tk, os⟩ := s; obtain ⟨hl, he, h⟩ := h
  wp_walk using wpAny_loadPart' hl
  exact ⟨plainId_quiet plain_contains_loop _, codeAny_builtin entry_contains_loop (by
    rw [Around.under_plainId plain_contains_loop _]
    exact containsP_loop l items n dd sl x e _ 0 rfl A R _ ⟨hl, he, by simpa using h⟩)⟩
theorem in_listP {A : Around} {E : Value → Shared → Prop} {s : Shared} {l : Addr} {items : Array Value} {x : Value} {Q : Value → Shared → Prop} (e : Nat → Bool) (hl : s.heap.IsList l items) (he : ∀ j (h : j < items.size), EqP prog w A.in1 s items[j] x (e j))
    (h : Q (.bool ((List.range items.size).any e)) s) : wpAny (model prog w) A (compareOp .In x (.ref l)) Q E s := by
  obtain ⟨⟨cls, dd, data, sl⟩, ho, hc, n, hd⟩ := id hl
  simp only at hc hd
  subst hc hd
  have hT : s.TypeIs (.ref l) "list" := ⟨_, ho, rfl⟩
  have body : wpAny (model prog w) A (call (.builtin "list.__contains__") [.ref l, x]) (fun v s' => v = .bool ((List.range items.size).any e) ∧ s' = s) E s :=
    call_meetsIn F.slot_list_contains hT F.entry_list_contains (F.args_list_contains_2 _ _) (list_containsP l items n dd sl x e) ⟨ho, he, rfl, rfl⟩
  show wpAny _ A (do return .bool (← contains (.ref l) x)) Q E s
  refine wpAny_bind (wpAny_contains_slot hT F.slot_list_contains (wpAny_mono body (fun v s' hv => ?_) fun _ _ e => e))
  obtain ⟨rfl, rfl⟩ := hv
  exact wpAny_truthy_bool (wpAny_pure h)
end
end PySem.SeqAt
namespace L2
open PySem PySem.Spec PyProof.Rows
section
variable {X : Cx}
/-- the things of a list are these dicts -/
def DicsAt (H : Hp) : List V → List (List (Key × V)) → Prop
  | [], [] => True
  | x :: xs, d :: ds => (∃ a, x = .ref a ∧ H a = some (.dK d)) ∧ DicsAt H xs ds
  | _, _ => False
theorem DicsAt.len {H : Hp} : ∀ {xs : List V} {ds : List (List (Key × V))}, DicsAt H xs ds → xs.length = ds.length
  | [], [], _ => rfl
  | _ :: _, _ :: _, h => congrArg (· + 1) h.2.len
  | [], _ :: _, h => h.elim
  | _ :: _, [], h => h.elim
theorem DicsAt.at_ {H : Hp} : ∀ {xs : List V} {ds : List (List (Key × V))} {i : Nat} {x : V}, DicsAt H xs ds → xs[i]? = some x → ∃ a d, x = .ref a ∧ H a = some (.dK d) ∧ ds[i]? = some d
  | _ :: _, d :: _, 0, x, ⟨⟨a, e, h⟩, _⟩, hx => by
    injection hx with hx
    exact ⟨a, d, hx.symm.trans e, h, rfl⟩
  | _ :: xs, _ :: ds, i + 1, x, ⟨_, h⟩, hx => h.at_ (i := i) hx
  | [], [], _, _, _, hx => by cases hx
  | [], _ :: _, _, _, h, _ => h.elim
  | _ :: _, [], _, _, h, _ => h.elim
theorem DicsAt.ext {H H' : Hp} (e : Ext H H') : ∀ {xs : List V} {ds : List (List (Key × V))}, DicsAt H xs ds → DicsAt H' xs ds
  | [], [], _ => True.intro
  | _ :: _, _ :: _, ⟨⟨a, h1, h2⟩, h⟩ => ⟨⟨a, h1, e _ _ h2⟩, DicsAt.ext e h⟩
  | [], _ :: _, h => h.elim
  | _ :: _, [], h => h.elim
theorem DicsAt.app {H : Hp} : ∀ {xs ys : List V} {ds es : List (List (Key × V))}, DicsAt H xs ds → DicsAt H ys es → DicsAt H (xs ++ ys) (ds ++ es)
  | [], _, [], _, _, h => h
  | _ :: _, _, _ :: _, _, ⟨h1, h2⟩, h => ⟨h1, DicsAt.app h2 h⟩
  | [], _, _ :: _, _, h, _ => h.elim
  | _ :: _, _, [], _, h, _ => h.elim
theorem DicsAt.updL {H : Hp} {l : Addr} {ys : List V} {o : HO} (hl : H l = some (.lst ys)) : ∀ {xs : List V} {ds : List (List (Key × V))}, DicsAt H xs ds → DicsAt (upd H l o) xs ds
  | [], [], _ => True.intro
  | _ :: _, _ :: _, ⟨⟨a, h1, h2⟩, h⟩ => ⟨⟨a, h1, by rw [upd_ne (ne_of h2 hl (fun z => nomatch z))]; exact h2⟩, DicsAt.updL hl h⟩
  | [], _ :: _, h => h.elim
  | _ :: _, [], h => h.elim
def rInDs (K : PySem.W.Frag) : R2 := fun x y H Q => ∃ (a l : Addr) (ks : List (Key × V)) (xs : List V) (ds : List (List (Key × V))), x = .ref a ∧ y = .ref l ∧ H a = some (.dK ks) ∧ SqL K H l xs ∧ DicsAt H xs ds ∧ (∀ i : Nat, xs[i]? ≠ some (V.ref a)) ∧ (∀ k v, valV ks k = some v → flatV v = true) ∧ (∀ d, d ∈ ds → ∀ p ∈ d, flatV p.2 = true) ∧ Q (.bl (ds.any fun d => eqDV d ks)) H
theorem op_inDs (hu : X.A.units + 1 < cLine) : OpR X (compareOp .In) (rInDs X.K) := by
  intro pins s σ H x y v u Q I rx ry h
  obtain ⟨a, l, ks, xs, ds, rfl, rfl, ea, hl, dz, ne, f1, f2, q⟩ := h
  obtain rfl : v = Value.ref a := rx
  obtain rfl : u = Value.ref l := ry
  obtain ⟨_, ya, va, ra, da⟩ := (show ObjOk X.prog X.w H s.heap a (.dK ks) from I.hok a _ ea)
  obtain ⟨its, rv, ht, hz⟩ := I.list hl
  have len := dz.len
  have rl := rv.length
  have lit : its.length = ds.length := by omega
  refine SeqAt.in_listP (prog := X.prog) (w := X.w) (e := fun j => match ds[j]? with | some d => eqDV d ks | none => false) ht.isList (fun j hj => ?_) ?_
  · have hj' : j < its.length := by simpa using hj
    have jx : j < xs.length := by omega
    obtain ⟨b, d, ex, hb, hd⟩ := dz.at_ (i := j) (List.getElem?_eq_getElem jx)
    have rj : RelV xs[j] its[j] := pair_at rv jx hj'
    rw [ex] at rj
    have e2 : its.toArray[j] = .ref b := by
      have : its[j] = Value.ref b := rj
      simpa using this
    rw [e2]
    obtain ⟨_, yb, vb, rb, db⟩ := (show ObjOk X.prog X.w H s.heap b (.dK d) from I.hok b _ hb)
    have nab : b ≠ a := fun e => ne j (by rw [List.getElem?_eq_getElem jx, ex, e])
    have e3 : (match ds[j]? with | some d => eqDV d ks | none => false) = eqDV d ks := by rw [hd]
    show SeqAt.EqP X.prog X.w X.A.in1 s (.ref b) (.ref a) (match ds[j]? with | some d => eqDV d ks | none => false)
    rw [e3]
    refine SeqAt.eqP_refs nab fun E Q' hq => ?_
    refine PySem.W.keq_eq (knd := mixKind X.prog X.w) (r := _) yb ya db da (show X.A.in1.units < cLine from hu) (fun _ => hits_any ra rb (f2 d (List.mem_of_getElem? hd)) f1) ?_
    refine cast (congrArg (fun b => Q' (Value.bool b) s) ?_) hq
    unfold eqDV
    rw [rb.length, ra.length]
  · have e4 : ((List.range its.toArray.size).any fun j => match ds[j]? with | some d => eqDV d ks | none => false) = ds.any fun d => eqDV d ks := by
      rw [List.size_toArray, lit]
      cases c : ds.any fun d => eqDV d ks with
      | true =>
        rw [List.any_eq_true] at c ⊢
        obtain ⟨d, hd, e⟩ := c
        obtain ⟨j, hj⟩ := List.mem_iff_getElem?.mp hd
        exact ⟨j, List.mem_range.mpr (List.getElem?_eq_some_iff.mp hj).1, by rw [hj]; exact e⟩
      | false =>
        rw [List.any_eq_false] at c ⊢
        intro j hj
        have jl := List.mem_range.mp hj
        rw [List.getElem?_eq_getElem jl]
        exact c _ (List.getElem_mem jl)
    rw [e4]
    exact ⟨.bl _, H, I, rfl, q⟩
end
end L2

/-! a list == [] -/
namespace L2
open PySem PySem.Spec PyProof.Rows
section
variable {X : Cx}
def rEqNil (K : PySem.W.Frag) : R2 := fun x y H Q => ∃ (a b : Addr) (xs : List V), x = .ref a ∧ y = .ref b ∧ SqL K H a xs ∧ SqL K H b [] ∧ Q (.bl xs.isEmpty) H
def rNeNil (K : PySem.W.Frag) : R2 := fun x y H Q => ∃ (a b : Addr) (xs : List V), x = .ref a ∧ y = .ref b ∧ SqL K H a xs ∧ SqL K H b [] ∧ Q (.bl (!xs.isEmpty)) H
theorem op_eqNil (hu : X.A.units < cLine) : OpR X (compareOp .Eq) (rEqNil X.K) := by
  intro pins s σ H x y v u Q I rx ry h
  obtain ⟨a, b, xs, rfl, rfl, ha, hb, q⟩ := h
  obtain rfl : v = Value.ref a := rx
  obtain rfl : u = Value.ref b := ry
  obtain ⟨its, rv, ht, hz⟩ := I.list ha
  obtain ⟨its2, rv2, ht2, hz2⟩ := I.list hb
  cases rv2
  show wpAny _ _ (richCompare .Eq (.ref a) (.ref b)) _ _ s
  cases xs with
  | nil =>
    cases rv
    refine SeqAt.RcAt.lists (e := fun _ => true) ht.isList ht2.isList rfl hu (fun j h1 _ => absurd h1 (Nat.not_lt_zero j)) X.prog X.w _ _ ?_
    exact ⟨.bl true, H, I, rfl, q⟩
  | cons x xs =>
    cases rv
    refine SeqAt.RcAt.lists_lengths ht.isList ht2.isList (by simp) hu X.prog X.w _ _ ?_
    exact ⟨.bl false, H, I, rfl, q⟩
theorem op_neNil (hu : X.A.units < cLine) : OpR X (compareOp .NotEq) (rNeNil X.K) := by
  intro pins s σ H x y v u Q I rx ry h
  obtain ⟨a, b, xs, rfl, rfl, ha, hb, q⟩ := h
  obtain rfl : v = Value.ref a := rx
  obtain rfl : u = Value.ref b := ry
  obtain ⟨its, rv, ht, hz⟩ := I.list ha
  obtain ⟨its2, rv2, ht2, hz2⟩ := I.list hb
  cases rv2
  show wpAny _ _ (richCompare .NotEq (.ref a) (.ref b)) _ _ s
  cases xs with
  | nil =>
    cases rv
    refine SeqAt.RcNeAt.lists (e := fun _ => true) ht.isList ht2.isList rfl hu (fun j h1 _ => absurd h1 (Nat.not_lt_zero j)) X.prog X.w _ _ ?_
    exact ⟨.bl false, H, I, rfl, q⟩
  | cons x xs =>
    cases rv
    refine SeqAt.RcNeAt.lists_lengths ht.isList ht2.isList (by simp) hu X.prog X.w _ _ ?_
    exact ⟨.bl true, H, I, rfl, q⟩
end
end L2

namespace My
open PySem PySem.Spec PyProof.Rows L2
abbrev nm__law_is_name : List Str := ["_law_word", "_law_letter"]
theorem sc__law_is_name : FnScope nm__law_is_name ["_law_word"] (defScope s__law_is_name) := ⟨rfl, rfl, rfl, by decide +kernel, rfl, by decide +kernel, by decide +kernel⟩
abbrev nm__law_are_new : List Str := ["_law_words", "_law_k"]
theorem sc__law_are_new : FnScope nm__law_are_new ["_law_words"] (defScope s__law_are_new) := ⟨rfl, rfl, rfl, by decide +kernel, rfl, by decide +kernel, by decide +kernel⟩
abbrev nm__law_can_stand : List Str := ["_law_lines", "_law_at", "_law_words", "_law_folders", "_law_nodes"]
theorem sc__law_can_stand : FnScope nm__law_can_stand ["_law_lines", "_law_at"] (defScope s__law_can_stand) := ⟨rfl, rfl, rfl, by decide +kernel, rfl, by decide +kernel, by decide +kernel⟩
abbrev nm__law_due : List Str := ["_law_text", "_law_lines", "_law_at"]
theorem sc__law_due : FnScope nm__law_due ["_law_text"] (defScope s__law_due) := ⟨rfl, rfl, rfl, by decide +kernel, rfl, by decide +kernel, by decide +kernel⟩
def spIsNameL : Sp := fun vs H Q _ => ∃ z, vs = [.str z] ∧ z.length ≤ 1000 ∧ ∀ H', Ext H H' → Q (.bl (nameB z)) H'
def spAreNew (K : PySem.W.Frag) : Sp := fun vs H Q _ => ∃ a zs, vs = [.ref a] ∧ SqL K H a (zs.map V.str) ∧ (∀ z, z ∈ zs → z.length ≤ 1000) ∧ zs.length ≤ 2100 ∧ ∀ H', Ext H H' → Q (.bl (newB zs)) H'
def spCanStand (K : PySem.W.Frag) : Sp := fun vs H Q _ => ∃ l bs r i, vs = [.ref l, .int (i : Nat)] ∧ H l = some (.lst ((bs ++ [r]).map V.str)) ∧ i < bs.length ∧ bs.length ≤ 450 ∧ (∀ z, z ∈ bs → z.length ≤ 450) ∧ (∀ j, j < i → standB bs j = true) ∧ ∀ H', Ext H H' → Q (.bl (standB bs i)) H'
def spDueL : Sp := fun vs H Q _ => ∃ t, vs = [.str t] ∧ t.length ≤ 450 ∧ ∀ H', Ext H H' → Q (optV (dueT t)) H'
theorem stand_zero {bs : List Str} {l : Str} (h : bs[0]? = some l) : standB bs 0 = foB l := by
  cases bs with
  | nil => cases h
  | cons a r => cases h; rfl
theorem stand_one {bs : List Str} {l m : Str} (h : bs[0]? = some l) (h2 : bs[1]? = some m) : standB bs 1 = thB l m := by
  match bs, h, h2 with
  | a :: b :: r, h, h2 => cases h; cases h2; rfl
theorem tl_sz (l : Str) : (tlW l).length ≤ l.length ∧ ∀ z, z ∈ tlW l → z.length ≤ l.length := by
  have s := split_sz l 32
  refine ⟨?_, fun z hz => s.2 z (List.mem_of_mem_tail hz)⟩
  unfold tlW wds
  rw [List.length_tail]
  have := s.1
  show (Txt.split l ⟨#[32]⟩).length - 1 ≤ _
  omega
theorem fac_false {fo th bs : List Str} {l : Str} (h : ∀ a w b, wds l = [a, w, b] → IsF fo th w a b → toldS (fo ++ th) w a b = [w, a, b] → l ∉ bs → False) : facLB fo th bs l = false := by
  cases c : facLB fo th bs l with
  | false => rfl
  | true =>
    obtain ⟨a, w, b, e, f, t, n⟩ := fac_three c
    obtain ⟨z1, z2, z3, e1, e2, e3, isF⟩ := fact_is f
    cases e1
    cases e2
    cases e3
    exact (h a w b e isF t n).elim
theorem fac_true {fo th bs : List Str} {l a w b : Str} (e : wds l = [a, w, b]) (f : IsF fo th w a b) (t : toldS (fo ++ th) w a b = [w, a, b]) (n : l ∉ bs) : facLB fo th bs l = true := by
  unfold facLB
  rw [e]
  show (factB fo th (.str w) (.str a) (.str b) && (decide (toldS (fo ++ th) w a b = [w, a, b]) && !decide (l ∈ bs))) = true
  rw [is_fact f, decide_eq_true t, decide_eq_false n]
  rfl
theorem toldS_line' {ns : List Str} {a b c d : Str} (h : ordS ns c d = [c, d]) (e : a = d ∧ b = c := by exact ⟨rfl, rfl⟩) : toldS ns "line" a b = [("line" : Str), c, d] := by
  obtain ⟨rfl, rfl⟩ := e
  unfold toldS
  rw [if_pos rfl, ord_comm, h]
theorem flat_strs' (zs : List Str) : (zs.map V.str).all flatV = true := flat_strs zs
section
variable {P : Program} {w : World} {K : PySem.W.Frag} {mg : Str → Option Value} {base : Heap} {f C CB CF CE CX : Addr} {fd : FuncData}
theorem ok_isNameL (Fn : FnP K "_law_is_name" s__law_is_name f fd) (gB_len : mg "len" = none) : FnOk P w K mg base CX0 1 f fd ["_law_word"] spIsNameL := by
  refine Fn.ok sc__law_is_name (fun vs H Q E h => ?_) (fun cdv A outer s H vs Q E hr h => ⟨_, PSs.nox
    (pss_one (ps_ret (pe_and (pe_chain op_lt op_lt pe_int (pe_callB call_len (by rfl) gB_len boot_len (pa_cons (pv 0) pa_nil)) pe_int) (pe_one (pe_cmpR (op_eqNil hr.units0) (pe_lc (own := [("_law_letter", 1)]) (g := (gName 1)) rfl sc__law_is_name.nd (pi_str (pv 0)) (blkOk_by (N := nm__law_is_name) (sc := defScope s__law_is_name) (by decide +kernel)) (fun _ _ _ _ _ => (pg_name (i := 1) sc__law_is_name.nd rfl (Or.inl rfl))) (fun _ _ _ _ _ => pts_one (pt_cmpR op_notIn_sign (pv 1) pe_str (by rfl))) (fun _ _ _ _ _ => (pv 1))) (pe_lst pa_nil) (nomark _)))))), ?_⟩)
  · obtain ⟨z, rfl, _⟩ := h
    rfl
  · obtain ⟨z, rfl, zl, q⟩ := h
    refine ⟨_, rfl, .str z, z.length, rfl, ⟨by rw [sizeLine_eq]; omega, rfl⟩, _, _, rfl, rfl, _, rfl, ?_⟩
    have f1 : ∀ c, decide ((0 : Int) < (z.length : Nat)) = c → decide ((1 : Int) ≤ z.length) = c := fun c h => by rw [← h]; rfl
    refine ite2 (fun c1 => ?_) (fun c1 => ?_)
    · refine ⟨_, _, rfl, rfl, _, rfl, ?_⟩
      have g1 : decide ((1 : Int) ≤ z.length) = true := f1 _ c1
      refine ite2 (fun c2 => ?_) (fun c2 => ?_)
      · have g2 : decide ((z.length : Int) ≤ 8) = true := by
          have := of_decide_eq_true c2
          exact decide_eq_true (by omega)
        have e : nameB z = (signB z).all id := by
          unfold nameB
          rw [g1, g2, Bool.true_and, Bool.true_and]
        refine ⟨_, rfl, _, rfl, fun D hD => lc_it (walk_str (z := z)) (fun i H' => Ext H H' ∧ ∃ acc, H' D = some (.lst acc) ∧ acc.length ≤ i ∧ acc.isEmpty = ((signB z).take i).all id) ⟨Ext.upd hD, [], upd_same, Nat.zero_le _, rfl⟩ (fun _ _ _ _ => True.intro) ?_ ?_⟩
        · intro i x H1 H2 hi ⟨x1, acc, l1, al, ae⟩ hy
          obtain ⟨rfl, c, hc, rfl⟩ := hy
          refine ⟨rfl, ?_⟩
          refine ⟨_, rfl, c, _, rfl, rfl, _, rfl, ?_⟩
          have sn := sign_snoc hc
          refine ite2 (fun c3 => ?_) (fun c3 => ?_)
          · refine ⟨_, rfl, acc, l1, ?_, x1.over hD, _, upd_same, by rw [List.length_append]; exact Nat.succ_le_succ al, ?_⟩
            · have hi : i < z.length := hi
              rw [sizeLine_eq]
              omega
            · have c3 : (!decide (c ∈ letters.cps.toList)) = true := c3
              have c3 : ¬ c ∈ letters.cps.toList := by simpa using c3
              rw [← sn, List.all_append, decide_eq_false c3]
              simp
          · refine ⟨x1, acc, l1, Nat.le_succ_of_le al, ?_⟩
            have c3 : ¬ (!decide (c ∈ letters.cps.toList)) = true := c3
            have c3 : c ∈ letters.cps.toList := by simpa using c3
            rw [← sn, List.all_append, decide_eq_true c3, ae]
            simp
        · intro H1 ⟨x1, acc, l1, al, ae⟩
          refine ⟨Nat.zero_le _, fun e1 he1 => ⟨D, e1, acc, rfl, rfl, SqL.of (Ext.upd he1 _ _ l1), SqL.of upd_same, ?_⟩⟩
          rw [ae, List.take_of_length_le (by unfold signB; rw [List.length_map, Array.length_toList]; exact Nat.le_refl _), ← e]
          exact q _ (x1.trans (Ext.upd he1))
      · have e : nameB z = false := by
          unfold nameB
          have : decide ((z.length : Int) ≤ 8) = false := decide_eq_false fun h => c2 (decide_eq_true (by omega))
          rw [this, Bool.false_and, Bool.and_false]
        have qq := q H Ext.rfl'
        rw [e] at qq
        exact qq
    · have e : nameB z = false := by
        unfold nameB
        have : decide ((1 : Int) ≤ z.length) = false := decide_eq_false fun h => c1 (decide_eq_true (by omega))
        rw [this, Bool.false_and]
      have qq := q H Ext.rfl'
      rw [e] at qq
      exact ⟨_, rfl, qq⟩
theorem ok_areNew (Fn : FnP K "_law_are_new" s__law_are_new f fd) (h_law_is_name : Has P w K mg base 1 "_law_is_name" ["_law_word"] spIsNameL) (gB_len : mg "len" = none) (gB_range : mg "range" = none) : FnOk P w K mg base CX0 2 f fd ["_law_words"] (spAreNew K) := by
  refine Fn.ok sc__law_are_new (fun vs H Q E h => ?_) (fun cdv A outer s H vs Q E hr h => ⟨_, PSs.nox
    (pss_one (ps_ret (pe_cmpR (op_eqNil hr.units0) (pe_lc (own := [("_law_k", 1)]) (g := (gName 1)) rfl sc__law_are_new.nd (pi_range1 (by rfl) gB_range (pa_cons (pe_callB call_len (by rfl) gB_len boot_len (pa_cons (pv 0) pa_nil)) pa_nil)) (blkOk_by (N := nm__law_are_new) (sc := defScope s__law_are_new) (by decide +kernel)) (fun _ _ _ _ _ => (pg_name (i := 1) sc__law_are_new.nd rfl (Or.inl rfl))) (fun _ _ _ _ _ => pts_one (PW.pt (pw_or (pt_not (pt_val (pe_has h_law_is_name (hr.mono (by decide)) (pa_cons (pe_ix (ixK (r := rIxL) (K := K) rfl ix_list) (pv 0) (pv 1) (fun _ _ => rfl)) pa_nil)))) (pw_or1 (pt_cmpR (opK (r := fun K => rIn K false) (K := K) rfl op_in_seq) (pe_ix (ixK (r := rIxL) (K := K) rfl ix_list) (pv 0) (pv 1) (fun _ _ => rfl)) (pe_slice (slK (r := rSlL) (K := K) rfl sl_list) (pv 0) po_none (po_some (pv 1))) (by rfl)))))) (fun _ _ _ _ _ => (pv 1))) (pe_lst pa_nil) (nomark _)))), ?_⟩)
  · obtain ⟨a, zs, rfl, _⟩ := h
    rfl
  · obtain ⟨a, zs, rfl, sq, zz, zl, q⟩ := h
    have lm : (zs.map V.str).length = zs.length := List.length_map _
    refine ⟨_, rfl, _, zs.length, rfl, .inl ⟨_, sq, lm.symm⟩, _, rfl, Int.natCast_nonneg _, Int.lt_of_le_of_lt (Int.ofNat_le.mpr zl) (by decide), fun D hD => ?_⟩
    refine lc_range (lo := 0) (n := zs.length) (fun k H' => Ext H H' ∧ ∃ acc, H' D = some (.lst acc) ∧ acc.length ≤ k ∧ (acc = [] ↔ ∀ j, j < k → badAt (zs.map V.str) j = false)) ⟨Ext.upd hD, [], upd_same, Nat.zero_le _, ⟨fun _ j hj => absurd hj (Nat.not_lt_zero j), fun _ => rfl⟩⟩ ?_ ?_
    · rintro k H1 hk ⟨x1, acc, l1, al, ae⟩
      have hz : (zs.map V.str)[k]? = some (.str zs[k]) := by rw [List.getElem?_map, List.getElem?_eq_getElem hk]; rfl
      have bk : badAt (zs.map V.str) k = (!nameB zs[k] || inV (.str zs[k]) ((zs.map V.str).take k)) := by
        unfold badAt
        rw [hz]
        rfl
      have yes : badAt (zs.map V.str) k = true → ∀ H2, Ext H1 H2 → ∃ acc, H2 D = some (.lst acc) ∧ acc.length < sizeLine ∧ Ext H (L2.upd H2 D (.lst (acc ++ [.int (0 + (k : Nat))]))) ∧ ∃ acc1, L2.upd H2 D (.lst (acc ++ [.int (0 + (k : Nat))])) D = some (.lst acc1) ∧ acc1.length ≤ k + 1 ∧ (acc1 = [] ↔ ∀ j, j < k + 1 → badAt (zs.map V.str) j = false) := fun b H2 x2 => by
        refine ⟨acc, x2 _ _ l1, by rw [sizeLine_eq]; omega, (x1.trans x2).over hD, _, upd_same, by rw [List.length_append]; exact Nat.succ_le_succ al, fun h => by simp at h, fun h => ?_⟩
        rw [h k (Nat.lt_succ_self k)] at b
        cases b
      refine ⟨rfl, _, rfl, _, rfl, a, _, _, _, rfl, rfl, sq.ext x1, by rw [Int.zero_add]; exact atI_nat hz, zs[k], rfl, zz _ (List.getElem_mem hk), fun H2 x2 => ⟨_, rfl, ?_⟩⟩
      refine ite2 (fun c => ?_) (fun c => ?_)
      · exact iteT' rfl ⟨_, rfl, yes (by rw [bk, show (!nameB zs[k]) = true from c]; rfl) H2 x2⟩
      have c : (!nameB zs[k]) = false := by simpa using c
      refine ⟨_, rfl, _, rfl, a, _, _, _, rfl, rfl, sq.ext (x1.trans x2), by rw [Int.zero_add]; exact atI_nat hz, _, rfl, _, rfl, _, rfl, a, _, rfl, sq.ext (x1.trans x2), fun s1 hs1 => ?_⟩
      rw [show cutV (zs.map V.str) none (some (0 + (k : Int))) = (zs.map V.str).take k from by rw [Int.zero_add, cutV_takeA]]
      have x3 := x2.trans (Ext.upd (o := .lst ((zs.map V.str).take k)) hs1)
      refine ⟨s1, _, rfl, .inl (SqL.of upd_same), rfl, by rw [← List.map_take]; exact flat_strs _, _, rfl, ?_⟩
      refine ite2 (fun c2 => ?_) (fun c2 => ?_)
      · exact ⟨_, rfl, yes (by rw [bk, c]; exact c2) _ x3⟩
      · refine ⟨x1.trans x3, acc, x3 _ _ l1, Nat.le_succ_of_le al, ⟨fun h j hj => ?_, fun h => ae.mpr fun j hj => h j (Nat.lt_succ_of_lt hj)⟩⟩
        rcases Nat.lt_or_ge j k with d | d
        · exact ae.mp h j d
        · rw [show j = k by omega, bk, c]
          simpa using c2
    · rintro H1 ⟨x1, acc, l1, al, ae⟩
      refine ⟨Nat.zero_le _, fun e1 he1 => ⟨D, e1, acc, rfl, rfl, SqL.of (Ext.upd he1 _ _ l1), SqL.of upd_same, ?_⟩⟩
      have e : acc.isEmpty = newB zs := by
        unfold newB
        rw [Bool.eq_iff_iff, List.isEmpty_iff, decide_eq_true_iff, ae]
        refine ⟨fun h => wrong_none (by rw [lm]; exact h), fun h j hj => ?_⟩
        have := List.find?_range_eq_none.mp h j (by rw [lm]; exact hj)
        simpa using this
      rw [e]
      exact q _ (x1.trans (Ext.upd he1))
theorem ok_canStand (Fn : FnP K "_law_can_stand" s__law_can_stand f fd) (h_law_are_new : Has P w K mg base 2 "_law_are_new" ["_law_words"] (spAreNew K)) (gB_len : mg "len" = none) : FnOk P w K mg base CX0 3 f fd ["_law_lines", "_law_at"] (spCanStand K) := by
  refine Fn.ok sc__law_can_stand (fun vs H Q E h => ?_) (fun cdv A outer s H vs Q E hr h => ⟨_, PSs.nox
    (pss_cons (ps_set (i := 2) sc__law_can_stand.nd rfl (Or.inl rfl) (pe_split (pe_ix ix_list (pv 0) (pv 1) (fun _ _ => rfl)) pe_str))
      (pss_cons (ps_if (pt_cmpR op_eq (pv 1) pe_int (nomark _)) (pss_one (ps_ret (pe_and (pe_cmpR op_eq (pe_ix ix_list (pv 2) pe_int (fun _ _ => rfl)) pe_str (nomark _)) (pe_and (pe_cmpR op_gt (pe_callB call_len (by rfl) gB_len boot_len (pa_cons (pv 2) pa_nil)) pe_int (nomark _)) (pe_one (pe_has h_law_are_new (hr.mono (by decide)) (pa_cons (pe_slice sl_list (pv 2) (po_some pe_int) po_none) pa_nil))))))) pss_nil)
      (pss_cons (ps_set (i := 3) sc__law_can_stand.nd rfl (Or.inl rfl) (pe_slice sl_list (pe_split (pe_ix ix_list (pv 0) pe_int (fun _ _ => rfl)) pe_str) (po_some pe_int) po_none))
      (pss_cons (ps_if (pt_cmpR op_eq (pv 1) pe_int (nomark _)) (pss_one (ps_ret (pe_and (pe_cmpR op_eq (pe_ix ix_list (pv 2) pe_int (fun _ _ => rfl)) pe_str (nomark _)) (pe_one (pe_has h_law_are_new (hr.mono (by decide)) (pa_cons (pe_op L2.op_cat (pv 3) (pe_slice sl_list (pv 2) (po_some pe_int) po_none)) pa_nil)))))) pss_nil)
      (pss_cons (ps_set (i := 4) sc__law_can_stand.nd rfl (Or.inl rfl) (pe_op L2.op_cat (pv 3) (pe_slice sl_list (pe_split (pe_ix ix_list (pv 0) pe_int (fun _ _ => rfl)) pe_str) (po_some pe_int) po_none)))
      (pss_cons (ps_if (PW.pt (pw_or (pt_cmpR op_ne (pe_callB call_len (by rfl) gB_len boot_len (pa_cons (pv 2) pa_nil)) pe_int (nomark _)) (pw_or (pt_cmpR op_notIn_seq (pe_ix ix_list (pv 2) pe_int (fun _ _ => rfl)) (pe_tup (pa_cons pe_str (pa_cons pe_str (pa_cons pe_str pa_nil)))) (by rfl)) (pw_or1 (pt_cmpR op_in_seq (pe_ix ix_list (pv 0) (pv 1) (fun _ _ => rfl)) (pe_slice sl_list (pv 0) (po_some pe_int) (po_some (pv 1))) (by rfl)))))) (pss_one (ps_ret pe_bl)) pss_nil)
      (pss_cons (ps_if (PW.pt (pw_or (pt_cmpR op_notIn_seq (pe_ix ix_list (pv 2) pe_int (fun _ _ => rfl)) (pv 4) (by rfl)) (pw_or (pt_cmpR op_notIn_seq (pe_ix ix_list (pv 2) pe_int (fun _ _ => rfl)) (pv 4) (by rfl)) (pw_or1 (pt_cmpR op_eq (pe_ix ix_list (pv 2) pe_int (fun _ _ => rfl)) (pe_ix ix_list (pv 2) pe_int (fun _ _ => rfl)) (nomark _)))))) (pss_one (ps_ret pe_bl)) pss_nil)
      (pss_cons (ps_if (pt_cmpR op_eq (pe_ix ix_list (pv 2) pe_int (fun _ _ => rfl)) pe_str (nomark _)) (pss_one (ps_ret (pe_cmpR op_lt (pe_bm PySem.F.plainAttrs_list PySem.F.slot_list_index PySem.F.type_list_index mt_index (pv 4) (pa_cons (pe_ix ix_list (pv 2) pe_int (fun _ _ => rfl)) pa_nil)) (pe_bm PySem.F.plainAttrs_list PySem.F.slot_list_index PySem.F.type_list_index mt_index (pv 4) (pa_cons (pe_ix ix_list (pv 2) pe_int (fun _ _ => rfl)) pa_nil)) (nomark _)))) pss_nil)
      (pss_one (ps_ret (pe_cmpR op_in_seq (pe_ix ix_list (pv 2) pe_int (fun _ _ => rfl)) (pv 3) (by rfl)))))))))))), ?_⟩)
  · obtain ⟨l, bs, r, i, rfl, _⟩ := h
    rfl
  · obtain ⟨l, bs, r, i, rfl, hl, il, bl, bz, good, q⟩ := h
    have bsz : ∀ {j : Nat} {z : Str}, bs[j]? = some z → ((bs ++ [r]).map V.str)[j]? = some (.str z) := fun {j z} h => by
      rw [List.getElem?_map, List.getElem?_append_left (List.getElem?_eq_some_iff.mp h).1, h]
      rfl
    obtain ⟨ln, hln⟩ : ∃ ln, bs[i]? = some ln := ⟨_, List.getElem?_eq_getElem il⟩
    obtain ⟨l0, hl0⟩ : ∃ l0, bs[0]? = some l0 := ⟨_, List.getElem?_eq_getElem (by omega)⟩
    have lz := bz ln (List.mem_of_getElem? hln)
    have l0z := bz l0 (List.mem_of_getElem? hl0)
    obtain ⟨hd, tl, ew⟩ := wds_cons ln
    have hdw : hdW ln = hd := by unfold hdW; rw [ew]; rfl
    have tlw : tlW ln = tl := by unfold tlW; rw [ew]; rfl
    have tsz := tl_sz ln
    rw [tlw] at tsz
    have t0sz := tl_sz l0
    refine ⟨_, rfl, _, rfl, l, _, _, _, rfl, rfl, SqL.of hl, atI_nat (bsz hln), ⟨_, rfl⟩, _, (" " : Str), rfl, rfl, by decide, by rw [sizeLine_eq]; omega, fun w1 hw1 => ?_⟩
    rw [sp_eq, show Txt.split ln sp1 = hd :: tl from ew]
    obtain ⟨H1, hH1⟩ : ∃ H1, H1 = L2.upd H w1 (.lst ((hd :: tl).map V.str)) := ⟨_, rfl⟩
    have xH1 : Ext H H1 := by
      rw [hH1]
      exact Ext.upd hw1
    have nH1 : H1 w1 = some (.lst ((hd :: tl).map V.str)) := by rw [hH1, upd_same]
    rw [← hH1]
    clear hH1
    refine ⟨_, rfl, rfl, _, rfl, ?_⟩
    have dec0 : ∀ n : Nat, decide (V.int (i : Nat) = V.int (n : Nat)) = decide (i = n) := fun n => by
      rw [Bool.eq_iff_iff, decide_eq_true_iff, decide_eq_true_iff]
      exact ⟨fun h => by injection h with h; omega, fun h => by rw [h]⟩
    rw [show V.int 0 = V.int ((0 : Nat) : Int) from rfl, dec0]
    refine ite2 (fun c => ?_) (fun c => ?_)
    · have i0 : i = 0 := of_decide_eq_true c
      subst i0
      have e0 : l0 = ln := by rw [hl0] at hln; injection hln
      subst e0
      rw [stand_zero hl0] at q
      refine ⟨_, rfl, w1, _, _, .str hd, rfl, rfl, SqL.of nH1, atI_nat (j := 0) rfl, rfl, _, rfl, ?_⟩
      have deq : decide (V.str hd = V.str "folders") = decide (hd = "folders") := by
        rw [Bool.eq_iff_iff, decide_eq_true_iff, decide_eq_true_iff]
        exact ⟨fun h => by injection h, fun h => by rw [h]⟩
      unfold foB at q
      rw [hdw, tlw] at q
      rw [deq]
      generalize decide (hd = ("folders" : Str)) = g at q ⊢
      cases g with
      | false => exact iteF' rfl (q _ xH1)
      | true =>
        refine iteT' rfl ?_
        refine ⟨_, rfl, _, (hd :: tl).length, rfl, .inl ⟨_, SqL.of nH1, (List.length_map _).symm⟩, _, _, rfl, rfl, _, rfl, ?_⟩
        have dl : decide ((1 : Int) < ((hd :: tl).length : Nat)) = decide (tl ≠ []) := by
          rw [Bool.eq_iff_iff, decide_eq_true_iff, decide_eq_true_iff, List.length_cons]
          cases tl <;> simp
          omega
        rw [dl]
        generalize decide (tl ≠ []) = g at q ⊢
        cases g with
        | false => exact iteF' rfl (q _ xH1)
        | true =>
          refine iteT' rfl ?_
          refine ⟨_, rfl, _, rfl, w1, _, rfl, SqL.of nH1, fun s1 hs1 => ?_⟩
          rw [show (1 : Int) = ((1 : Nat) : Int) from rfl, cutV_drop (by rw [List.length_map]; exact Nat.le_add_left 1 _)]
          refine ⟨s1, tl, rfl, SqL.of upd_same, fun z hz => Nat.le_trans (tsz.2 z hz) (by omega), by omega, fun H' x' => ?_⟩
          exact q _ (xH1.trans ((Ext.upd hs1).trans x'))
    have i0 : i ≠ 0 := fun e => c (decide_eq_true e)
    refine ⟨_, rfl, l, _, _, _, rfl, rfl, SqL.of (xH1 _ _ hl), atI_nat (j := 0) (bsz hl0), ⟨_, rfl⟩, _, (" " : Str), rfl, rfl, by decide, by rw [sizeLine_eq]; omega, fun w2 hw2 => ?_⟩
    obtain ⟨h0, t0, ew0⟩ := wds_cons l0
    have tlw0 : tlW l0 = t0 := by unfold tlW; rw [ew0]; rfl
    rw [tlw0] at t0sz
    rw [sp_eq, show Txt.split l0 sp1 = h0 :: t0 from ew0]
    obtain ⟨H2, hH2⟩ : ∃ H2, H2 = L2.upd H1 w2 (.lst ((h0 :: t0).map V.str)) := ⟨_, rfl⟩
    have xH2 : Ext H1 H2 := by
      rw [hH2]
      exact Ext.upd hw2
    have nH2 : H2 w2 = some (.lst ((h0 :: t0).map V.str)) := by rw [hH2, upd_same]
    rw [← hH2]
    clear hH2
    refine ⟨_, rfl, w2, _, rfl, SqL.of nH2, fun w3 hw3 => ?_⟩
    rw [show (1 : Int) = ((1 : Nat) : Int) from rfl, cutV_drop (by rw [List.length_map]; exact Nat.le_add_left 1 _), show List.drop 1 ((h0 :: t0).map V.str) = t0.map V.str from rfl]
    obtain ⟨H3, hH3⟩ : ∃ H3, H3 = L2.upd H2 w3 (.lst (t0.map V.str)) := ⟨_, rfl⟩
    have xH3 : Ext H2 H3 := by
      rw [hH3]
      exact Ext.upd hw3
    have nH3 : H3 w3 = some (.lst (t0.map V.str)) := by rw [hH3, upd_same]
    rw [← hH3]
    clear hH3
    have x13 := xH2.trans xH3
    have x03 := xH1.trans x13
    refine ⟨_, rfl, rfl, _, rfl, ?_⟩
    rw [dec0]
    refine ite2 (fun c => ?_) (fun c => ?_)
    · have i1 : i = 1 := of_decide_eq_true c
      subst i1
      rw [stand_one hl0 hln] at q
      refine ⟨_, rfl, w1, _, _, .str hd, rfl, rfl, SqL.of (x13 _ _ nH1), atI_nat (j := 0) rfl, rfl, _, rfl, ?_⟩
      have deq : decide (V.str hd = V.str "things") = decide (hd = "things") := by
        rw [Bool.eq_iff_iff, decide_eq_true_iff, decide_eq_true_iff]
        exact ⟨fun h => by injection h, fun h => by rw [h]⟩
      unfold thB at q
      rw [hdw, tlw, tlw0] at q
      rw [deq]
      generalize decide (hd = ("things" : Str)) = g at q ⊢
      cases g with
      | false => exact iteF' rfl (q _ x03)
      | true =>
        refine iteT' rfl ?_
        refine ⟨_, rfl, _, rfl, _, rfl, w1, _, rfl, SqL.of (x13 _ _ nH1), fun s1 hs1 => ?_⟩
        rw [cutV_drop (by rw [List.length_map]; exact Nat.le_add_left 1 _), show List.drop 1 ((hd :: tl).map V.str) = tl.map V.str from rfl]
        obtain ⟨H4, hH4⟩ : ∃ H4, H4 = L2.upd H3 s1 (.lst (tl.map V.str)) := ⟨_, rfl⟩
        have xH4 : Ext H3 H4 := by
          rw [hH4]
          exact Ext.upd hs1
        have nH4 : H4 s1 = some (.lst (tl.map V.str)) := by rw [hH4, upd_same]
        rw [← hH4]
        clear hH4
        refine ⟨w3, s1, _, _, rfl, rfl, xH4 _ _ nH3, nH4, by rw [List.length_map, List.length_map, sizeLine_eq]; omega, fun s2 hs2 => ?_⟩
        refine ⟨s2, t0 ++ tl, rfl, SqL.of (by rw [upd_same, List.map_append]), fun z hz => ?_, by rw [List.length_append]; omega, fun H' x' => ?_⟩
        · rcases List.mem_append.mp hz with hz | hz
          · exact Nat.le_trans (t0sz.2 z hz) (by omega)
          · exact Nat.le_trans (tsz.2 z hz) (by omega)
        · exact q _ (x03.trans (xH4.trans ((Ext.upd hs2).trans x')))
    have i1 : i ≠ 1 := fun e => c (decide_eq_true e)
    obtain ⟨l1, hl1⟩ : ∃ l1, bs[1]? = some l1 := ⟨_, List.getElem?_eq_getElem (by omega)⟩
    have l1z := bz l1 (List.mem_of_getElem? hl1)
    obtain ⟨h1, t1, ew1⟩ := wds_cons l1
    have tlw1 : tlW l1 = t1 := by unfold tlW; rw [ew1]; rfl
    have t1sz := tl_sz l1
    rw [tlw1] at t1sz
    refine ⟨_, rfl, _, rfl, l, _, _, _, rfl, rfl, SqL.of (x03 _ _ hl), atI_nat (j := 1) (bsz hl1), ⟨_, rfl⟩, _, (" " : Str), rfl, rfl, by decide, by rw [sizeLine_eq]; omega, fun w4 hw4 => ?_⟩
    rw [sp_eq, show Txt.split l1 sp1 = h1 :: t1 from ew1]
    obtain ⟨H4, hH4⟩ : ∃ H4, H4 = L2.upd H3 w4 (.lst ((h1 :: t1).map V.str)) := ⟨_, rfl⟩
    have xH4 : Ext H3 H4 := by
      rw [hH4]
      exact Ext.upd hw4
    have nH4 : H4 w4 = some (.lst ((h1 :: t1).map V.str)) := by rw [hH4, upd_same]
    rw [← hH4]
    clear hH4
    refine ⟨_, rfl, w4, _, rfl, SqL.of nH4, fun w5 hw5 => ?_⟩
    rw [cutV_drop (by rw [List.length_map]; exact Nat.le_add_left 1 _), show List.drop 1 ((h1 :: t1).map V.str) = t1.map V.str from rfl]
    obtain ⟨H5, hH5⟩ : ∃ H5, H5 = L2.upd H4 w5 (.lst (t1.map V.str)) := ⟨_, rfl⟩
    have xH5 : Ext H4 H5 := by
      rw [hH5]
      exact Ext.upd hw5
    have nH5 : H5 w5 = some (.lst (t1.map V.str)) := by rw [hH5, upd_same]
    rw [← hH5]
    clear hH5
    refine ⟨w3, w5, _, _, rfl, rfl, (xH4.trans xH5) _ _ nH3, nH5, by rw [List.length_map, List.length_map, sizeLine_eq]; omega, fun w6 hw6 => ?_⟩
    rw [← List.map_append]
    obtain ⟨H6, hH6⟩ : ∃ H6, H6 = L2.upd H5 w6 (.lst ((t0 ++ t1).map V.str)) := ⟨_, rfl⟩
    have xH6 : Ext H5 H6 := by
      rw [hH6]
      exact Ext.upd hw6
    have nH6 : H6 w6 = some (.lst ((t0 ++ t1).map V.str)) := by rw [hH6, upd_same]
    rw [← hH6]
    clear hH6
    have x36 := xH4.trans (xH5.trans xH6)
    have x06 := x03.trans x36
    have x16 := x13.trans x36
    -- what it comes to
    obtain ⟨bb, ebs⟩ : ∃ bb, bs = l0 :: l1 :: bb := by
      match bs, hl0, hl1 with
      | a :: b :: r, hl0, hl1 => cases hl0; cases hl1; exact ⟨r, rfl⟩
    obtain ⟨k, rfl⟩ : ∃ k, i = k + 2 := ⟨i - 2, by omega⟩
    have hlk : bb[k]? = some ln := by rw [ebs] at hln; exact hln
    have st : standB bs (k + 2) = facLB t0 t1 (bb.take k) ln := by rw [ebs, stand_two hlk, tlw0, tlw1]
    have th1 : thB l0 l1 = true := by
      have := good 1 (by omega)
      rwa [stand_one hl0 hl1] at this
    have nw : newB (t0 ++ t1) = true := by
      unfold thB at th1
      rw [tlw0, tlw1] at th1
      exact (Bool.and_eq_true_iff.mp th1).2
    obtain ⟨ndn, nam⟩ := wrong_names (of_decide_eq_true nw)
    rw [st] at q
    show tSeq _ _ _ [some (.ref l), some (.int ((k + 2 : Nat) : Int)), some (.ref w1), some (.ref w3), some (.ref w6)] _
    refine ⟨_, rfl, _, (hd :: tl).length, rfl, .inl ⟨_, SqL.of (x16 _ _ nH1), (List.length_map _).symm⟩, rfl, _, rfl, ?_⟩
    refine ite2 (fun c => ?_) (fun c => ?_)
    · have e : facLB t0 t1 (bb.take k) ln = false := fac_false fun a w b e _ _ _ => by
        rw [ew] at e
        rw [e] at c
        simp at c
      rw [e] at q
      exact q _ x06
    obtain ⟨a, wd, b, e3⟩ : ∃ a wd b, hd :: tl = [a, wd, b] := by
      have c : (hd :: tl).length = 3 := by
        have : V.int ((hd :: tl).length : Nat) = V.int 3 := by simpa using c
        injection this with this
        omega
      match hd :: tl, c with
      | [a, wd, b], _ => exact ⟨a, wd, b, rfl⟩
    rw [e3] at ew nH1
    have nW : ∀ {H'}, Ext H6 H' → H' w1 = some (.lst [.str a, .str wd, .str b]) := fun x' => x' _ _ (x16 _ _ nH1)
    have uniq : ∀ {a' w' b'}, wds ln = [a', w', b'] → a' = a ∧ w' = wd ∧ b' = b := fun e => by
      rw [ew] at e
      injection e with e1 e
      injection e with e2 e
      injection e with e4 _
      exact ⟨e1.symm, e2.symm, e4.symm⟩
    refine ⟨_, rfl, w1, _, _, _, rfl, rfl, SqL.of (nW Ext.rfl'), rfl, by show 3 ≤ sizeLine; rw [sizeLine_eq]; decide, fun tp htp => ?_⟩
    obtain ⟨H7, hH7⟩ : ∃ H7, H7 = L2.upd H6 tp (.tup [.str "below", .str "not", .str "line"]) := ⟨_, rfl⟩
    have xH7 : Ext H6 H7 := by
      rw [hH7]
      exact Ext.upd htp
    have nH7 : H7 tp = some (.tup [.str "below", .str "not", .str "line"]) := by rw [hH7, upd_same]
    rw [← hH7]
    clear hH7
    refine ⟨tp, _, rfl, .inr (SqT.of nH7), rfl, rfl, _, rfl, ?_⟩
    have inw : inV (.str wd) [.str "below", .str "not", .str "line"] = decide (wd ∈ wordsS) := inV_str wd wordsS
    rw [if_pos rfl, inw]
    refine ite2 (fun c => ?_) (fun c => ?_)
    · have e : facLB t0 t1 (bb.take k) ln = false := fac_false fun a' w' b' e isF _ _ => by
        obtain ⟨_, rfl, _⟩ := uniq e
        rw [decide_eq_true isF.1] at c
        cases c
      rw [e] at q
      exact q _ (x06.trans xH7)
    have win : wd ∈ wordsS := by simpa using c
    refine ⟨_, rfl, _, rfl, l, _, _, _, rfl, rfl, SqL.of ((x06.trans xH7) _ _ hl), atI_nat (bsz hln), _, rfl, _, rfl, _, rfl, _, rfl, l, _, rfl, SqL.of ((x06.trans xH7) _ _ hl), fun s1 hs1 => ?_⟩
    have ct : cutV ((bs ++ [r]).map V.str) (some 2) (some ((k + 2 : Nat) : Int)) = (bb.take k).map V.str := by
      unfold cutV
      rw [show (2 : Int) = ((2 : Nat) : Int) from rfl, HT.sIx_nat, HT.sIx_nat, List.length_map, List.length_append, List.length_singleton, Nat.min_eq_left (by omega), Nat.min_eq_left (by omega), ebs]
      show List.take (k + 2 - 2) ((bb ++ [r]).map V.str) = _
      rw [Nat.add_sub_cancel, ← List.map_take, List.take_append_of_le_length (by have := (List.getElem?_eq_some_iff.mp hlk).1; omega)]
    rw [ct]
    obtain ⟨H8, hH8⟩ : ∃ H8, H8 = L2.upd H7 s1 (.lst ((bb.take k).map V.str)) := ⟨_, rfl⟩
    have xH8 : Ext H7 H8 := by
      rw [hH8]
      exact Ext.upd hs1
    have nH8 : H8 s1 = some (.lst ((bb.take k).map V.str)) := by rw [hH8, upd_same]
    rw [← hH8]
    clear hH8
    have x68 := xH7.trans xH8
    refine ⟨s1, _, rfl, .inl (SqL.of nH8), rfl, flat_strs _, _, rfl, ?_⟩
    rw [if_neg Bool.false_ne_true, inV_str]
    refine ite2 (fun c => ?_) (fun c => ?_)
    · have e : facLB t0 t1 (bb.take k) ln = false := fac_false fun a' w' b' e _ _ n => n (of_decide_eq_true c)
      rw [e] at q
      exact q _ (x06.trans x68)
    have nin : ln ∉ bb.take k := fun z => c (decide_eq_true z)
    refine ⟨_, rfl, w1, _, _, _, rfl, rfl, SqL.of (nW x68), rfl, _, rfl, w6, _, rfl, .inl (SqL.of (x68 _ _ nH6)), rfl, flat_strs _, _, rfl, ?_⟩
    rw [if_pos rfl, inV_str]
    refine ite2 (fun c => ?_) (fun c => ?_)
    · have e : facLB t0 t1 (bb.take k) ln = false := fac_false fun a' w' b' e isF _ _ => by
        obtain ⟨rfl, _, _⟩ := uniq e
        rw [decide_eq_true isF.2.1] at c
        cases c
      rw [e] at q
      exact q _ (x06.trans x68)
    have ain : a ∈ t0 ++ t1 := Classical.byContradiction fun n => c (by rw [decide_eq_false n]; rfl)
    refine ⟨_, rfl, w1, _, _, _, rfl, rfl, SqL.of (nW x68), rfl, _, rfl, w6, _, rfl, .inl (SqL.of (x68 _ _ nH6)), rfl, flat_strs _, _, rfl, ?_⟩
    rw [if_pos rfl, inV_str]
    refine ite2 (fun c => ?_) (fun c => ?_)
    · have e : facLB t0 t1 (bb.take k) ln = false := fac_false fun a' w' b' e isF _ _ => by
        obtain ⟨_, _, rfl⟩ := uniq e
        rw [decide_eq_true isF.2.2.1] at c
        cases c
      rw [e] at q
      exact q _ (x06.trans x68)
    have bin : b ∈ t0 ++ t1 := Classical.byContradiction fun n => c (by rw [decide_eq_false n]; rfl)
    refine ⟨_, rfl, w1, _, _, _, rfl, rfl, SqL.of (nW x68), rfl, _, rfl, w1, _, _, _, rfl, rfl, SqL.of (nW x68), rfl, rfl, _, rfl, ?_⟩
    refine ite2 (fun c => ?_) (fun c => ?_)
    · have ab : a = b := by
        have : V.str a = V.str b := of_decide_eq_true c
        injection this
      have e : facLB t0 t1 (bb.take k) ln = false := fac_false fun a' w' b' e isF _ _ => by
        obtain ⟨rfl, _, rfl⟩ := uniq e
        exact isF.2.2.2.1 ab
      rw [e] at q
      exact q _ (x06.trans x68)
    have ab : a ≠ b := fun z => c (decide_eq_true (by rw [z]))
    refine ⟨_, rfl, w1, _, _, _, rfl, rfl, SqL.of (nW x68), rfl, rfl, _, rfl, ?_⟩
    refine ite2 (fun c => ?_) (fun c => ?_)
    · have wl : wd = "line" := by
        have : V.str wd = V.str "line" := of_decide_eq_true c
        injection this
      subst wl
      obtain ⟨ia, hia⟩ := List.mem_iff_getElem?.mp ain
      obtain ⟨ib, hib⟩ := List.mem_iff_getElem?.mp bin
      refine ⟨_, rfl, (.inl ⟨rfl, _, .inl (.inl (x68 _ _ nH6))⟩), _, rfl, w1, _, _, _, rfl, rfl, SqL.of (nW x68), rfl, w6, _, _, ia, _, rfl, rfl, SqL.of (x68 _ _ nH6), rfl, flat_strs _, by rw [List.getElem?_map, hia]; rfl, beq_self_eq_true _, strs_idx ndn hia, ?_⟩
      refine ⟨_, rfl, (.inl ⟨rfl, _, .inl (.inl (x68 _ _ nH6))⟩), _, rfl, w1, _, _, _, rfl, rfl, SqL.of (nW x68), rfl, w6, _, _, ib, _, rfl, rfl, SqL.of (x68 _ _ nH6), rfl, flat_strs _, by rw [List.getElem?_map, hib]; rfl, beq_self_eq_true _, strs_idx ndn hib, ?_⟩
      refine ⟨_, _, rfl, rfl, ?_⟩
      have e : facLB t0 t1 (bb.take k) ln = decide ((ia : Int) < (ib : Nat)) := by
        rcases Nat.lt_trichotomy ia ib with h | h | h
        · rw [decide_eq_true (by omega)]
          exact fac_true ew ⟨win, ain, bin, ab, .inl rfl⟩ (toldS_line (ord_lt ndn hia hib h)) nin
        · subst h
          rw [hia] at hib
          injection hib with hib
          exact absurd hib ab
        · rw [decide_eq_false (by omega)]
          refine fac_false fun a' w' b' e _ t _ => ?_
          obtain ⟨rfl, rfl, rfl⟩ := uniq e
          rw [toldS_line' (ord_lt ndn hib hia h)] at t
          injection t with _ t
          injection t with t _
          exact ab t.symm
      rw [e] at q
      exact q _ (x06.trans x68)
    · have wl : wd ≠ "line" := fun z => c (decide_eq_true (by rw [z]))
      refine ⟨_, rfl, w1, _, _, _, rfl, rfl, SqL.of (nW x68), rfl, _, rfl, w3, _, rfl, .inl (SqL.of ((x36.trans x68) _ _ nH3)), rfl, flat_strs _, ?_⟩
      rw [if_neg Bool.false_ne_true, inV_str]
      have e : facLB t0 t1 (bb.take k) ln = decide (b ∈ t0) := by
        by_cases h : b ∈ t0
        · rw [decide_eq_true h]
          exact fac_true ew ⟨win, ain, bin, ab, .inr h⟩ (toldS_other wl) nin
        · rw [decide_eq_false h]
          refine fac_false fun a' w' b' e isF _ _ => ?_
          obtain ⟨rfl, rfl, rfl⟩ := uniq e
          exact isF.2.2.2.2.elim wl h
      rw [e] at q
      exact q _ (x06.trans x68)
theorem ok_dueL (Fn : FnP K "_law_due" s__law_due f fd) (h_law_can_stand : Has P w K mg base 3 "_law_can_stand" ["_law_lines", "_law_at"] (spCanStand K)) (gB_len : mg "len" = none) (gB_range : mg "range" = none) : FnOk P w K mg base CX0 4 f fd ["_law_text"] spDueL := by
  refine Fn.ok sc__law_due (fun vs H Q E h => ?_) (fun cdv A outer s H vs Q E hr h => ⟨_, PSs.nox
    (pss_cons (ps_set (i := 1) sc__law_due.nd rfl (Or.inl rfl) (pe_split (pv 0) pe_str))
      (pss_cons (ps_for PassesOwn.never rfl (pi_range1 (by rfl) gB_range (pa_cons (pe_op op_sub (pe_callB call_len (by rfl) gB_len boot_len (pa_cons (pv 1) pa_nil)) pe_int) pa_nil)) (pg_name (i := 2) sc__law_due.nd rfl (Or.inl rfl))
      (pss_one (ps_if (pt_not (pt_val (pe_has h_law_can_stand (hr.mono (by decide)) (pa_cons (pv 1) (pa_cons (pv 2) pa_nil))))) (pss_one (ps_ret (pe_op op_add (pv 2) pe_int))) pss_nil)))
      (pss_one (ps_ret (pe_ifExp (PW.pt (pw_or (pt_cmpR op_ne (pe_ix ix_list (pv 1) (pe_un un_neg pe_int) (fun _ _ => rfl)) pe_str (nomark _)) (pw_or1 (pt_cmpR op_lt (pe_callB call_len (by rfl) gB_len boot_len (pa_cons (pv 1) pa_nil)) pe_int (nomark _))))) (pe_callB call_len (by rfl) gB_len boot_len (pa_cons (pv 1) pa_nil)) pe_non))))), ?_⟩)
  · obtain ⟨t, rfl, _⟩ := h
    rfl
  · obtain ⟨tx, rfl, tl, q⟩ := h
    have tsz := split_sz tx 10
    rw [show Txt.split tx ⟨#[10]⟩ = lns tx from rfl] at tsz
    have lsp := lns_split tx
    obtain ⟨bs, hbs⟩ : ∃ bs, bs = (lns tx).dropLast := ⟨_, rfl⟩
    obtain ⟨rr, hrr⟩ : ∃ rr, rr = (lns tx).getLastD ⟨#[]⟩ := ⟨_, rfl⟩
    have due : dueT tx = dueB bs rr := by rw [hbs, hrr]; rfl
    rw [← hbs, ← hrr] at lsp
    rw [due] at q
    have bl : bs.length ≤ 450 := by
      have := tsz.1
      rw [lsp, List.length_append, List.length_singleton] at this
      omega
    have bz : ∀ z, z ∈ bs → z.length ≤ 450 := fun z hz => by
      have := tsz.2 z (by rw [lsp]; exact List.mem_append_left _ hz)
      omega
    clear hbs hrr tsz due
    refine ⟨_, rfl, ⟨_, rfl⟩, _, ("\n" : Str), rfl, rfl, by decide, by rw [sizeLine_eq]; omega, fun l0 hl0 => ?_⟩
    rw [nl_eq, show Txt.split tx nl1 = bs ++ [rr] from lsp]
    obtain ⟨H1, hH1⟩ : ∃ H1, H1 = L2.upd H l0 (.lst ((bs ++ [rr]).map V.str)) := ⟨_, rfl⟩
    have xH1 : Ext H H1 := by
      rw [hH1]
      exact Ext.upd hl0
    have nH1 : H1 l0 = some (.lst ((bs ++ [rr]).map V.str)) := by rw [hH1, upd_same]
    rw [← hH1]
    clear hH1
    have ll : ((bs ++ [rr]).map V.str).length = bs.length + 1 := by rw [List.length_map, List.length_append]; rfl
    refine ⟨_, rfl, _, bs.length + 1, rfl, .inl ⟨_, SqL.of nH1, ll.symm⟩, _, _, rfl, rfl, (bs.length : Int), by show [V.int (((bs.length + 1 : Nat) : Int) - 1)] = _; rw [show (((bs.length + 1 : Nat) : Int) - 1) = (bs.length : Int) by omega], Int.natCast_nonneg _, by omega, for_range (lo := 0) (n := bs.length) (fun k σ H' => Ext H1 H' ∧ (∃ v, σ = [some (.str tx), some (.ref l0), v]) ∧ ∀ j, j < k → standB bs j = true) ⟨Ext.rfl', ⟨none, rfl⟩, fun j hj => absurd hj (Nat.not_lt_zero j)⟩ ?_ ?_⟩
    · rintro k σ H2 hk ⟨x2, ⟨v, rfl⟩, good⟩
      refine ⟨_, rfl, _, rfl, l0, bs, rr, k, by rw [Int.zero_add]; rfl, x2 _ _ nH1, hk, bl, bz, good, fun H3 x3 => ⟨_, rfl, ?_⟩⟩
      cases c : standB bs k with
      | true =>
        refine iteF' rfl ⟨x2.trans x3, ⟨_, rfl⟩, fun j hj => ?_⟩
        rcases Nat.lt_or_ge j k with d | d
        · exact good j d
        · rw [show j = k by omega]
          exact c
      | false =>
        refine iteT' rfl ⟨_, rfl, _, _, rfl, rfl, ?_⟩
        have dn := due_at (r := rr) hk c good
        have qq := q _ (xH1.trans (x2.trans x3))
        rw [dn] at qq
        rw [Int.zero_add]
        exact qq
    · rintro σ H2 ⟨x2, ⟨v, rfl⟩, good⟩
      have hl2 := x2 _ _ nH1
      have atl : ((bs ++ [rr]).map V.str)[bs.length]? = some (.str rr) := by
        rw [List.getElem?_map, List.getElem?_append_right (Nat.le_refl _), Nat.sub_self]
        rfl
      refine ⟨_, rfl, _, rfl, l0, _, _, .str rr, rfl, rfl, SqL.of hl2, ?_, rfl, _, rfl, ?_⟩
      · unfold atI ixN
        rw [if_neg (by decide), if_pos (by rw [ll]; omega), ll]
        show ((bs ++ [rr]).map V.str)[(-1 + ((bs.length + 1 : Nat) : Int)).toNat]? = _
        rw [show (-1 + ((bs.length + 1 : Nat) : Int)).toNat = bs.length by omega]
        exact atl
      have qq := q _ (xH1.trans x2)
      rw [em_eq]
      have lenV : LenV K (.ref l0) H2 (bs.length + 1) := .inl ⟨_, SqL.of hl2, ll.symm⟩
      refine ite2 (fun c => ?_) (fun c => ?_)
      · refine iteT' rfl ⟨_, rfl, _, _, rfl, lenV, ?_⟩
        rw [due_end good fun z => by rw [z.1] at c; simp at c] at qq
        exact qq
      · have er : rr = ⟨#[]⟩ := by
          have : V.str rr = V.str ⟨#[]⟩ := by simpa using c
          injection this
        refine ⟨_, rfl, _, _, rfl, lenV, _, _, rfl, rfl, _, rfl, ?_⟩
        refine ite2 (fun c2 => ?_) (fun c2 => ?_)
        · have := of_decide_eq_true c2
          refine ⟨_, rfl, _, _, rfl, lenV, ?_⟩
          rw [due_end good fun z => by omega] at qq
          exact qq
        · rw [due_no good ⟨er, Nat.le_of_not_lt fun h => c2 (decide_eq_true (by omega))⟩] at qq
          exact qq
end
end My

namespace My
open PySem PySem.Spec PyProof.Rows L2
def spMixedS : Sp := fun vs H Q _ => ∃ (p l : Addr) (js : List Str) (n : Int), vs = [.ref p, .ref l] ∧ Pool H p n ∧ n < 900000 ∧ H l = some (.lst (js.map V.str)) ∧ l ≠ p ∧ js.length ≤ 20 ∧
  ∀ (d : Addr) (ks : List Str) (H' : Hp), But H H' p → Pool H' p (n + (js.length : Nat)) → H d = none → H' d = some (.lst (ks.map V.str)) → ks.Perm js → Q (.ref d) H'
def spRefG : Sp := fun vs H Q _ => ∃ t, vs = [.str t] ∧ t.length ≤ 450 ∧ ∀ H', Ext H H' → Q (optV (dueT t)) H'
/-- lines of a text, in bounds -/
structure LB (zs : List Str) (n m : Nat) : Prop where
  num : zs.length ≤ n
  sz : ∀ z, z ∈ zs → z.length ≤ m
def spSpoilt : Sp := fun vs H Q _ => ∃ (p l : Addr) (ls : List Str) (fo : Str) (n : Int), vs = [.ref p, .ref l, .str fo] ∧ Pool H p n ∧ n < 800000 ∧ H l = some (.lst (ls.map V.str)) ∧ l ≠ p ∧ 1 ≤ ls.length ∧ LB ls 8 34 ∧ fo.length ≤ 8 ∧
  ∀ (d : Addr) (ks : List Str) (H' : Hp), But H H' p → Pool H' p (n + 30) → H d = none → H' d = some (.lst (ks.map V.str)) → LB ks 9 35 → Q (.ref d) H'
theorem map_erase {α β : Type} (f : α → β) : ∀ (l : List α) (k : Nat), (l.eraseIdx k).map f = (l.map f).eraseIdx k
  | [], _ => rfl
  | _ :: _, 0 => rfl
  | a :: l, k + 1 => congrArg (f a :: ·) (map_erase f l k)
theorem ixN_of {n i : Nat} (h : i < n) : ixN n (i : Int) = some i := by
  unfold ixN
  rw [if_pos (by omega), if_pos (by omega)]
  simp
theorem cut_sz (z : Str) (r : Nat) : (cutS z none (some (r : Int))).length ≤ r ∧ (cutS z (some (r : Int)) none).length ≤ z.length - r := by
  constructor
  · show (((z.cps.toList.drop (HT.sIx z.length 0 none)).take (HT.sIx z.length z.length (some (r : Int)) - HT.sIx z.length 0 none)).toArray).size ≤ _
    rw [List.size_toArray, List.length_take, HT.sIx_none, HT.sIx_nat]
    omega
  · show (((z.cps.toList.drop (HT.sIx z.length 0 (some (r : Int)))).take (HT.sIx z.length z.length none - HT.sIx z.length 0 (some (r : Int)))).toArray).size ≤ _
    rw [List.size_toArray, List.length_take, HT.sIx_none, HT.sIx_nat]
    omega
theorem cut_any (z : Str) (hi : Option Int) : (cutS z none hi).length ≤ z.length := by
  show (((z.cps.toList.drop (HT.sIx z.length 0 none)).take (HT.sIx z.length z.length hi - HT.sIx z.length 0 none)).toArray).size ≤ _
  rw [List.size_toArray, List.length_take, List.length_drop, Array.length_toList]
  have : z.cps.size = z.length := rfl
  omega
abbrev nm__law_mixed : List Str := ["_law_pool_here", "_law_things", "_law_left", "_law_found", "_law_k", "_law_at"]
theorem sc__law_mixed : FnScope nm__law_mixed ["_law_pool_here", "_law_things"] (defScope s__law_mixed) := ⟨rfl, rfl, rfl, by decide +kernel, rfl, by decide +kernel, by decide +kernel⟩
abbrev nm__law_refused : List Str := ["_law_text", "e"]
theorem sc__law_refused : FnScope nm__law_refused ["_law_text"] (defScope s__law_refused) := ⟨rfl, rfl, rfl, by decide +kernel, rfl, by decide +kernel, by decide +kernel⟩
abbrev nm__law_spoilt : List Str := ["_law_pool_here", "_law_lines", "_law_folder", "_law_found", "_law_at", "_law_way", "_law_odd", "_law_spot"]
theorem sc__law_spoilt : FnScope nm__law_spoilt ["_law_pool_here", "_law_lines", "_law_folder"] (defScope s__law_spoilt) := ⟨rfl, rfl, rfl, by decide +kernel, rfl, by decide +kernel, by decide +kernel⟩
section
variable {P : Program} {w : World} {K : PySem.W.Frag} {mg : Str → Option Value} {base : Heap} {f C CB CF CE CX : Addr} {fd : FuncData}
theorem ok_mixed (Fn : FnP K "_law_mixed" s__law_mixed f fd) (h_law_take : Has P w K mg base 1 "_law_take" ["_law_pool_here", "_law_many"] spTake) (gB_len : mg "len" = none) (gB_list : mg "list" = none) (gB_range : mg "range" = none) :
    FnOk P w K mg base CX0 2 f fd ["_law_pool_here", "_law_things"] spMixedS := by
  refine Fn.ok sc__law_mixed (fun vs H Q E h => ?_) (fun cdv A outer s H vs Q E hr h => ⟨_, PSs.nox
    (pss_cons (ps_set (i := 2) sc__law_mixed.nd rfl (Or.inl rfl) (pe_callTy call_lstS (by rfl) gB_list (by decide +kernel) (pa_cons (pv 1) pa_nil)))
      (pss_cons (ps_set (i := 3) sc__law_mixed.nd rfl (Or.inl rfl) (pe_lst pa_nil))
      (pss_cons (ps_for PassesOwn.never rfl (pi_range1 (by rfl) gB_range (pa_cons (pe_callB call_len (by rfl) gB_len boot_len (pa_cons (pv 1) pa_nil)) pa_nil)) (pg_name (i := 4) sc__law_mixed.nd rfl (Or.inl rfl))
      (pss_cons (ps_set (i := 5) sc__law_mixed.nd rfl (Or.inl rfl) (pe_has h_law_take (hr.mono (by decide)) (pa_cons (pv 0) (pa_cons (pe_callB call_len (by rfl) gB_len boot_len (pa_cons (pv 2) pa_nil)) pa_nil))))
      (pss_cons (ps_expr (pe_bm PySem.F.plainAttrs_list PySem.F.slot_list_append PySem.F.type_list_append mt_append (pv 3) (pa_cons (pe_ix ix_list (pv 2) (pv 5) (fun _ _ => rfl)) pa_nil)))
      (pss_one (ps_set (i := 2) sc__law_mixed.nd rfl (Or.inl rfl) (pe_op L2.op_cat (pe_slice sl_list (pv 2) po_none (po_some (pv 5))) (pe_slice sl_list (pv 2) (po_some (pe_op op_add (pv 5) pe_int)) po_none)))))))
      (pss_one (ps_ret (pv 3)))))), ?_⟩)
  · obtain ⟨p, l, js, n, rfl, _⟩ := h
    rfl
  · obtain ⟨p, l, js, n, rfl, hp, hn, hl, nlp, jl, q⟩ := h
    have lm : ∀ zs : List Str, (zs.map V.str).length = zs.length := fun zs => List.length_map _
    refine ⟨_, rfl, l, _, rfl, .inl (SqL.of hl), fun L hL => ?_⟩
    have x1 := Ext.upd (o := .lst (js.map V.str)) hL
    refine ⟨Nat.zero_le _, fun F hF => ?_⟩
    have x2 := Ext.upd (o := .lst []) hF
    have FL : F ≠ L := (ne_of_none upd_same hF).symm
    have hF0 : H F = none := ext_none x1 hF
    have nLp : L ≠ p := pool_ne hp hL
    have nFp : F ≠ p := pool_ne hp hF0
    refine ⟨_, rfl, _, js.length, rfl, .inl ⟨_, SqL.of ((x1.trans x2) _ _ hl), by rw [lm]⟩, _, rfl, Int.natCast_nonneg _, Int.lt_of_le_of_lt (Int.ofNat_le.mpr jl) (by decide), for_range (lo := 0) (n := js.length) (fun k σ H' => ∃ (v1 v2 : Option V) (L' : Addr) (ls fs : List Str), σ = [some (.ref p), some (.ref l), some (.ref L'), some (.ref F), v1, v2] ∧ But H H' p ∧ Pool H' p (n + k) ∧ H' L' = some (.lst (ls.map V.str)) ∧ L' ≠ p ∧ L' ≠ F ∧ H' F = some (.lst (fs.map V.str)) ∧ (fs ++ ls).Perm js ∧ fs.length = k) ?_ ?_ ?_⟩
    · exact ⟨none, none, L, js, [], rfl, ext_but (x1.trans x2), by rw [show n + ((0 : Nat) : Int) = n by omega]; exact pool_ext hp (x1.trans x2), x2 _ _ upd_same, nLp, Ne.symm FL, upd_same, .refl _, rfl⟩
    · rintro k σ H1 hk ⟨v1, v2, L', ls, fs, rfl, b1, p1, hL', nL'p, nL'F, hF', pm, flen⟩
      have plen : fs.length + ls.length = js.length := by rw [← List.length_append]; exact pm.length_eq
      refine ⟨_, rfl, _, rfl, _, ls.length, rfl, .inl ⟨_, SqL.of hL', by rw [lm]⟩, p, _, n + k, rfl, by omega, by omega, p1, by omega, fun r o r0 r1 gp => ?_⟩
      obtain ⟨r, rfl⟩ := Int.eq_ofNat_of_zero_le r0
      have r1' : r < ls.length := by omega
      obtain ⟨H2, hH2⟩ : ∃ H2, H2 = L2.upd H1 p o := ⟨_, rfl⟩
      rw [← hH2] at gp ⊢
      have L2' : H2 L' = some (.lst (ls.map V.str)) := by rw [hH2, upd_ne nL'p]; exact hL'
      have F2' : H2 F = some (.lst (fs.map V.str)) := by rw [hH2, upd_ne nFp]; exact hF'
      have r1v : r < (ls.map V.str).length := by rw [lm]; exact r1'
      refine ⟨_, rfl, .inl ⟨rfl, _, .inl (.inl F2')⟩, _, rfl, _, rfl, L', _, _, .str ls[r], rfl, rfl, SqL.of L2', atI_nat (by rw [List.getElem?_map, List.getElem?_eq_getElem r1']; rfl), F, _, _, rfl, rfl, F2', by rw [lm, sizeLine_eq]; omega, ?_⟩
      obtain ⟨H3, hH3⟩ : ∃ H3, H3 = L2.upd H2 F (.lst (fs.map V.str ++ [.str ls[r]])) := ⟨_, rfl⟩
      rw [← hH3]
      have L3' : H3 L' = some (.lst (ls.map V.str)) := by rw [hH3, upd_ne nL'F]; exact L2'
      have F3' : H3 F = some (.lst ((fs ++ [ls[r]]).map V.str)) := by rw [hH3, upd_same, List.map_append]; rfl
      have b3 : But H H3 p := fun b u hb e => by
        rw [hH3, upd_ne (ne_of_none e hF0), hH2, upd_ne hb]
        exact b1 b u hb e
      have p3 : Pool H3 p (n + k + 1) := by rw [hH3]; exact pool_upd gp nFp
      refine ⟨_, rfl, _, rfl, _, rfl, L', _, rfl, SqL.of L3', fun s1 hs1 => ?_⟩
      rw [cutV_take (Nat.le_of_lt r1v)]
      have w1 := Ext.upd (o := .lst ((ls.map V.str).take r)) hs1
      refine ⟨_, rfl, _, rfl, _, _, rfl, rfl, ?_⟩
      refine ⟨_, rfl, L', _, rfl, SqL.of (w1 _ _ L3'), fun s2 hs2 => ?_⟩
      rw [show ((r : Int) + 1) = (((r + 1 : Nat)) : Int) by omega, cutV_drop (show r + 1 ≤ (ls.map V.str).length by omega)]
      have w2 := Ext.upd (o := .lst ((ls.map V.str).drop (r + 1))) hs2
      refine ⟨s1, s2, _, _, rfl, rfl, w2 _ _ upd_same, upd_same, by rw [List.length_take, List.length_drop, sizeLine_eq, lm]; omega, fun s3 hs3 => ?_⟩
      have w3 := Ext.upd (o := .lst ((ls.map V.str).take r ++ (ls.map V.str).drop (r + 1))) hs3
      have w := w1.trans (w2.trans w3)
      have hs30 : H3 s3 = none := ext_none (w1.trans w2) hs3
      refine ⟨_, _, s3, ls.take r ++ ls.drop (r + 1), fs ++ [ls[r]], rfl, b3.ext w, ?_, ?_, ?_, ?_, w _ _ F3', ?_, by rw [List.length_append, flen]; rfl⟩
      · rw [show n + ((k + 1 : Nat) : Int) = n + k + 1 by omega]
        exact pool_ext p3 w
      · rw [upd_same, List.map_append, List.map_take, List.map_drop]
      · exact pool_ne p3 hs30
      · exact fun e => by rw [e, F3'] at hs30; cases hs30
      · refine List.Perm.trans ?_ pm
        rw [List.append_assoc]
        refine List.Perm.append_left fs ?_
        have e : ls = ls.take r ++ (ls[r] :: ls.drop (r + 1)) := by
          rw [← List.drop_eq_getElem_cons r1', List.take_append_drop]
        refine List.Perm.trans ?_ (List.Perm.of_eq e.symm)
        exact (List.perm_middle (a := ls[r]) (l₁ := ls.take r) (l₂ := ls.drop (r + 1))).symm
    · rintro σ H1 ⟨v1, v2, L', ls, fs, rfl, b1, p1, hL', nL'p, nL'F, hF', pm, flen⟩
      have plen : fs.length + ls.length = js.length := by rw [← List.length_append]; exact pm.length_eq
      have e : ls = [] := List.length_eq_zero_iff.mp (by omega)
      subst e
      rw [List.append_nil] at pm
      exact ⟨_, rfl, q F fs H1 b1 p1 hF0 hF' pm⟩
theorem ok_refused (Fn : FnP K "_law_refused" s__law_refused f fd) (F : FacTxt P w K mg CF C CE) (hread : HasX P w K mg base 10 "read" ["text"] (spReadG K CF C CX))
    (gX : mg "BadText" = some (.ref CX)) (xX : XfC K CX) (nX : PySem.W.findIn K (.ref CX) "line" = some none) (eX : PySem.W.exmOne K (.ref CX) (.ref CX) = some true) (gB_isinstance : mg "isinstance" = none) :
    FnOk P w K mg base CX0 11 f fd ["_law_text"] spRefG := by
  obtain ⟨fR, fdR, FR, gR, kR, bR⟩ := hread
  refine Fn.ok sc__law_refused (fun vs H Q E h => ?_) (fun cdv A outer s H vs Q E hr h => ⟨_, PSs.nox
    (pss_one (ps_try_as (i := 1) (tb := fun W => tRet (tIf (tB (tCB (rIsi K) (tCons (tCallS (spReadG K CF C CX) (WE W) (tCons (tVar 0) tNil)) (tCons (tC (.ref CF)) tNil)))) (tC .non) (tC (.int 0)))) (ts := fun a cls d => tRet (tXf a cls d CX "line" (tVar 1))) (Wout := fun _ _ _ _ => False) rfl rfl sc__law_refused.nd rfl rfl ⟨rfl, by decide, .inl gX⟩ takes0
      (fun W pn xe tk _ => pss_one (ps_ret (by exact (pe_ifExp (pt_val (pe_callB (caK (r := rIsi) (K := K) rfl call_isi) (by rfl) gB_isinstance boot_isinstance (pa_cons (pe_callS FR hr (by rfl) gR kR bR (fun σ => passAt tk σ) (by exact (pa_cons (pv 0) pa_nil))) (pa_cons (pe_glob (v := .ref CF) (by rfl) F.gF rfl) pa_nil)))) pe_non pe_int))))
      (fun a oe cls d pn hz hf => pss_one (ps_ret (by exact (pe_xf xX nX hz hf (pv 1))))))), ?_⟩)
  · obtain ⟨t, rfl, _⟩ := h
    rfl
  · obtain ⟨t, rfl, tl, q⟩ := h
    refine ⟨_, rfl, t, rfl, tl, fun n hn d H' x' h0 hd => ?_, fun hn f1 H' fo th rows x' fa => ?_⟩
    · refine ⟨true, eX, fun _ a0 _ => ⟨_, rfl, rfl, rfl, d, _, _, rfl, hd, rfl, ?_⟩, fun q => nomatch q⟩
      have qq := q H' x'
      rw [hn] at qq
      exact qq
    · refine ⟨_, _, _, _, true, rfl, .own CF, tyF F.T fa, F.kFF, true, rfl, iteT' rfl ?_⟩
      have qq := q H' x'
      rw [hn] at qq
      exact qq
theorem ok_spoilt (Fn : FnP K "_law_spoilt" s__law_spoilt f fd) (h_law_take : Has P w K mg base 1 "_law_take" ["_law_pool_here", "_law_many"] spTake) (h_law_mixed : Has P w K mg base 2 "_law_mixed" ["_law_pool_here", "_law_things"] spMixedS) (gB_len : mg "len" = none) (gB_list : mg "list" = none) : FnOk P w K mg base CX0 3 f fd ["_law_pool_here", "_law_lines", "_law_folder"] spSpoilt := by
  refine Fn.ok sc__law_spoilt (fun vs H Q E h => ?_) (fun cdv A outer s H vs Q E hr h => ⟨_, PSs.nox
    (pss_cons (ps_par (i := 3) (j := 4) rfl sc__law_spoilt.nd rfl rfl (by decide) rfl rfl (pa_cons (pe_callTy call_lstS (by rfl) gB_list (by decide +kernel) (pa_cons (pv 1) pa_nil)) (pa_cons (pe_has h_law_take (hr.mono (by decide)) (pa_cons (pv 0) (pa_cons (pe_callB call_len (by rfl) gB_len boot_len (pa_cons (pv 1) pa_nil)) pa_nil))) pa_nil)) (by rfl))
      (pss_cons (ps_set (i := 5) sc__law_spoilt.nd rfl (Or.inl rfl) (pe_has h_law_take (hr.mono (by decide)) (pa_cons (pv 0) (pa_cons pe_int pa_nil))))
      (pss_cons (ps_set (i := 6) sc__law_spoilt.nd rfl (Or.inl rfl) (pe_lst (pa_cons pe_str (pa_cons pe_str (pa_cons pe_str (pa_cons pe_str (pa_cons (pe_op op_add_str pe_str (pv 2)) (pa_cons (pe_op op_add_str (pe_op op_add_str (pv 2) pe_str) (pv 2)) (pa_cons pe_str pa_nil)))))))))
      (pss_cons (ps_set (i := 6) sc__law_spoilt.nd rfl (Or.inl rfl) (pe_op L2.op_cat (pv 6) (pe_lst (pa_cons (pe_op op_add_str (pv 2) pe_str) (pa_cons pe_str (pa_cons (pe_op op_add_str (pe_op op_add_str (pv 2) pe_str) (pv 2)) (pa_cons pe_str pa_nil)))))))
      (pss_cons (ps_set (i := 6) sc__law_spoilt.nd rfl (Or.inl rfl) (pe_op L2.op_cat (pv 6) (pe_lst (pa_cons (pe_op op_add_str (pv 2) pe_str) (pa_cons (pe_op op_add_str (pv 2) pe_str) pa_nil)))))
      (C8.pss_cut (ps_if (pt_cmpR op_eq (pv 5) pe_int (nomark _)) (pss_one (ps_expr (pe_bm PySem.F.plainAttrs_list PySem.F.slot_list_insert PySem.F.type_list_insert mt_insert (pv 3) (pa_cons (pv 4) (pa_cons (pe_ix ix_list (pv 6) (pe_has h_law_take (hr.mono (by decide)) (pa_cons (pv 0) (pa_cons (pe_callB call_len (by rfl) gB_len boot_len (pa_cons (pv 6) pa_nil)) pa_nil))) (fun _ _ => rfl)) pa_nil))))) (pss_one (ps_if (pt_cmpR op_eq (pv 5) pe_int (nomark _)) (pss_one (ps_expr (pe_bm PySem.F.plainAttrs_list PySem.F.slot_list_pop PySem.F.type_list_pop mt_popAt (pv 3) (pa_cons (pv 4) pa_nil)))) (pss_one (ps_if (pt_cmpR op_eq (pv 5) pe_int (nomark _)) (pss_one (ps_expr (pe_bm PySem.F.plainAttrs_list PySem.F.slot_list_insert PySem.F.type_list_insert mt_insert (pv 3) (pa_cons (pe_has h_law_take (hr.mono (by decide)) (pa_cons (pv 0) (pa_cons (pe_op op_add (pe_callB call_len (by rfl) gB_len boot_len (pa_cons (pv 3) pa_nil)) pe_int) pa_nil))) (pa_cons (pe_ix ix_list (pv 3) (pv 4) (fun _ _ => rfl)) pa_nil))))) (pss_one (ps_if (pt_cmpR op_eq (pv 5) pe_int (nomark _)) (pss_cons (ps_set (i := 7) sc__law_spoilt.nd rfl (Or.inl rfl) (pe_has h_law_take (hr.mono (by decide)) (pa_cons (pv 0) (pa_cons (pe_op op_add (pe_callB call_len (by rfl) gB_len boot_len (pa_cons (pe_ix ix_list (pv 3) (pv 4) (fun _ _ => rfl)) pa_nil)) pe_int) pa_nil))))
      (pss_one (ps_asg (pe_op op_add_str (pe_op op_add_str (pe_slice sl_str (pe_ix ix_list (pv 3) (pv 4) (fun _ _ => rfl)) po_none (po_some (pv 7))) (pe_ix ix_list (pe_lst (pa_cons pe_str (pa_cons pe_str (pa_cons pe_str (pa_cons pe_str (pa_cons pe_str (pa_cons pe_str pa_nil))))))) (pe_has h_law_take (hr.mono (by decide)) (pa_cons (pv 0) (pa_cons pe_int pa_nil))) (fun _ _ => rfl))) (pe_slice sl_str (pe_ix ix_list (pv 3) (pv 4) (fun _ _ => rfl)) (po_some (pe_op op_add (pv 7) pe_int)) po_none)) (pg_sub (pv 3) (pv 4) set_list)))) (pss_one (ps_set (i := 3) sc__law_spoilt.nd rfl (Or.inl rfl) (pe_op L2.op_cat (pe_slice sl_list (pv 3) po_none (po_some pe_int)) (pe_has h_law_mixed (hr.mono (by decide)) (pa_cons (pv 0) (pa_cons (pe_slice sl_list (pv 3) (po_some pe_int) po_none) pa_nil)))))))))))))
      (pss_one (ps_ret (pv 3))))))))), ?_⟩)
  · obtain ⟨p, l, ls, fo, n, rfl, _⟩ := h
    rfl
  · obtain ⟨p, l, ls, fo, n, rfl, hp, hn, hl, nlp, l1, lb, fl, q⟩ := h
    have lm : ∀ zs : List Str, (zs.map V.str).length = zs.length := fun zs => List.length_map _
    have lnum := lb.num
    refine ⟨_, rfl, l, _, rfl, .inl (SqL.of hl), fun L hL => ?_⟩
    obtain ⟨H1, hH1⟩ : ∃ H1, H1 = L2.upd H L (.lst (ls.map V.str)) := ⟨_, rfl⟩
    have xH1 : Ext H H1 := by
      rw [hH1]
      exact Ext.upd hL
    have nH1 : H1 L = some (.lst (ls.map V.str)) := by rw [hH1, upd_same]
    rw [← hH1]
    clear hH1
    have nLp : L ≠ p := pool_ne hp hL
    refine ⟨_, rfl, _, rfl, _, ls.length, rfl, .inl ⟨_, SqL.of (xH1 _ _ hl), (lm _).symm⟩, p, _, n, rfl, by omega, by omega, pool_ext hp xH1, by omega, fun a o1 a0 a1 gp1 => ⟨_, _, rfl, ?_⟩⟩
    obtain ⟨a, rfl⟩ := Int.eq_ofNat_of_zero_le a0
    have al : a < ls.length := by omega
    obtain ⟨H2, hH2⟩ : ∃ H2, H2 = L2.upd H1 p o1 := ⟨_, rfl⟩
    rw [← hH2] at gp1 ⊢
    have b2 : But H1 H2 p := by
      rw [hH2]
      exact But.upd (ext_but Ext.rfl')
    refine ⟨_, rfl, p, 5, _, rfl, by decide, by decide, gp1, by omega, fun wy o2 w0 w1 gp2 => ?_⟩
    obtain ⟨H3, hH3⟩ : ∃ H3, H3 = L2.upd H2 p o2 := ⟨_, rfl⟩
    rw [← hH3] at gp2 ⊢
    have b3 : But H2 H3 p := by
      rw [hH3]
      exact But.upd (ext_but Ext.rfl')
    have b03 : But H H3 p := ((ext_but xH1).trans b2).trans b3
    have L3 : H3 L = some (.lst (ls.map V.str)) := b3 _ _ nLp (b2 _ _ nLp nH1)
    show tSeq _ _ _ [some (.ref p), some (.ref l), some (.str fo), some (.ref L), some (.int (a : Nat)), some (.int wy), none, none] _
    obtain ⟨zl, hzl⟩ : ∃ zl, ls[a]? = some zl := ⟨_, List.getElem?_eq_getElem al⟩
    have zls := lb.sz zl (List.mem_of_getElem? hzl)
    have n1 : ("zz below " : Str).length = 9 := by decide +kernel
    have n2 : (" below " : Str).length = 7 := by decide +kernel
    have n3 : (" not" : Str).length = 4 := by decide +kernel
    have n4 : ("  below " : Str).length = 8 := by decide +kernel
    have n5 : (" above zz" : Str).length = 9 := by decide +kernel
    have n6 : (" line zz" : Str).length = 8 := by decide +kernel
    have sl := sizeLine_eq
    refine ⟨_, rfl, _, _, rfl, rfl, by omega, ?_⟩
    refine ⟨_, rfl, _, _, rfl, rfl, by omega, _, rfl, _, _, rfl, rfl, by rw [app_len]; omega, ?_⟩
    refine ⟨by show 7 ≤ sizeLine; omega, fun g1 hg1 => ?_⟩
    obtain ⟨H4, hH4⟩ : ∃ H4, H4 = L2.upd H3 g1 (.lst [.str "", .str " ", .str "things", .str "folders zz", .str ("zz below " ++ fo), .str (fo ++ " below " ++ fo), .str "Zz"]) := ⟨_, rfl⟩
    have xH4 : Ext H3 H4 := by
      rw [hH4]
      exact Ext.upd hg1
    have nH4 : H4 g1 = some (.lst [.str "", .str " ", .str "things", .str "folders zz", .str ("zz below " ++ fo), .str (fo ++ " below " ++ fo), .str "Zz"]) := by rw [hH4, upd_same]
    rw [← hH4]
    clear hH4
    refine ⟨_, rfl, ?_⟩
    refine ⟨_, rfl, _, _, rfl, rfl, by omega, ?_⟩
    refine ⟨_, rfl, _, _, rfl, rfl, by omega, _, rfl, _, _, rfl, rfl, by rw [app_len]; omega, ?_⟩
    refine ⟨by show 4 ≤ sizeLine; omega, fun g2 hg2 => ?_⟩
    obtain ⟨H5, hH5⟩ : ∃ H5, H5 = L2.upd H4 g2 (.lst [.str (fo ++ " not"), .str "below", .str (fo ++ "  below " ++ fo), .str "things zz zz"]) := ⟨_, rfl⟩
    have xH5 : Ext H4 H5 := by
      rw [hH5]
      exact Ext.upd hg2
    have nH5 : H5 g2 = some (.lst [.str (fo ++ " not"), .str "below", .str (fo ++ "  below " ++ fo), .str "things zz zz"]) := by rw [hH5, upd_same]
    rw [← hH5]
    clear hH5
    refine ⟨g1, g2, _, _, rfl, rfl, xH5 _ _ nH4, nH5, by show 7 + 4 ≤ sizeLine; omega, fun g3 hg3 => ?_⟩
    obtain ⟨H6, hH6⟩ : ∃ H6, H6 = L2.upd H5 g3 (.lst ([.str "", .str " ", .str "things", .str "folders zz", .str ("zz below " ++ fo), .str (fo ++ " below " ++ fo), .str "Zz"] ++ [.str (fo ++ " not"), .str "below", .str (fo ++ "  below " ++ fo), .str "things zz zz"])) := ⟨_, rfl⟩
    have xH6 : Ext H5 H6 := by
      rw [hH6]
      exact Ext.upd hg3
    have nH6 : H6 g3 = some (.lst ([.str "", .str " ", .str "things", .str "folders zz", .str ("zz below " ++ fo), .str (fo ++ " below " ++ fo), .str "Zz"] ++ [.str (fo ++ " not"), .str "below", .str (fo ++ "  below " ++ fo), .str "things zz zz"])) := by rw [hH6, upd_same]
    rw [← hH6]
    clear hH6
    refine ⟨_, rfl, ?_⟩
    refine ⟨_, rfl, _, _, rfl, rfl, by omega, ?_⟩
    refine ⟨_, rfl, _, _, rfl, rfl, by omega, ?_⟩
    refine ⟨by show 2 ≤ sizeLine; omega, fun g4 hg4 => ?_⟩
    obtain ⟨H7, hH7⟩ : ∃ H7, H7 = L2.upd H6 g4 (.lst [.str (fo ++ " above zz"), .str (fo ++ " line zz")]) := ⟨_, rfl⟩
    have xH7 : Ext H6 H7 := by
      rw [hH7]
      exact Ext.upd hg4
    have nH7 : H7 g4 = some (.lst [.str (fo ++ " above zz"), .str (fo ++ " line zz")]) := by rw [hH7, upd_same]
    rw [← hH7]
    clear hH7
    refine ⟨g3, g4, _, _, rfl, rfl, xH7 _ _ nH6, nH7, by show 11 + 2 ≤ sizeLine; omega, fun g5 hg5 => ?_⟩
    obtain ⟨H8, hH8⟩ : ∃ H8, H8 = L2.upd H7 g5 (.lst (([.str "", .str " ", .str "things", .str "folders zz", .str ("zz below " ++ fo), .str (fo ++ " below " ++ fo), .str "Zz"] ++ [.str (fo ++ " not"), .str "below", .str (fo ++ "  below " ++ fo), .str "things zz zz"]) ++ [.str (fo ++ " above zz"), .str (fo ++ " line zz")])) := ⟨_, rfl⟩
    have xH8 : Ext H7 H8 := by
      rw [hH8]
      exact Ext.upd hg5
    have nH8 : H8 g5 = some (.lst (([.str "", .str " ", .str "things", .str "folders zz", .str ("zz below " ++ fo), .str (fo ++ " below " ++ fo), .str "Zz"] ++ [.str (fo ++ " not"), .str "below", .str (fo ++ "  below " ++ fo), .str "things zz zz"]) ++ [.str (fo ++ " above zz"), .str (fo ++ " line zz")])) := by rw [hH8, upd_same]
    rw [← hH8]
    clear hH8
    obtain ⟨odd, hodd⟩ : ∃ odd : List Str, odd = [("" : Str), " ", "things", "folders zz", "zz below " ++ fo, fo ++ " below " ++ fo, "Zz", fo ++ " not", "below", fo ++ "  below " ++ fo, "things zz zz", fo ++ " above zz", fo ++ " line zz"] := ⟨_, rfl⟩
    have o8 : H8 g5 = some (.lst (odd.map V.str)) := by rw [nH8, hodd]; rfl
    have ol : odd.length = 13 := by rw [hodd]; rfl
    have osz : ∀ z, z ∈ odd → z.length ≤ 34 := by
      have c1 : ∀ z, z ∈ [("" : Str), " ", "things", "folders zz", "Zz", "below", "things zz zz"] → z.length ≤ 34 := by decide +kernel
      intro z hz
      rw [hodd] at hz
      simp only [List.mem_cons, List.not_mem_nil, or_false] at hz
      rcases hz with rfl | rfl | rfl | rfl | rfl | rfl | rfl | rfl | rfl | rfl | rfl | rfl | rfl
      · exact c1 _ (by simp)
      · exact c1 _ (by simp)
      · exact c1 _ (by simp)
      · exact c1 _ (by simp)
      · rw [app_len]; omega
      · rw [app_len, app_len]; omega
      · exact c1 _ (by simp)
      · rw [app_len]; omega
      · exact c1 _ (by simp)
      · rw [app_len, app_len]; omega
      · exact c1 _ (by simp)
      · rw [app_len]; omega
      · rw [app_len]; omega
    have x38 := xH4.trans (xH5.trans (xH6.trans (xH7.trans xH8)))
    have L8 := x38 _ _ L3
    have b08 : But H H8 p := b03.ext x38
    have p8 := pool_ext gp2 x38
    have hLv : ((ls.map V.str)[a]?) = some (.str zl) := by rw [List.getElem?_map, hzl]; rfl
    clear hodd nH8 nH7 nH6 nH5 nH4
    refine ⟨fun σ H' => ∃ (v4 v5 v6 v7 : Option V) (d : Addr) (ks : List Str), σ = [some (.ref p), some (.ref l), some (.str fo), some (.ref d), v4, v5, v6, v7] ∧ But H H' p ∧ Pool H' p (n + 30) ∧ H d = none ∧ H' d = some (.lst (ks.map V.str)) ∧ LB ks 9 35, ?_, fun σ' H' ⟨v4, v5, v6, v7, d, ks, e, b, pp, hd, hk, lk⟩ => ?_⟩
    · refine ⟨_, rfl, rfl, _, rfl, ?_⟩
      refine ite2 (fun _ => ?_) (fun _ => ?_)
      · refine ⟨_, rfl, .inl ⟨rfl, _, .inl (.inl L8)⟩, _, rfl, _, rfl, _, rfl, _, rfl, _, 13, rfl, .inl ⟨_, SqL.of o8, by rw [lm, ol]⟩, p, _, _, rfl, by decide, by decide, p8, by omega, fun r3 o3 r30 r31 gp3 => ?_⟩
        obtain ⟨r3, rfl⟩ := Int.eq_ofNat_of_zero_le r30
        obtain ⟨H9, hH9⟩ : ∃ H9, H9 = L2.upd H8 p o3 := ⟨_, rfl⟩
        rw [← hH9] at gp3 ⊢
        have b9 : But H8 H9 p := by
          rw [hH9]
          exact But.upd (ext_but Ext.rfl')
        have L9 := b9 _ _ nLp L8
        have np5 : g5 ≠ p := fun e => by obtain ⟨y, h⟩ := p8.lst; rw [← e, o8] at h; exact absurd (e ▸ hg5) (by obtain ⟨y, h⟩ := (pool_ext gp2 (xH4.trans (xH5.trans (xH6.trans xH7)))).lst; rw [h]; exact fun z => nomatch z)
        have o9 := b9 _ _ np5 o8
        obtain ⟨z, hz⟩ : ∃ z, odd[r3]? = some z := ⟨_, List.getElem?_eq_getElem (by omega)⟩
        refine ⟨g5, _, _, .str z, rfl, rfl, SqL.of o9, atI_nat (by rw [List.getElem?_map, hz]; rfl), L, _, _, _, rfl, rfl, L9, by rw [lm]; omega, Int.natCast_nonneg _, by omega, ?_⟩
        refine ⟨_, _, _, _, L, ls.take a ++ [z] ++ ls.drop a, rfl, fun c u nc e => ?_, ?_, hL, ?_, ⟨?_, fun y hy => ?_⟩⟩
        · rw [upd_ne (ne_of_none e hL)]
          exact b9 _ _ nc (b08 _ _ nc e)
        · exact pool_upd (pool_mono gp3 (by omega)) nLp
        · rw [upd_same, Int.toNat_natCast, List.map_append, List.map_append, List.map_take, List.map_drop]
          rfl
        · rw [List.length_append, List.length_append, List.length_take, List.length_drop, List.length_singleton]
          omega
        · rcases List.mem_append.mp hy with hy | hy
          · rcases List.mem_append.mp hy with hy | hy
            · exact Nat.le_succ_of_le (lb.sz y (List.mem_of_mem_take hy))
            · rw [List.mem_singleton.mp hy]
              exact Nat.le_succ_of_le (osz z (List.mem_of_getElem? hz))
          · exact Nat.le_succ_of_le (lb.sz y (List.mem_of_mem_drop hy))
      refine ⟨_, rfl, rfl, _, rfl, ?_⟩
      refine ite2 (fun _ => ?_) (fun _ => ?_)
      · refine ⟨_, rfl, .inl ⟨rfl, _, .inl (.inl L8)⟩, _, rfl, L, _, _, a, _, rfl, rfl, L8, by omega, by omega, (ixN_seq (ixN_of (by rw [lm]; exact al))).1, hLv, ?_⟩
        refine ⟨_, _, _, _, L, ls.eraseIdx a, rfl, fun c u nc e => ?_, ?_, hL, ?_, ⟨?_, fun y hy => ?_⟩⟩
        · rw [upd_ne (ne_of_none e hL)]
          exact b08 _ _ nc e
        · exact pool_upd (pool_mono p8 (by omega)) nLp
        · rw [upd_same, map_erase]
        · have := List.length_eraseIdx_le ls a
          omega
        · exact Nat.le_succ_of_le (lb.sz y (List.mem_of_mem_eraseIdx hy))
      refine ⟨_, rfl, rfl, _, rfl, ?_⟩
      refine ite2 (fun _ => ?_) (fun _ => ?_)
      · refine ⟨_, rfl, .inl ⟨rfl, _, .inl (.inl L8)⟩, _, rfl, _, rfl, _, ls.length, rfl, .inl ⟨_, SqL.of L8, (lm _).symm⟩, _, _, rfl, rfl, p, _, _, rfl, by omega, by omega, p8, by omega, fun r3 o3 r30 r31 gp3 => ?_⟩
        obtain ⟨r3, rfl⟩ := Int.eq_ofNat_of_zero_le r30
        obtain ⟨H9, hH9⟩ : ∃ H9, H9 = L2.upd H8 p o3 := ⟨_, rfl⟩
        rw [← hH9] at gp3 ⊢
        have b9 : But H8 H9 p := by
          rw [hH9]
          exact But.upd (ext_but Ext.rfl')
        have L9 := b9 _ _ nLp L8
        refine ⟨_, rfl, _, rfl, L, _, _, _, rfl, rfl, SqL.of L9, atI_nat hLv, L, _, _, _, rfl, rfl, L9, by rw [lm]; omega, Int.natCast_nonneg _, by omega, ?_⟩
        refine ⟨_, _, _, _, L, ls.take r3 ++ [zl] ++ ls.drop r3, rfl, fun c u nc e => ?_, ?_, hL, ?_, ⟨?_, fun y hy => ?_⟩⟩
        · rw [upd_ne (ne_of_none e hL)]
          exact b9 _ _ nc (b08 _ _ nc e)
        · exact pool_upd (pool_mono gp3 (by omega)) nLp
        · rw [upd_same, Int.toNat_natCast, List.map_append, List.map_append, List.map_take, List.map_drop]
          rfl
        · rw [List.length_append, List.length_append, List.length_take, List.length_drop, List.length_singleton]
          omega
        · rcases List.mem_append.mp hy with hy | hy
          · rcases List.mem_append.mp hy with hy | hy
            · exact Nat.le_succ_of_le (lb.sz y (List.mem_of_mem_take hy))
            · rw [List.mem_singleton.mp hy]
              exact Nat.le_succ_of_le zls
          · exact Nat.le_succ_of_le (lb.sz y (List.mem_of_mem_drop hy))
      refine ⟨_, rfl, rfl, _, rfl, ?_⟩
      refine ite2 (fun _ => ?_) (fun _ => ?_)
      · refine ⟨_, rfl, _, rfl, _, rfl, L, _, _, _, rfl, rfl, SqL.of L8, atI_nat hLv, _, zl.length, rfl, ⟨by omega, rfl⟩, _, _, rfl, rfl, p, _, _, rfl, by omega, by omega, p8, by omega, fun r3 o3 r30 r31 gp3 => ?_⟩
        obtain ⟨r3, rfl⟩ := Int.eq_ofNat_of_zero_le r30
        obtain ⟨H9, hH9⟩ : ∃ H9, H9 = L2.upd H8 p o3 := ⟨_, rfl⟩
        rw [← hH9] at gp3 ⊢
        have b9 : But H8 H9 p := by
          rw [hH9]
          exact But.upd (ext_but Ext.rfl')
        have L9 := b9 _ _ nLp L8
        refine ⟨_, rfl, _, rfl, L, _, _, _, rfl, rfl, SqL.of L9, atI_nat hLv, _, rfl, _, rfl, zl, rfl, by omega, by show 6 ≤ sizeLine; omega, fun g hg => ?_⟩
        obtain ⟨H10, hH10⟩ : ∃ H10, H10 = L2.upd H9 g (.lst [.str "", .str " ", .str "z", .str "-", .str "\t", .str "Z"]) := ⟨_, rfl⟩
        have xH10 : Ext H9 H10 := by
          rw [hH10]
          exact Ext.upd hg
        have nH10 : H10 g = some (.lst [.str "", .str " ", .str "z", .str "-", .str "\t", .str "Z"]) := by rw [hH10, upd_same]
        rw [← hH10]
        clear hH10
        have gp10 := pool_ext gp3 xH10
        refine ⟨_, rfl, p, 6, _, rfl, by decide, by decide, gp10, by omega, fun r4 o4 r40 r41 gp4 => ?_⟩
        obtain ⟨r4, rfl⟩ := Int.eq_ofNat_of_zero_le r40
        obtain ⟨H11, hH11⟩ : ∃ H11, H11 = L2.upd H10 p o4 := ⟨_, rfl⟩
        rw [← hH11] at gp4 ⊢
        have b11 : But H10 H11 p := by
          rw [hH11]
          exact But.upd (ext_but Ext.rfl')
        have L11 := b11 _ _ nLp (xH10 _ _ L9)
        have ngp : g ≠ p := pool_ne gp3 hg
        have g11 := b11 _ _ ngp nH10
        obtain ⟨ch, hch, chl⟩ : ∃ ch : Str, [V.str "", .str " ", .str "z", .str "-", .str "\t", .str "Z"][r4]? = some (.str ch) ∧ ch.length ≤ 1 := by
          have r4' : r4 < 6 := by omega
          match r4, r4' with
          | 0, _ => exact ⟨"", rfl, by decide +kernel⟩
          | 1, _ => exact ⟨" ", rfl, by decide +kernel⟩
          | 2, _ => exact ⟨"z", rfl, by decide +kernel⟩
          | 3, _ => exact ⟨"-", rfl, by decide +kernel⟩
          | 4, _ => exact ⟨"\t", rfl, by decide +kernel⟩
          | 5, _ => exact ⟨"Z", rfl, by decide +kernel⟩
        have k1 := (cut_sz zl r3).1
        have k2 := (cut_sz zl (r3 + 1)).2
        refine ⟨g, _, _, .str ch, rfl, rfl, SqL.of g11, atI_nat hch, _, _, rfl, rfl, by omega, ?_⟩
        refine ⟨_, rfl, _, rfl, L, _, _, _, rfl, rfl, SqL.of L11, atI_nat hLv, _, rfl, _, _, rfl, rfl, _, rfl, zl, rfl, by omega, _, _, rfl, rfl, ?_, _, rfl, _, rfl, L, _, _, a, rfl, rfl, L11, ixN_of (by rw [lm]; exact al), ?_⟩
        · rw [app_len, show ((r3 : Int) + 1) = ((r3 + 1 : Nat) : Int) by omega]
          omega
        rw [show ((r3 : Int) + 1) = ((r3 + 1 : Nat) : Int) by omega]
        refine ⟨_, _, _, _, L, ls.set a (cutS zl none (some (r3 : Int)) ++ ch ++ cutS zl (some ((r3 + 1 : Nat) : Int)) none), rfl, fun c u nc e => ?_, ?_, hL, ?_, ⟨?_, fun y hy => ?_⟩⟩
        · rw [upd_ne (ne_of_none e hL)]
          exact b11 _ _ nc (xH10 _ _ (b9 _ _ nc (b08 _ _ nc e)))
        · exact pool_upd (pool_mono gp4 (by omega)) nLp
        · rw [upd_same, List.map_set]
        · rw [List.length_set]
          omega
        · rcases List.mem_or_eq_of_mem_set hy with hy | rfl
          · exact Nat.le_succ_of_le (lb.sz y hy)
          · rw [app_len, app_len]
            omega
      · refine ⟨_, rfl, _, rfl, L, _, rfl, SqL.of L8, fun s1 hs1 => ?_⟩
        rw [show (1 : Int) = ((1 : Nat) : Int) from rfl, cutV_takeA, ← List.map_take]
        obtain ⟨H9, hH9⟩ : ∃ H9, H9 = L2.upd H8 s1 (.lst ((ls.take 1).map V.str)) := ⟨_, rfl⟩
        have xH9 : Ext H8 H9 := by
          rw [hH9]
          exact Ext.upd hs1
        have nH9 : H9 s1 = some (.lst ((ls.take 1).map V.str)) := by rw [hH9, upd_same]
        rw [← hH9]
        clear hH9
        refine ⟨_, rfl, _, rfl, _, rfl, L, _, rfl, SqL.of (xH9 _ _ L8), fun s2 hs2 => ?_⟩
        rw [cutV_drop (by rw [lm]; exact l1), ← List.map_drop]
        obtain ⟨H10, hH10⟩ : ∃ H10, H10 = L2.upd H9 s2 (.lst ((ls.drop 1).map V.str)) := ⟨_, rfl⟩
        have xH10 : Ext H9 H10 := by
          rw [hH10]
          exact Ext.upd hs2
        have nH10 : H10 s2 = some (.lst ((ls.drop 1).map V.str)) := by rw [hH10, upd_same]
        rw [← hH10]
        clear hH10
        have p9 := pool_ext p8 xH9
        have p10 := pool_ext p9 xH10
        have dl : (ls.drop 1).length ≤ 7 := by rw [List.length_drop]; omega
        refine ⟨p, s2, ls.drop 1, _, rfl, p10, by omega, nH10, pool_ne p9 hs2, by omega, fun d ks H11 b11 p11 hd hk pm => ?_⟩
        have kl := pm.length_eq
        have ns1 : s1 ≠ p := pool_ne p8 hs1
        refine ⟨s1, d, _, _, rfl, rfl, b11 _ _ ns1 (xH10 _ _ nH9), hk, by rw [lm, lm, List.length_take]; omega, fun d2 hd2 => ?_⟩
        have b0 : But H H11 p := (b08.ext (xH9.trans xH10)).trans b11
        refine ⟨_, _, _, _, d2, ls.take 1 ++ ks, rfl, b0.ext (Ext.upd hd2), pool_ext (pool_mono p11 (by omega)) (Ext.upd hd2), ?_, by rw [upd_same, List.map_append], ⟨?_, fun y hy => ?_⟩⟩
        · cases hh : H d2 with
          | none => rfl
          | some u =>
            have := b0 _ _ (pool_ne p11 hd2) hh
            rw [hd2] at this
            cases this
        · rw [List.length_append, List.length_take]
          omega
        · rcases List.mem_append.mp hy with hy | hy
          · exact Nat.le_succ_of_le (lb.sz y (List.mem_of_mem_take hy))
          · exact Nat.le_succ_of_le (lb.sz y (List.mem_of_mem_drop (pm.mem_iff.mp hy)))
    · subst e
      exact ⟨_, rfl, q d ks H' b pp hd hk lk⟩
end
end My

namespace My
open PySem PySem.Spec PyProof.Rows L2
abbrev nm_law : List Str := ["_law_script", "_law_turn", "_law_pool_here", "_law_folders", "_law_things", "_law_facts", "_law_pairs", "_law_lines", "_law_word", "_law_one", "_law_other", "_law_text", "_law_some", "_law_wrong", "_law_short", "_law_k", "_law_x", "_law_y", "_law_line"]
theorem sc_law : FnScope nm_law ["_law_script"] (defScope s_law) := ⟨rfl, rfl, rfl, by decide +kernel, rfl, by decide +kernel, by decide +kernel⟩
theorem cutV_dropA {xs : List V} {k : Nat} : cutV xs (some ((k : Nat) : Int)) none = xs.drop k := by
  unfold cutV
  rw [HT.sIx_none, HT.sIx_nat, List.take_of_length_le (by rw [List.length_drop]; exact Nat.le_refl _)]
  rcases Nat.le_total k xs.length with h | h
  · rw [Nat.min_eq_left h]
  · rw [Nat.min_eq_right h, List.drop_length, List.drop_eq_nil_of_le h]
theorem cut_last (xs : List V) : cutV xs (some (-1)) none = xs.drop (xs.length - 1) := by
  unfold cutV
  have e : HT.sIx xs.length 0 (some (-1)) = xs.length - 1 := by
    show (if (-1 : Int) < 0 then ((-1 : Int) + (xs.length : Int)).toNat else min (-1 : Int).toNat xs.length) = _
    rw [if_pos (by decide)]
    omega
  rw [e, HT.sIx_none, List.take_of_length_le (by rw [List.length_drop]; omega)]
/-- the first thing and the last one, if they are two -/
theorem ends_line {fo th : List Str} {x y : Str} {i k : Nat} (nd : (fo ++ th).Nodup) (hx : (th.take 1)[i]? = some x) (hy : ((th.drop 1).drop k)[i]? = some y) : IsT fo th "line" x y := by
  have il := (List.getElem?_eq_some_iff.mp hx).1
  rw [List.length_take] at il
  have i0 : i = 0 := by omega
  subst i0
  rw [List.getElem?_take, if_pos (by decide)] at hx
  rw [List.drop_drop, List.getElem?_drop] at hy
  have ax : (fo ++ th)[fo.length + 0]? = some x := by rw [List.getElem?_append_right (by omega), Nat.add_sub_cancel_left]; exact hx
  have ay : (fo ++ th)[fo.length + (1 + k + 0)]? = some y := by rw [List.getElem?_append_right (by omega), Nat.add_sub_cancel_left]; exact hy
  refine ⟨⟨by decide +kernel, List.mem_of_getElem? ax, List.mem_of_getElem? ay, fun e => ?_, .inl rfl⟩, toldS_line (ord_lt nd ax ay (by omega))⟩
  subst e
  have := (List.getElem?_inj (List.getElem?_eq_some_iff.mp ax).1 nd).mp (ax.trans ay.symm)
  omega
/-- rows that are tuples -/
def TupQ (K : PySem.W.Frag) (_ : Addr) (H : Hp) (y : V) (r : List Str) : Prop := ∃ t, y = .ref t ∧ SqT K H t (r.map V.str)
theorem tupQ_rows {K : PySem.W.Frag} {D : Addr} {H : Hp} : ∀ {ys : List V} {rs : List (List Str)}, AllQ (TupQ K D) H ys rs → Rows K H ys rs
  | [], [], _ => True.intro
  | [], _ :: _, h => by
    have := h.1
    cases this
  | _ :: _, [], h => by
    have := h.1
    cases this
  | y :: ys, r :: rs, h => by
    refine ⟨?_, tupQ_rows (D := D) ⟨Nat.succ.inj h.1, fun i y hy => h.2 (i + 1) y hy⟩⟩
    obtain ⟨b, hb, t, e, sq⟩ := h.2 0 y rfl
    cases hb
    exact ⟨t, e, sq⟩
theorem str_assoc (a b c : Str) : a ++ b ++ c = a ++ (b ++ c) := str_ext (by rw [app_cps, app_cps, app_cps, app_cps, List.append_assoc])
theorem fold_sp : ("folders " : Str) = ("folders" : Str) ++ sp1 := by decide +kernel
theorem line_fold {fo : List Str} (ne : fo ≠ []) : ("folders " : Str) ++ Txt.join (" " : Str) fo = lineS ("folders" :: fo) := by
  rw [txt_join, sp_eq, fold_sp]
  cases fo with
  | nil => exact absurd rfl ne
  | cons a r => rfl
theorem line_thing (th : List Str) : Txt.join (" " : Str) (("things" : Str) :: th) = lineS ("things" :: th) := by rw [txt_join, sp_eq]; rfl
theorem line_three (a w b : Str) : a ++ (" " : Str) ++ w ++ (" " : Str) ++ b = lineS [a, w, b] := by
  rw [sp_eq]
  show _ = a ++ sp1 ++ (w ++ sp1 ++ b)
  rw [str_assoc (a ++ sp1) w sp1, str_assoc (a ++ sp1) (w ++ sp1) b]
theorem line_sz {r : List Str} {n : Nat} (ne : r ≠ []) (h : ∀ z, z ∈ r → z.length ≤ 8) (l : r.length ≤ n) : (lineS r).length + 1 ≤ n * 9 := by
  have h1 := join_eqlen (c := 32) ne
  have h2 := sum_most (zs := r) (m := 8) h
  show (Str.join sp1 r).length + 1 ≤ _
  rw [show sp1 = ⟨#[32]⟩ from rfl]
  omega
theorem due_told {fo th : List Str} {rows : List (List Str)} (sm : Sm fo th rows) (nd : rows.Nodup) : dueT (txS fo th rows) = none := by
  have sp := text_split sm.lns
  have sp : lns (txS fo th rows) = (rowsTx fo th rows).map lineS ++ [⟨#[]⟩] := sp
  have e1 : (lns (txS fo th rows)).dropLast = (rowsTx fo th rows).map lineS := by rw [sp, List.dropLast_concat]
  have e2 : (lns (txS fo th rows)).getLastD ⟨#[]⟩ = ⟨#[]⟩ := by rw [sp, List.getLastD_eq_getLast?, List.getLast?_concat]; rfl
  unfold dueT
  rw [e1, e2]
  have ws : ∀ r, r ∈ rowsTx fo th rows → wds (lineS r) = r := fun r hr => line_split (sm.lns r hr).1 (sm.lns r hr).2.2
  have w0 := ws (("folders" : Str) :: fo) List.mem_cons_self
  have w1 := ws (("things" : Str) :: th) (List.mem_cons_of_mem _ List.mem_cons_self)
  have t0 : tlW (lineS ("folders" :: fo)) = fo := by unfold tlW; rw [w0]; rfl
  have t1 : tlW (lineS ("things" :: th)) = th := by unfold tlW; rw [w1]; rfl
  refine due_no (fun j hj => ?_) ⟨rfl, by rw [List.length_map]; exact Nat.le_add_left 2 _⟩
  have nf : Nok fo := ⟨(List.nodup_append.mp sm.ok.1).1, fun z hz => sm.ok.2 z (List.mem_append_left _ hz)⟩
  rcases j with _ | _ | k
  · show foB (lineS ("folders" :: fo)) = true
    unfold foB newB
    rw [t0, show hdW (lineS ("folders" :: fo)) = "folders" from by unfold hdW; rw [w0]; rfl, decide_eq_true rfl, decide_eq_true sm.ne, decide_eq_true (wrong_ok nf)]
    rfl
  · show thB (lineS ("folders" :: fo)) (lineS ("things" :: th)) = true
    unfold thB newB
    rw [t0, t1, show hdW (lineS ("things" :: th)) = "things" from by unfold hdW; rw [w1]; rfl, decide_eq_true rfl, decide_eq_true (wrong_ok sm.ok)]
    rfl
  · have kl : k < rows.length := by
      rw [List.length_map] at hj
      have : (rowsTx fo th rows).length = rows.length + 2 := by
        show (rows.map turnR).length + 1 + 1 = _
        rw [List.length_map]
      omega
    obtain ⟨w, a, b, e, isT⟩ := sm.tr rows[k] (List.getElem_mem kl)
    have hk : rows[k]? = some [w, a, b] := by rw [List.getElem?_eq_getElem kl, e]
    have hl : ((rows.map turnR).map lineS)[k]? = some (lineS [a, w, b]) := by
      rw [List.getElem?_map, List.getElem?_map, hk]
      rfl
    show standB (lineS ("folders" :: fo) :: lineS ("things" :: th) :: (rows.map turnR).map lineS) (k + 2) = true
    rw [stand_two hl, t0, t1]
    have wk : wds (lineS [a, w, b]) = [a, w, b] := ws _ (List.mem_cons_of_mem _ (List.mem_cons_of_mem _ (List.mem_map.mpr ⟨_, List.mem_of_getElem? hk, rfl⟩)))
    refine fac_true wk isT.1 isT.2 fun m => ?_
    rw [← List.map_take, ← List.map_take] at m
    obtain ⟨r', hr', er⟩ := List.mem_map.mp m
    obtain ⟨r, hr, rfl⟩ := List.mem_map.mp hr'
    have mr := List.mem_of_mem_take hr
    obtain ⟨w', a', b', rfl, _⟩ := sm.tr r mr
    have wr : wds (lineS [a', w', b']) = [a', w', b'] := ws _ (List.mem_cons_of_mem _ (List.mem_cons_of_mem _ (List.mem_map.mpr ⟨_, mr, rfl⟩)))
    have er : lineS [a', w', b'] = lineS [a, w, b] := er
    rw [er, wk] at wr
    injection wr with q1 wr
    injection wr with q2 wr
    injection wr with q3 _
    subst q1 q2 q3
    exact not_before nd hk hr
def shorts : List Str := ["", "\n", "folders", "folders a", "folders a\n", "folders\n", "folders a\nthings", "folders a\nthings\n\n", "folders a\tb\nthings t\n", "folders a\nthings t\t\n"]
theorem shorts_due : ∀ z, z ∈ shorts → dueT z ≠ none ∧ z.length ≤ 450 := by decide +kernel
theorem scal_self (o : Option Nat) : scal (optV o) (optV o) = true := by cases o <;> rfl
def spLaw (K : PySem.W.Frag) : Sp := fun vs H Q _ => ∃ (a : Addr) (ns : List Int), vs = [.ref a] ∧ SqL K H a (ns.map V.int) ∧ ∀ H', Q (.bl true) H'
section
variable {P : Program} {w : World} {K : PySem.W.Frag} {mg : Str → Option Value} {base : Heap} {f C CB CF CE CX : Addr} {fd : FuncData}
theorem ok_law (Fn : FnP K "law" s_law f fd)
    (h_law_cell : Has P w K mg base 1 "_law_cell" ["_law_script", "_law_k"] (spCell1 K)) (h_law_pool : Has P w K mg base 1 "_law_pool" ["_law_grain"] spPool) (h_law_take : Has P w K mg base 1 "_law_take" ["_law_pool_here", "_law_many"] spTake)
    (h_law_house : Has P w K mg base 3 "_law_house" ["_law_pool_here", "_law_most", "_law_more"] spHouse) (h_law_fact : Has P w K mg base 2 "_law_fact" ["_law_pool_here", "_law_folders", "_law_things"] (spFact K))
    (h_law_refused : Has P w K mg base 11 "_law_refused" ["_law_text"] spRefG) (h_law_due : Has P w K mg base 4 "_law_due" ["_law_text"] spDueL) (h_law_spoilt : Has P w K mg base 3 "_law_spoilt" ["_law_pool_here", "_law_lines", "_law_folder"] spSpoilt)
    (gB_range : mg "range" = none) (gB_len : mg "len" = none) (gB_list : mg "list" = none) (gB_zip : mg "zip" = none) (gB_int : mg "int" = none) : FnOk P w K mg base CX0 13 f fd ["_law_script"] (spLaw K) := by
  refine Fn.ok sc_law (fun vs H Q E h => ?_) (fun cdv A outer s H vs Q E hr h => ⟨_, PSs.nox
    (pss_cons (ps_for PassesOwn.never rfl (pi_range1 (by rfl) gB_range (pa_cons pe_int pa_nil)) (pg_name (i := 1) sc_law.nd rfl (Or.inl rfl))
      (pss_cons (ps_set (i := 2) sc_law.nd rfl (Or.inr rfl) (pe_has h_law_pool (hr.mono (by decide)) (pa_cons (pe_op op_add (pe_has h_law_cell (hr.mono (by decide)) (pa_cons (pv 0) (pa_cons (pv 1) pa_nil))) (pv 1)) pa_nil)))
      (pss_cons (ps_asg (pe_has h_law_house (hr.mono (by decide)) (pa_cons (pv 2) (pa_cons pe_int (pa_cons pe_int pa_nil)))) (pg_tup rfl (pgs_cons (pg_name (i := 3) sc_law.nd rfl (Or.inr rfl)) (pgs_cons (pg_name (i := 4) sc_law.nd rfl (Or.inr rfl)) pgs_nil))))
      (pss_cons (ps_set (i := 5) sc_law.nd rfl (Or.inr rfl) (pe_lc (own := [("_law_k", 15)]) (g := (gName 15)) (tt := tYes) rfl sc_law.nd (pi_range1 (by rfl) gB_range (pa_cons (pe_has h_law_take (hr.mono (by decide)) (pa_cons (pv 2) (pa_cons pe_int pa_nil))) pa_nil)) (blkOk_by (N := nm_law) (sc := defScope s_law) (by decide +kernel)) (fun _ _ _ _ _ => (pg_name (i := 15) sc_law.nd rfl (Or.inl rfl))) (fun _ _ _ _ _ => pts_nil) (fun _ _ _ _ _ => (pe_has h_law_fact (hr.mono (by decide)) (pa_cons (pv 2) (pa_cons (pv 3) (pa_cons (pv 4) pa_nil)))))))
      (pss_cons (ps_set (i := 6) sc_law.nd rfl (Or.inl rfl) (pe_slice sl_list (pe_listZip rfl (pa_cons (pe_slice sl_list (pv 4) po_none (po_some pe_int)) (pa_cons (pe_slice sl_list (pe_slice sl_list (pv 4) (po_some pe_int) po_none) (po_some (pe_un un_neg pe_int)) po_none) pa_nil)) (by rfl) gB_list (by rfl) gB_zip boot_list) po_none (po_some (pe_callTy call_int1 (by rfl) gB_int (by decide +kernel) (pa_cons (pe_cmpR op_eq (pe_has h_law_take (hr.mono (by decide)) (pa_cons (pv 2) (pa_cons pe_int pa_nil))) pe_int (nomark _)) pa_nil)))))
      (pss_cons (ps_set (i := 5) sc_law.nd rfl (Or.inr rfl) (pe_op L2.op_cat (pv 5) (pe_lc (own := [("_law_x", 16), ("_law_y", 17)]) (g := (gTup K 2 (gCons (gName 16) (gCons (gName 17) gNil)))) (tt := tYes) rfl sc_law.nd (pi_list (pv 6)) (blkOk_by (N := nm_law) (sc := defScope s_law) (by decide +kernel)) (fun _ _ _ _ _ => (pg_tup rfl (pgs_cons (pg_name (i := 16) sc_law.nd rfl (Or.inl rfl)) (pgs_cons (pg_name (i := 17) sc_law.nd rfl (Or.inl rfl)) pgs_nil)))) (fun _ _ _ _ _ => pts_nil) (fun _ _ _ _ _ => (pe_tup (pa_cons pe_str (pa_cons (pv 16) (pa_cons (pv 17) pa_nil))))))))
      (pss_cons (ps_set (i := 7) sc_law.nd rfl (Or.inl rfl) (pe_lst (pa_cons (pe_op op_add_str pe_str (pe_join pe_str (pv 3))) (pa_cons (pe_join pe_str (pe_op L2.op_cat (pe_lst (pa_cons pe_str pa_nil)) (pv 4))) pa_nil))))
      (pss_cons (ps_for PassesOwn.never rfl (pi_list (pe_lc (own := [("_law_k", 15)]) (g := (gName 15)) rfl sc_law.nd (pi_range1 (by rfl) gB_range (pa_cons (pe_callB call_len (by rfl) gB_len boot_len (pa_cons (pv 5) pa_nil)) pa_nil)) (blkOk_by (N := nm_law) (sc := defScope s_law) (by decide +kernel)) (fun _ _ _ _ _ => (pg_name (i := 15) sc_law.nd rfl (Or.inl rfl))) (fun _ _ _ _ _ => pts_one (pt_cmpR (opK (r := rNotInD) (K := K) rfl (op_notInD (u65 hr))) (pe_ix (ixK (r := rIxL) (K := K) rfl ix_list) (pv 5) (pv 15) (fun _ _ => rfl)) (pe_slice (slK (r := rSlL) (K := K) rfl sl_list) (pv 5) po_none (po_some (pv 15))) (by rfl))) (fun _ _ _ _ _ => (pe_ix (ixK (r := rIxL) (K := K) rfl ix_list) (pv 5) (pv 15) (fun _ _ => rfl))))) (pg_tup rfl (pgs_cons (pg_name (i := 8) sc_law.nd rfl (Or.inl rfl)) (pgs_cons (pg_name (i := 9) sc_law.nd rfl (Or.inl rfl)) (pgs_cons (pg_name (i := 10) sc_law.nd rfl (Or.inl rfl)) pgs_nil))))
      (pss_one (ps_expr (pe_bm PySem.F.plainAttrs_list PySem.F.slot_list_append PySem.F.type_list_append mt_append (pv 7) (pa_cons (pe_op op_add_str (pe_op op_add_str (pe_op op_add_str (pe_op op_add_str (pv 9) pe_str) (pv 8)) pe_str) (pv 10)) pa_nil)))))
      (pss_cons (ps_set (i := 11) sc_law.nd rfl (Or.inl rfl) (pe_join pe_str (pe_lc (own := [("_law_line", 18)]) (g := (gName 18)) (tt := tYes) rfl sc_law.nd (pi_list (pv 7)) (blkOk_by (N := nm_law) (sc := defScope s_law) (by decide +kernel)) (fun _ _ _ _ _ => (pg_name (i := 18) sc_law.nd rfl (Or.inl rfl))) (fun _ _ _ _ _ => pts_nil) (fun _ _ _ _ _ => (pe_op op_add_str (pv 18) pe_str)))))
      (pss_cons (ps_if (pt_cmpR op_notN (pe_has h_law_refused (hr.mono (by decide)) (pa_cons (pv 11) pa_nil)) pe_non (nomark _)) (pss_one (ps_ret pe_bl)) pss_nil)
      (pss_cons (ps_set (i := 12) sc_law.nd rfl (Or.inl rfl) (pe_has h_law_spoilt (hr.mono (by decide)) (pa_cons (pv 2) (pa_cons (pv 7) (pa_cons (pe_ix ix_list (pv 3) pe_int (fun _ _ => rfl)) pa_nil)))))
      (pss_cons (ps_set (i := 13) sc_law.nd rfl (Or.inl rfl) (pe_join pe_str (pe_lc (own := [("_law_line", 18)]) (g := (gName 18)) (tt := tYes) rfl sc_law.nd (pi_list (pv 12)) (blkOk_by (N := nm_law) (sc := defScope s_law) (by decide +kernel)) (fun _ _ _ _ _ => (pg_name (i := 18) sc_law.nd rfl (Or.inl rfl))) (fun _ _ _ _ _ => pts_nil) (fun _ _ _ _ _ => (pe_op op_add_str (pv 18) pe_str)))))
      (C8.pss_cut (ps_if (pt_cmpR op_eq (pe_has h_law_take (hr.mono (by decide)) (pa_cons (pv 2) (pa_cons pe_int pa_nil))) pe_int (nomark _)) (pss_one (ps_set (i := 13) sc_law.nd rfl (Or.inl rfl) (pe_slice sl_str (pv 13) po_none (po_some (pe_op op_sub (pe_op op_sub (pe_callB call_len (by rfl) gB_len boot_len (pa_cons (pv 13) pa_nil)) pe_int) (pe_has h_law_take (hr.mono (by decide)) (pa_cons (pv 2) (pa_cons pe_int pa_nil)))))))) pss_nil)
      (pss_one (ps_if (pt_cmpR op_ne (pe_has h_law_refused (hr.mono (by decide)) (pa_cons (pv 13) pa_nil)) (pe_has h_law_due (hr.mono (by decide)) (pa_cons (pv 13) pa_nil)) (nomark _)) (pss_one (ps_ret pe_bl)) pss_nil)))))))))))))))
      (pss_cons (ps_set (i := 14) sc_law.nd rfl (Or.inl rfl) (pe_lst (pa_cons pe_str (pa_cons pe_str (pa_cons pe_str (pa_cons pe_str (pa_cons pe_str (pa_cons pe_str (pa_cons pe_str pa_nil)))))))))
      (pss_cons (ps_for PassesOwn.never rfl (pi_list (pe_op L2.op_cat (pv 14) (pe_lst (pa_cons pe_str (pa_cons pe_str (pa_cons pe_str pa_nil)))))) (pg_name (i := 11) sc_law.nd rfl (Or.inl rfl))
      (pss_one (ps_if (PW.pt (pw_or (pt_cmpR op_ne (pe_has h_law_refused (hr.mono (by decide)) (pa_cons (pv 11) pa_nil)) (pe_has h_law_due (hr.mono (by decide)) (pa_cons (pv 11) pa_nil)) (nomark _)) (pw_or1 (pt_cmpR op_isN (pe_has h_law_refused (hr.mono (by decide)) (pa_cons (pv 11) pa_nil)) pe_non (nomark _))))) (pss_one (ps_ret pe_bl)) pss_nil)))
      (pss_one (ps_ret pe_bl))))), ?_⟩)
  · obtain ⟨a, ns, rfl, _⟩ := h
    rfl
  · obtain ⟨as, ns, rfl, hsc, q⟩ := h
    have lm : ∀ zs : List Str, (zs.map V.str).length = zs.length := fun zs => List.length_map _
    have sl := sizeLine_eq
    refine ⟨12, rfl, by decide, by decide, for_range (lo := 0) (n := 12) (fun _ σ H' => ∃ v1 v2 v3 v4 v5 v6 v7 v8 v9 v10 v11 v12 v13 v14 v15 v16 v17 v18 : Option V, σ = [some (.ref as), v1, v2, v3, v4, v5, v6, v7, v8, v9, v10, v11, v12, v13, v14, v15, v16, v17, v18] ∧ Ext H H') ⟨none, none, none, none, none, none, none, none, none, none, none, none, none, none, none, none, none, none, rfl, Ext.rfl'⟩ ?_ ?_⟩
    · rintro k σ H0 hk ⟨v1, v2, v3, v4, v5, v6, v7, v8, v9, v10, v11, v12, v13, v14, v15, v16, v17, v18, rfl, x0⟩
      refine ⟨_, rfl, _, rfl, as, ns, k, by rw [Int.zero_add]; rfl, hsc.ext x0, fun i0 => ⟨_, rfl, _, _, rfl, rfl, _, rfl, fun p H1 hp hH1 => ?_⟩⟩
      obtain ⟨pa, pb, pa0, pb0, pb1, rfl⟩ := hH1
      obtain ⟨H1, hH1⟩ : ∃ H1, H1 = L2.upd H0 p (.lst [.int pa, .int pb, .int 0]) := ⟨_, rfl⟩
      rw [← hH1]
      have pool1 : Pool H1 p 0 := ⟨pa, pb, 0, by rw [hH1, upd_same], pa0, pb0, pb1, Int.le_refl _, Int.le_refl _⟩
      have x1 : Ext H0 H1 := by
        rw [hH1]
        exact Ext.upd hp
      refine ⟨_, rfl, p, 0, 3, 2, rfl, by decide, by decide, by decide, by decide, pool1, by decide, fun t l1 l2 fo th H2 b2 p2 ht2 hf ht n12 nl1 nl2 f1 f3 t3 tot nms => ⟨t, _, rfl, SqT.of ht2, rfl, _, _, rfl, _, _, rfl, rfl, ?_⟩⟩
      have n1p : l1 ≠ p := pool_ne pool1 nl1
      have n2p : l2 ≠ p := pool_ne pool1 nl2
      have nok := nms.ok
      have nd := nms.1
      have n7 : (fo ++ th).length ≤ 7 := by
        rw [List.length_append]
        omega
      have n2 : 2 ≤ (fo ++ th).length := by
        rw [List.length_append]
        omega
      have fne : fo ≠ [] := fun e => by
        subst e
        exact absurd f1 (by decide)
      have zok : ∀ z, z ∈ fo ++ th → PyData.strOk z = true := fun z hz => (nok.2 z hz).2.1
      have zsz : (fo ++ th).length < sizeLine := by rw [sizeLine_eq]; omega
      have x02 := ext_but' x1 hp b2
      -- the facts drawn
      refine ⟨_, rfl, p, 6, _, rfl, by decide, by decide, p2, by decide, fun r1 o1 r10 r11 gp1 => ?_⟩
      obtain ⟨m1, rfl⟩ := Int.eq_ofNat_of_zero_le r10
      obtain ⟨H4, hH4⟩ : ∃ H4, H4 = L2.upd H2 p o1 := ⟨_, rfl⟩
      rw [← hH4] at gp1 ⊢
      have b4 : But H2 H4 p := by
        rw [hH4]
        exact But.upd (ext_but Ext.rfl')
      have hm1 : m1 ≤ 5 := by omega
      refine ⟨_, rfl, by omega, by omega, fun D1 hD1 => ?_⟩
      have nD1p : D1 ≠ p := pool_ne gp1 hD1
      have hf4 := b4 _ _ n1p hf
      have ht4 := b4 _ _ n2p ht
      refine lc_range (lo := 0) (n := m1) (fun i H' => But H4 H' p ∧ Pool H' p (100 + 3 * i) ∧ ∃ (sxs : List V) (srs : List (List Str)), H' D1 = some (.lst sxs) ∧ Rows K H' sxs srs ∧ TR fo th srs ∧ srs.length = i) ⟨ext_but (Ext.upd hD1), pool_mono (pool_ext gp1 (Ext.upd hD1)) (by omega), [], [], upd_same, True.intro, (fun r hr => by cases hr), rfl⟩ ?_ ?_
      · rintro i H' hi ⟨bk, pk, sxs, srs, lk, rk, tk, el⟩
        obtain ⟨yk, hyk⟩ := pk.lst
        have sxl : sxs.length = srs.length := rk.len
        refine ⟨rfl, ?_⟩
        refine lcYes ?_
        refine ⟨_, rfl, _, rfl, _, rfl, p, l1, l2, fo, th, _, rfl, pk, by omega, bk _ _ n1p hf4, bk _ _ n2p ht4, n1p, n2p, nd, f1, n2, by omega, fun t wd a' b' Ha ba pa t0 ta ist => ?_⟩
        obtain ⟨ya, hya⟩ := pa.lst
        have lka := ba _ _ nD1p lk
        have ma : Mu H' (L2.upd Ha D1 (.lst (sxs ++ [.ref t]))) := (ba.mu hyk hya).upd lka
        refine ⟨sxs, lka, by rw [sizeLine_eq]; omega, fun a u n e => ?_, pool_upd (pool_mono pa (by omega)) nD1p, sxs ++ [.ref t], srs ++ [[wd, a', b']], upd_same, ?_, ?_, by rw [List.length_append, el]; rfl⟩
        · rw [upd_ne (ne_of_none e hD1)]
          exact ba a u n (bk a u n e)
        · exact Rows.app (Rows.mu ma rk) ⟨⟨t, rfl, SqT.mu (SqT.of ta) ((Ext.mu Ext.rfl').upd lka)⟩, True.intro⟩
        · intro r' hr'
          rcases List.mem_append.mp hr' with hr' | hr'
          · exact tk r' hr'
          · exact ⟨wd, a', b', List.mem_singleton.mp hr', ist⟩
      rintro H5 ⟨b5, p5, s1, r1, lD1, rD1, tr1, el1⟩
      have x05 : Ext H0 H5 := ext_but' (ext_but' x02 hp b4) hp b5
      have hf5 := b5 _ _ n1p hf4
      have ht5 := b5 _ _ n2p ht4
      show tSeq _ _ _ [some (.ref as), some (.int (0 + (k : Int))), some (.ref p), some (.ref l1), some (.ref l2), some (.ref D1), v6, v7, v8, v9, v10, v11, v12, v13, v14, v15, v16, v17, v18] _
      -- pairs of things
      refine ⟨_, rfl, _, rfl, l2, _, rfl, SqL.of ht5, fun sa hsa => ?_⟩
      rw [show (1 : Int) = ((1 : Nat) : Int) from rfl, cutV_takeA, ← List.map_take]
      obtain ⟨H6, hH6⟩ : ∃ H6, H6 = L2.upd H5 sa (.lst ((th.take 1).map V.str)) := ⟨_, rfl⟩
      have xH6 : Ext H5 H6 := by
        rw [hH6]
        exact Ext.upd hsa
      have nH6 : H6 sa = some (.lst ((th.take 1).map V.str)) := by rw [hH6, upd_same]
      rw [← hH6]
      clear hH6
      refine ⟨_, rfl, _, rfl, l2, _, rfl, SqL.of (xH6 _ _ ht5), fun sb hsb => ?_⟩
      rw [cutV_dropA, ← List.map_drop]
      obtain ⟨H7, hH7⟩ : ∃ H7, H7 = L2.upd H6 sb (.lst ((th.drop 1).map V.str)) := ⟨_, rfl⟩
      have xH7 : Ext H6 H7 := by
        rw [hH7]
        exact Ext.upd hsb
      have nH7 : H7 sb = some (.lst ((th.drop 1).map V.str)) := by rw [hH7, upd_same]
      rw [← hH7]
      clear hH7
      refine ⟨_, rfl, _, rfl, sb, _, rfl, SqL.of nH7, fun sc hsc2 => ?_⟩
      rw [show (-((1 : Nat) : Int)) = -1 from rfl, cut_last, ← List.map_drop]
      obtain ⟨kk, hkk⟩ : ∃ kk, kk = (List.map V.str (th.drop 1)).length - 1 := ⟨_, rfl⟩
      rw [← hkk]
      obtain ⟨H8, hH8⟩ : ∃ H8, H8 = L2.upd H7 sc (.lst (((th.drop 1).drop kk).map V.str)) := ⟨_, rfl⟩
      have xH8 : Ext H7 H8 := by
        rw [hH8]
        exact Ext.upd hsc2
      have nH8 : H8 sc = some (.lst (((th.drop 1).drop kk).map V.str)) := by rw [hH8, upd_same]
      rw [← hH8]
      clear hH8
      have x58 := xH6.trans (xH7.trans xH8)
      refine ⟨sa, sc, _, _, rfl, SqL.of ((xH7.trans xH8) _ _ nH6), SqL.of nH8, fun H9 zp ts x9' hzp nzp tl tt => ?_⟩
      have x9 : Ext H8 H9 := x9'
      have x59 := x58.trans x9
      have p9 := pool_ext p5 x59
      refine ⟨_, rfl, p, 3, _, rfl, by decide, by decide, p9, by omega, fun r3 o3 r30 r31 gp3 => ?_⟩
      obtain ⟨H10, hH10⟩ : ∃ H10, H10 = L2.upd H9 p o3 := ⟨_, rfl⟩
      rw [← hH10] at gp3 ⊢
      have b10 : But H9 H10 p := by
        rw [hH10]
        exact But.upd (ext_but Ext.rfl')
      have zpp : zp ≠ p := pool_ne (pool_ext p5 x58) hzp
      obtain ⟨y9, hy9⟩ := p9.lst
      have x010 : Ext H0 H10 := ext_but' (x05.trans x59) hp b10
      refine ⟨rfl, .inr ⟨_, rfl, _, rfl, zp, _, rfl, SqL.of (b10 _ _ zpp nzp), fun w0 hw0 => ?_⟩⟩
      obtain ⟨kn, hkn⟩ : ∃ kn : Nat, (if decide (V.int r3 = V.int 0) = true then ((1 : Nat) : Int) else 0) = (kn : Int) := by
        cases decide (V.int r3 = V.int 0)
        · exact ⟨0, rfl⟩
        · exact ⟨1, rfl⟩
      rw [hkn, cutV_takeA, ← List.map_take]
      obtain ⟨H11, hH11⟩ : ∃ H11, H11 = L2.upd H10 w0 (.lst ((ts.take kn).map V.ref)) := ⟨_, rfl⟩
      have xH11 : Ext H10 H11 := by
        rw [hH11]
        exact Ext.upd hw0
      have nH11 : H11 w0 = some (.lst ((ts.take kn).map V.ref)) := by rw [hH11, upd_same]
      rw [← hH11]
      clear hH11
      have x011 := x010.trans xH11
      obtain ⟨zs, hzs⟩ : ∃ zs, zs = ((th.take 1).zip ((th.drop 1).drop kk)).take kn := ⟨_, rfl⟩
      have zl : ((ts.take kn).map V.ref).length = zs.length := by
        rw [hzs, List.length_map, List.length_take, List.length_take, List.length_zip, tl, lm, lm]
      have zl1 : zs.length ≤ 1 := by
        rw [hzs, List.length_take, List.length_zip, List.length_take]
        omega
      have zat : ∀ (i : Nat) (x : V) (qq : Str × Str), ((ts.take kn).map V.ref)[i]? = some x → zs[i]? = some qq → ∃ t, x = .ref t ∧ H11 t = some (.tup [.str qq.1, .str qq.2]) ∧ IsT fo th "line" qq.1 qq.2 := by
        intro i x qq hx hq
        rw [List.getElem?_map] at hx
        cases ct : (ts.take kn)[i]? with
        | none => rw [ct] at hx; cases hx
        | some t =>
          rw [ct] at hx
          cases hx
          have ik : i < kn := by
            have := (List.getElem?_eq_some_iff.mp ct).1
            rw [List.length_take] at this
            omega
          rw [List.getElem?_take, if_pos ik] at ct
          rw [hzs, List.getElem?_take, if_pos ik, List.getElem?_zip_eq_some] at hq
          have h9 := tt i _ _ t (by rw [List.getElem?_map, hq.1]; rfl) (by rw [List.getElem?_map, hq.2]; rfl) ct
          refine ⟨t, rfl, xH11 _ _ (b10 _ _ (fun e => ?_) h9), ends_line nd hq.1 hq.2⟩
          rw [e, hy9] at h9
          cases h9
      have lD11 : H11 D1 = some (.lst s1) := xH11 _ _ (b10 _ _ nD1p (x59 _ _ lD1))
      have hf11 := xH11 _ _ (b10 _ _ n1p (x59 _ _ hf5))
      have ht11 := xH11 _ _ (b10 _ _ n2p (x59 _ _ ht5))
      have rD11 : Rows K H11 s1 r1 := (Rows.butL hy9 b10 (rD1.ext x59)).ext xH11
      have s1l : s1.length = r1.length := rD1.len
      show tSeq _ _ _ [some (.ref as), some (.int (0 + (k : Int))), some (.ref p), some (.ref l1), some (.ref l2), some (.ref D1), some (.ref w0), v7, v8, v9, v10, v11, v12, v13, v14, v15, v16, v17, v18] _
      -- their lines
      refine ⟨_, rfl, _, rfl, w0, rfl, ⟨_, SqL.of nH11⟩, fun D2 hD2 => ?_⟩
      refine lc_mapQ (R := TupQ K) (f := fun qq : Str × Str => [("line" : Str), qq.1, qq.2]) (as := zs) hD2 (SqL.of nH11) zl (by rw [sizeLine_eq]; omega) (fun H H' y b e ⟨t, e1, sq⟩ => ⟨t, e1, sq.ext e⟩) (fun H acc zs y b hD ⟨t, e1, sq⟩ => ⟨t, e1, sqT_upd sq hD⟩) ?_ ?_
      · rintro i x qq H12 Z0 N hx hq x12 ⟨acc, hacc⟩ yes
        obtain ⟨t, rfl, h11, isT⟩ := zat i x qq hx hq
        refine ⟨t, _, rfl, SqT.of (x12 _ _ h11), rfl, ?_⟩
        refine ⟨_, _, rfl, _, _, rfl, rfl, ?_⟩
        refine ⟨rfl, lcYes ?_⟩
        refine ⟨_, rfl, _, rfl, by show 3 ≤ sizeLine; rw [sizeLine_eq]; decide, fun t2 ht2 => ?_⟩
        exact yes _ _ (Ext.upd ht2) ⟨t2, rfl, SqT.of upd_same⟩
      intro H12 ys2 x12 hD12 aq
      have aql := aq.1
      rw [List.length_map] at aql
      refine ⟨D1, D2, _, _, rfl, rfl, x12 _ _ lD11, hD12, by rw [sizeLine_eq]; omega, fun l5 hl5 => ?_⟩
      obtain ⟨H13, hH13⟩ : ∃ H13, H13 = L2.upd H12 l5 (.lst (s1 ++ ys2)) := ⟨_, rfl⟩
      have xH13 : Ext H12 H13 := by
        rw [hH13]
        exact Ext.upd hl5
      have nH13 : H13 l5 = some (.lst (s1 ++ ys2)) := by rw [hH13, upd_same]
      rw [← hH13]
      clear hH13
      obtain ⟨rs, hrs⟩ : ∃ rs, rs = r1 ++ zs.map fun qq : Str × Str => [("line" : Str), qq.1, qq.2] := ⟨_, rfl⟩
      have hr13 : Rows K H13 (s1 ++ ys2) rs := by
        rw [hrs]
        exact Rows.app (rD11.ext (x12.trans xH13)) ((tupQ_rows aq).ext xH13)
      have trs : TR fo th rs := by
        rw [hrs]
        refine tr1.app fun r hr => ?_
        obtain ⟨qq, hq, rfl⟩ := List.mem_map.mp hr
        obtain ⟨i, hi⟩ := List.mem_iff_getElem?.mp hq
        obtain ⟨x, hx⟩ : ∃ x, ((ts.take kn).map V.ref)[i]? = some x := ⟨_, List.getElem?_eq_getElem (by rw [zl]; exact (List.getElem?_eq_some_iff.mp hi).1)⟩
        obtain ⟨t, _, _, isT⟩ := zat i x qq hx hi
        exact ⟨_, _, _, rfl, isT⟩
      have rsl : rs.length ≤ 6 := by
        rw [hrs, List.length_append, List.length_map]
        omega
      have okr := trs.ok zok
      have x1113 := x12.trans xH13
      have hf13 := x1113 _ _ hf11
      have ht13 := x1113 _ _ ht11
      have x013 := x011.trans x1113
      have xl : (s1 ++ ys2).length = rs.length := hr13.len
      show tSeq _ _ _ [some (.ref as), some (.int (0 + (k : Int))), some (.ref p), some (.ref l1), some (.ref l2), some (.ref l5), some (.ref w0), v7, v8, v9, v10, v11, v12, v13, v14, v15, v16, v17, v18] _
      -- the lines
      have fl3 : fo.length ≤ 3 := f3
      have cl : ∀ z, z ∈ fo ++ th → z.length ≤ 8 := fun z hz => (name_cln (nok.2 z hz).1).len
      have sumf : (fo.map (·.length)).sum ≤ fo.length * 8 := sum_most fun z hz => cl z (List.mem_append_left _ hz)
      have sumt : (th.map (·.length)).sum ≤ th.length * 8 := sum_most fun z hz => cl z (List.mem_append_right _ hz)
      have s1l : (" " : Str).length = 1 := by decide +kernel
      have flen : ("folders " : Str).length = 8 := by decide +kernel
      have tlen : ("things" : Str).length = 6 := by decide +kernel
      refine ⟨⟨_, rfl⟩, _, rfl, (" " : Str), l1, fo, rfl, rfl, .inl (SqL.of hf13), by rw [s1l]; omega, _, _, rfl, rfl, ?_, ?_⟩
      · have := join_len (" " : Str) fo
        rw [txt_join]
        rw [s1l] at this
        omega
      refine ⟨⟨_, rfl⟩, by show 1 ≤ sizeLine; omega, fun a1 ha1 => ?_⟩
      obtain ⟨H14, hH14⟩ : ∃ H14, H14 = L2.upd H13 a1 (.lst [.str "things"]) := ⟨_, rfl⟩
      have xH14 : Ext H13 H14 := by
        rw [hH14]
        exact Ext.upd ha1
      have nH14 : H14 a1 = some (.lst [.str "things"]) := by rw [hH14, upd_same]
      rw [← hH14]
      clear hH14
      refine ⟨_, rfl, a1, l2, _, _, rfl, rfl, nH14, xH14 _ _ ht13, by rw [lm]; show 1 + _ ≤ _; omega, fun a2 ha2 => ?_⟩
      obtain ⟨H15, hH15⟩ : ∃ H15, H15 = L2.upd H14 a2 (.lst ([.str "things"] ++ th.map V.str)) := ⟨_, rfl⟩
      have xH15 : Ext H14 H15 := by
        rw [hH15]
        exact Ext.upd ha2
      have nH15 : H15 a2 = some (.lst ([.str "things"] ++ th.map V.str)) := by rw [hH15, upd_same]
      rw [← hH15]
      clear hH15
      refine ⟨(" " : Str), a2, ("things" : Str) :: th, rfl, rfl, .inl (SqL.of nH15), by rw [s1l, List.map_cons, List.sum_cons, List.length_cons, tlen]; omega, ?_⟩
      rw [line_fold fne, line_thing]
      refine ⟨by show 2 ≤ sizeLine; omega, fun ll hll => ?_⟩
      obtain ⟨H16, hH16⟩ : ∃ H16, H16 = L2.upd H15 ll (.lst [.str (lineS ("folders" :: fo)), .str (lineS ("things" :: th))]) := ⟨_, rfl⟩
      have xH16 : Ext H15 H16 := by
        rw [hH16]
        exact Ext.upd hll
      have nH16 : H16 ll = some (.lst [.str (lineS ("folders" :: fo)), .str (lineS ("things" :: th))]) := by rw [hH16, upd_same]
      rw [← hH16]
      clear hH16
      have x1316 := xH14.trans (xH15.trans xH16)
      have hr16 := hr13.ext x1316
      have n16 := x1316 _ _ nH13
      have x016 := x013.trans x1316
      have hf16 := x1316 _ _ hf13
      have xl : (s1 ++ ys2).length = rs.length := hr13.len
      have llH0 : H0 ll = none := ext_none (x013.trans (xH14.trans xH15)) hll
      show tSeq _ _ _ [some (.ref as), some (.int (0 + (k : Int))), some (.ref p), some (.ref l1), some (.ref l2), some (.ref l5), some (.ref w0), some (.ref ll), v8, v9, v10, v11, v12, v13, v14, v15, v16, v17, v18] _
      refine ⟨_, rfl, _, rs.length, rfl, .inl ⟨_, SqL.of n16, xl.symm⟩, _, rfl, Int.natCast_nonneg _, Int.lt_of_le_of_lt (Int.ofNat_le.mpr rsl) (by decide), fun D hD => ?_⟩
      refine lc_range (lo := 0) (n := rs.length) (fun k H' => Ext H16 H' ∧ ∃ acc, H' D = some (.lst acc) ∧ acc.length ≤ k ∧ Rows K H' acc (onceR (rs.take k))) ⟨Ext.upd hD, [], upd_same, Nat.zero_le _, True.intro⟩ ?_ ?_
      · rintro k H1 hk ⟨x1, acc, l1, alen, ra⟩
        obtain ⟨x, hx⟩ : ∃ x, (s1 ++ ys2)[k]? = some x := ⟨_, List.getElem?_eq_getElem (by omega)⟩
        obtain ⟨t, r, rfl, sq, hr'⟩ := (hr16.ext x1).at_ hx
        have h1 := x1 _ _ n16
        have tk : onceR (rs.take (k + 1)) = if r ∈ onceR (rs.take k) then onceR (rs.take k) else onceR (rs.take k) ++ [r] := by
          rw [List.take_add_one, hr']
          exact once_snoc _ _
        refine ⟨rfl, _, rfl, _, rfl, l5, _, _, .ref t, rfl, rfl, SqL.of h1, by rw [Int.zero_add]; exact atI_nat hx, ?_⟩
        refine ⟨_, rfl, _, rfl, _, rfl, l5, _, rfl, SqL.of h1, fun s1' hs1 => ?_⟩
        rw [show ((0 : Int) + (k : Int)) = (k : Int) from Int.zero_add _, cutV_takeA]
        have w1 := Ext.upd (o := .lst ((s1 ++ ys2).take k)) hs1
        have rk : Rows K (L2.upd H1 s1' (.lst ((s1 ++ ys2).take k))) ((s1 ++ ys2).take k) (rs.take k) := ((hr16.ext x1).ext w1).take k
        refine ⟨.tuple (r.map PyData.str), _, .tup (sq.ext w1) (dpAll_str r), .lst (SqL.of upd_same) (rows_dp rk), shaped_strT r (okr r (List.mem_of_getElem? hr')), rows_shaped (fun q hq => okr q (List.mem_of_mem_take hq)), _, rfl, ?_⟩
        have l1' := w1 _ _ l1
        rw [any_rows]
        refine ite2 (fun c => ?_) (fun c => ?_)
        · have c' : r ∉ rs.take k := by simpa using c
          rw [if_neg fun z => c' (onceR_sub _ z)] at tk
          refine ⟨_, rfl, _, rfl, l5, _, _, .ref t, rfl, rfl, SqL.of (w1 _ _ h1), atI_nat hx, acc, l1', by rw [sizeLine_eq]; omega, (x1.trans w1).over hD, _, upd_same, by rw [List.length_append]; exact Nat.succ_le_succ alen, ?_⟩
          rw [tk]
          exact Rows.upd l1' (Rows.app (ra.ext w1) ⟨⟨t, rfl, sq.ext w1⟩, True.intro⟩)
        · have c' : r ∈ rs.take k := by simpa using c
          rw [if_pos (show r ∈ onceR (rs.take k) from fold_has (rs.take k) [] r (.inr c'))] at tk
          exact ⟨x1.trans w1, acc, l1', Nat.le_succ_of_le alen, by rw [tk]; exact ra.ext w1⟩
      rintro H14 ⟨x14, ox, lD14, olen, ro14⟩
      rw [List.take_length] at ro14
      obtain ⟨ones, hones⟩ : ∃ ones, ones = onceR rs := ⟨_, rfl⟩
      rw [← hones] at ro14
      have tro : TR fo th ones := by rw [hones]; exact trs.once
      have ondu : ones.Nodup := by rw [hones]; exact once_nodup' rs [] List.nodup_nil
      have oxl : ox.length = ones.length := ro14.len
      have sm : Sm fo th ones := ⟨nok, fne, by omega, by omega, tro⟩
      have oko := tro.ok zok
      have hf14 := x14 _ _ hf16
      have x014 := x016.trans x14
      have ll14 := x14 _ _ nH16
      have ol6 : ones.length ≤ 6 := by
        have := once_len rs []
        rw [hones]
        unfold onceR
        rw [List.length_nil] at this
        omega
      clear x9' tt zat rD11 hr13 rD1 gp1
      have nDl : D ≠ ll := fun e => by rw [e, nH16] at hD; cases hD
      have npl : p ≠ ll := fun e => by
        obtain ⟨y, hy⟩ := gp3.lst
        have := (xH11.trans (x1113.trans (xH14.trans xH15))) _ _ hy
        rw [e, hll] at this
        cases this
      have n1ll : l1 ≠ ll := fun e => by
        have := (xH14.trans xH15) _ _ hf13
        rw [e, hll] at this
        cases this
      have gp14 := pool_ext (pool_ext gp3 (xH11.trans (x1113.trans x1316))) x14
      have sm : Sm fo th ones := ⟨nok, fne, by omega, by omega, tro⟩
      refine ⟨D, rfl, ⟨_, SqL.of lD14⟩, ?_⟩
      refine for_it (walk_list (xs := ox)) (fun i σ H' => But H14 H' ll ∧ (∃ u8 u9 u10, σ = [some (.ref as), some (.int (0 + (k : Int))), some (.ref p), some (.ref l1), some (.ref l2), some (.ref l5), some (.ref w0), some (.ref ll), u8, u9, u10, v11, v12, v13, v14, v15, v16, v17, v18]) ∧ H' ll = some (.lst (((rowsTx fo th (ones.take i)).map lineS).map V.str))) ⟨fun _ _ _ e => e, ⟨_, _, _, rfl⟩, ll14⟩ (fun i σ H' _ pp => SqL.of (pp.1 _ _ nDl lD14)) ?_ ?_
      · rintro i x σ Ha Hb hi ⟨ba, ⟨u8, u9, u10, rfl⟩, la⟩ ⟨rfl, hx⟩
        obtain ⟨t, r, rfl, sqt, hr'⟩ := ro14.at_ hx
        have sqa := sqT_butL ll14 ba sqt
        obtain ⟨w', a', b', rfl, isT⟩ := tro r (List.mem_of_getElem? hr')
        refine ⟨t, _, rfl, sqa, rfl, _, _, rfl, _, _, rfl, _, _, rfl, rfl, ?_⟩
        have za := cl a' isT.1.2.1
        have zb := cl b' isT.1.2.2.1
        have zw := (cln_words isT.1.1).len
        refine ⟨_, rfl, .inl ⟨rfl, _, .inl (.inl la)⟩, _, rfl, _, _, rfl, rfl, by omega, _, rfl, _, _, rfl, rfl, by rw [app_len]; omega, _, _, rfl, rfl, by rw [app_len, app_len]; omega, _, rfl, _, _, rfl, rfl, by rw [app_len, app_len, app_len]; omega, ll, _, _, rfl, rfl, la, by rw [List.length_map, List.length_map]; have := (sm.take i).num; omega, ?_⟩
        have e : rowsTx fo th (ones.take (i + 1)) = rowsTx fo th (ones.take i) ++ [[a', w', b']] := by
          unfold rowsTx
          rw [List.take_add_one, hr', List.map_append]
          rfl
        refine ⟨fun c u nc h => by rw [upd_ne nc]; exact ba c u nc h, ⟨_, _, _, rfl⟩, ?_⟩
        rw [upd_same, e, List.map_append, List.map_append, line_three]
        rfl
      · rintro σ Ha ⟨ba, ⟨u8, u9, u10, rfl⟩, la⟩
        rw [ro14.len, List.take_length] at la
        have x0a : Ext H0 Ha := fun c u e => ba c u (ne_of_none e llH0) (x014 c u e)
        have gpa : Pool Ha p (100 + 3 * (m1 : Int) + 1) := by
          obtain ⟨y, hy⟩ := gp14.lst
          exact pool_at gp14 ((ba _ _ npl hy).trans hy.symm)
        have num := sm.num
        have nle : (rowsTx fo th ones).length ≤ 8 := by
          show (ones.map turnR).length + 1 + 1 ≤ 8
          rw [List.length_map]
          omega
        have lsz : ∀ z, z ∈ (rowsTx fo th ones).map lineS → z.length ≤ 34 := fun z hz => by
          obtain ⟨r, hr, rfl⟩ := List.mem_map.mp hz
          have ln := sm.lns r hr
          rcases List.mem_cons.mp hr with rfl | hr
          · have h1 := join_eqlen (c := 32) (zs := ("folders" : Str) :: fo) (List.cons_ne_nil _ _)
            have f7 : ("folders" : Str).length = 7 := by decide +kernel
            rw [List.map_cons, List.sum_cons, List.length_cons, f7] at h1
            show (Str.join ⟨#[32]⟩ (("folders" : Str) :: fo)).length ≤ 34
            omega
          · have l3 : r.length ≤ 3 := by
              rcases List.mem_cons.mp hr with rfl | hr
              · rw [List.length_cons]
                omega
              · obtain ⟨r', hr', rfl⟩ := List.mem_map.mp hr
                obtain ⟨w', a', b', rfl, _⟩ := tro r' hr'
                exact Nat.le_refl _
            have := line_sz (n := 3) ln.1 (fun z hz => (ln.2.2 z hz).len) l3
            omega
        have lb : LB ((rowsTx fo th ones).map lineS) 8 34 := ⟨by rw [List.length_map]; exact nle, lsz⟩
        have nl1l : My.nl1.length = 1 := rfl
        have em0 : (⟨#[]⟩ : Str).length = 0 := rfl
        -- the text of lines
        have feed : ∀ {zs : List Str} {n m : Nat}, LB zs n m → n ≤ 9 → m ≤ 35 → ((zs.map fun z => z ++ My.nl1).map (·.length)).sum + (zs.map fun z => z ++ My.nl1).length * (⟨#[]⟩ : Str).length ≤ 324 := fun {zs n m} lb hn hm => by
          have h2 := sum_most (zs := zs.map fun z => z ++ My.nl1) (m := 36) fun z hz => by
            obtain ⟨y, hy, rfl⟩ := List.mem_map.mp hz
            have := lb.sz y hy
            rw [app_len]
            omega
          have := lb.num
          rw [List.length_map] at h2
          rw [em0]
          omega
        have feedl : ∀ {zs : List Str} {n m : Nat}, LB zs n m → n ≤ 9 → m ≤ 35 → (Str.join ⟨#[]⟩ (zs.map fun z => z ++ My.nl1)).length ≤ 324 := fun lb hn hm => Nat.le_trans (join_len _ _) (feed lb hn hm)
        refine ⟨⟨_, rfl⟩, _, rfl, ll, rfl, ⟨_, SqL.of la⟩, fun D2 hD2 => ?_⟩
        refine lc_mapQ (R := StrQ) (f := fun z : Str => z ++ My.nl1) (as := (rowsTx fo th ones).map lineS) hD2 (SqL.of la) (lm _) (by rw [List.length_map]; omega) (fun _ _ _ _ _ h => h) (fun _ _ _ _ _ _ h => h) ?_ ?_
        · rintro i x z Hb Z0 N hx hz xb ⟨acc, hacc⟩ yes
          rw [List.getElem?_map, hz] at hx
          cases hx
          have := lsz z (List.mem_of_getElem? hz)
          refine ⟨rfl, lcYes ?_⟩
          refine ⟨_, rfl, _, _, rfl, rfl, by rw [nl_eq]; omega, ?_⟩
          exact yes _ _ Ext.rfl' (by rw [nl_eq]; rfl)
        intro Hb ysb xb hDb aqb
        refine ⟨("" : Str), D2, _, rfl, rfl, .inl (SqL.of (by rw [hDb, strQ_all aqb])), by rw [em_eq]; exact Nat.le_trans (feed lb (by decide) (by decide)) (by decide), ?_⟩
        have txe : Txt.join ("" : Str) (((rowsTx fo th ones).map lineS).map fun z => z ++ My.nl1) = txS fo th ones := by
          rw [txt_join, em_eq, List.map_map]
          rfl
        have txl : (txS fo th ones).length ≤ 324 := by
          rw [← txe, txt_join, em_eq]
          exact feedl lb (by decide) (by decide)
        rw [txe]
        refine ⟨_, rfl, txS fo th ones, rfl, by omega, fun Hc xc => ⟨rfl, _, rfl, iteF' (by rw [due_told sm ondu]; rfl) ?_⟩⟩
        have xac := xb.trans xc
        have x0c := x0a.trans xac
        obtain ⟨fo0, fo', efo⟩ : ∃ fo0 fo', fo = fo0 :: fo' := by
          cases fo with
          | nil => exact absurd rfl fne
          | cons a r => exact ⟨a, r, rfl⟩
        have hfc : Hc l1 = some (.lst (fo.map V.str)) := xac _ _ (ba _ _ n1ll hf14)
        have lac := xac _ _ la
        have gpc := pool_ext gpa xac
        have f08 : fo0.length ≤ 8 := cl fo0 (by rw [efo]; exact List.mem_append_left _ List.mem_cons_self)
        refine ⟨_, rfl, _, rfl, _, rfl, l1, _, _, .str fo0, rfl, rfl, SqL.of hfc, by rw [efo]; exact atI_nat (j := 0) rfl, p, ll, (rowsTx fo th ones).map lineS, fo0, _, rfl, gpc, by omega, lac, Ne.symm npl, by rw [List.length_map]; exact Nat.succ_le_succ (Nat.zero_le _), lb, f08, fun sd ks Hd bd gpd hsd hks lbk => ?_⟩
        have x0d : Ext H0 Hd := ext_but' x0c hp bd
        have knum := lbk.num
        -- its text
        refine ⟨⟨_, rfl⟩, _, rfl, sd, rfl, ⟨_, SqL.of hks⟩, fun D3 hD3 => ?_⟩
        refine lc_mapQ (R := StrQ) (f := fun z : Str => z ++ My.nl1) (as := ks) hD3 (SqL.of hks) (lm _) (by omega) (fun _ _ _ _ _ h => h) (fun _ _ _ _ _ _ h => h) ?_ ?_
        · rintro i x z Hx Z0 N hx hz xb ⟨acc, hacc⟩ yes
          rw [List.getElem?_map, hz] at hx
          cases hx
          have := lbk.sz z (List.mem_of_getElem? hz)
          refine ⟨rfl, lcYes ?_⟩
          refine ⟨_, rfl, _, _, rfl, rfl, by rw [nl_eq]; omega, ?_⟩
          exact yes _ _ Ext.rfl' (by rw [nl_eq]; rfl)
        intro He yse xe hDe aqe
        refine ⟨("" : Str), D3, _, rfl, rfl, .inl (SqL.of (by rw [hDe, strQ_all aqe])), by rw [em_eq]; exact Nat.le_trans (feed lbk (by decide) (by decide)) (by decide), ?_⟩
        rw [txt_join, em_eq]
        have wl := feedl lbk (by decide) (by decide)
        obtain ⟨wz, hwz⟩ : ∃ wz, wz = Str.join ⟨#[]⟩ (ks.map fun z => z ++ My.nl1) := ⟨_, rfl⟩
        rw [← hwz] at wl ⊢
        have x0e := x0d.trans xe
        have gpe := pool_ext gpd xe
        show C8.tCut _ _ _ [some (.ref as), some (.int (0 + (k : Int))), some (.ref p), some (.ref l1), some (.ref l2), some (.ref l5), some (.ref w0), some (.ref ll), u8, u9, u10, some (.str (txS fo th ones)), some (.ref sd), some (.str wz), v14, v15, v16, v17, v18] _
        refine ⟨fun σ H' => ∃ z : Str, σ = [some (.ref as), some (.int (0 + (k : Int))), some (.ref p), some (.ref l1), some (.ref l2), some (.ref l5), some (.ref w0), some (.ref ll), u8, u9, u10, some (.str (txS fo th ones)), some (.ref sd), some (.str z), v14, v15, v16, v17, v18] ∧ z.length ≤ 450 ∧ Ext H0 H', ?_, fun σ' H' ⟨z, e, zl, x0z⟩ => ?_⟩
        · refine ⟨_, rfl, p, 4, _, rfl, by decide, by decide, gpe, by omega, fun r4 o4 r40 r41 gp4 => ?_⟩
          obtain ⟨Hf, hHf⟩ : ∃ Hf, Hf = L2.upd He p o4 := ⟨_, rfl⟩
          rw [← hHf] at gp4 ⊢
          have bf : But He Hf p := by
            rw [hHf]
            exact But.upd (ext_but Ext.rfl')
          have x0f : Ext H0 Hf := ext_but' x0e hp bf
          refine ⟨rfl, _, rfl, ?_⟩
          refine ite2 (fun _ => ?_) (fun _ => ?_)
          · refine ⟨_, rfl, _, rfl, .str wz, wz.length, rfl, ⟨by omega, rfl⟩, _, _, rfl, rfl, _, rfl, p, 3, _, rfl, by decide, by decide, gp4, by omega, fun r5 o5 r50 r51 gp5 => ?_⟩
            obtain ⟨Hg, hHg⟩ : ∃ Hg, Hg = L2.upd Hf p o5 := ⟨_, rfl⟩
            rw [← hHg] at gp5 ⊢
            have bg : But Hf Hg p := by
              rw [hHg]
              exact But.upd (ext_but Ext.rfl')
            refine ⟨_, _, rfl, rfl, _, rfl, wz, rfl, by omega, ?_⟩
            exact ⟨_, rfl, Nat.le_trans (cut_any _ _) (by omega), ext_but' x0f hp bg⟩
          · exact ⟨wz, rfl, by omega, x0f⟩
        · subst e
          refine ⟨_, rfl, z, rfl, zl, fun Hh xh => ⟨_, rfl, z, rfl, zl, fun Hi xi => ⟨scal_self _, _, rfl, iteF' (by simp) ?_⟩⟩⟩
          exact ⟨_, _, _, _, _, _, _, _, _, _, _, _, _, _, _, _, _, _, rfl, x0.trans (x0z.trans (xh.trans xi))⟩
    · rintro σ H1 ⟨v1, v2, v3, v4, v5, v6, v7, v8, v9, v10, v11, v12, v13, v14, v15, v16, v17, v18, rfl, x1⟩
      refine ⟨by show 7 ≤ sizeLine; omega, fun g1 hg1 => ?_⟩
      obtain ⟨H2, hH2⟩ : ∃ H2, H2 = L2.upd H1 g1 (.lst [.str "", .str "\n", .str "folders", .str "folders a", .str "folders a\n", .str "folders\n", .str "folders a\nthings"]) := ⟨_, rfl⟩
      have xH2 : Ext H1 H2 := by
        rw [hH2]
        exact Ext.upd hg1
      have nH2 : H2 g1 = some (.lst [.str "", .str "\n", .str "folders", .str "folders a", .str "folders a\n", .str "folders\n", .str "folders a\nthings"]) := by rw [hH2, upd_same]
      rw [← hH2]
      clear hH2
      refine ⟨_, rfl, by show 3 ≤ sizeLine; omega, fun g2 hg2 => ?_⟩
      obtain ⟨H3, hH3⟩ : ∃ H3, H3 = L2.upd H2 g2 (.lst [.str "folders a\nthings\n\n", .str "folders a\tb\nthings t\n", .str "folders a\nthings t\t\n"]) := ⟨_, rfl⟩
      have xH3 : Ext H2 H3 := by
        rw [hH3]
        exact Ext.upd hg2
      have nH3 : H3 g2 = some (.lst [.str "folders a\nthings\n\n", .str "folders a\tb\nthings t\n", .str "folders a\nthings t\t\n"]) := by rw [hH3, upd_same]
      rw [← hH3]
      clear hH3
      refine ⟨g1, g2, _, _, rfl, rfl, xH3 _ _ nH2, nH3, by show 7 + 3 ≤ sizeLine; omega, fun g3 hg3 => ?_⟩
      obtain ⟨H4, hH4⟩ : ∃ H4, H4 = L2.upd H3 g3 (.lst ([.str "", .str "\n", .str "folders", .str "folders a", .str "folders a\n", .str "folders\n", .str "folders a\nthings"] ++ [.str "folders a\nthings\n\n", .str "folders a\tb\nthings t\n", .str "folders a\nthings t\t\n"])) := ⟨_, rfl⟩
      have xH4 : Ext H3 H4 := by
        rw [hH4]
        exact Ext.upd hg3
      have nH4 : H4 g3 = some (.lst ([.str "", .str "\n", .str "folders", .str "folders a", .str "folders a\n", .str "folders\n", .str "folders a\nthings"] ++ [.str "folders a\nthings\n\n", .str "folders a\tb\nthings t\n", .str "folders a\nthings t\t\n"])) := by rw [hH4, upd_same]
      rw [← hH4]
      clear hH4
      have n4 : H4 g3 = some (.lst (shorts.map V.str)) := nH4
      refine ⟨g3, rfl, ⟨_, SqL.of n4⟩, ?_⟩
      refine for_it (walk_list (xs := shorts.map V.str)) (fun i σ H' => Ext H4 H' ∧ ∃ v11, σ = [some (.ref as), v1, v2, v3, v4, v5, v6, v7, v8, v9, v10, v11, v12, v13, some (.ref g1), v15, v16, v17, v18]) ⟨Ext.rfl', _, rfl⟩ (fun i σ H' _ pp => SqL.of (pp.1 _ _ n4)) ?_ ?_
      · rintro i x σ Ha Hb hi ⟨xa, v11, rfl⟩ ⟨rfl, hx⟩
        obtain ⟨z, hz, rfl⟩ := strs_at hx
        obtain ⟨dn, zl⟩ := shorts_due z (List.mem_of_getElem? hz)
        refine ⟨_, rfl, z, rfl, zl, fun Hc xc => ⟨_, rfl, z, rfl, zl, fun Hd xd => ⟨scal_self _, _, rfl, iteF' (by simp) ?_⟩⟩⟩
        refine ⟨_, rfl, z, rfl, zl, fun He xe => ⟨rfl, _, rfl, iteF' ?_ ?_⟩⟩
        · cases c : dueT z with
          | none => exact absurd c dn
          | some n => simp [optV]
        · exact ⟨xa.trans (xc.trans (xd.trans xe)), _, rfl⟩
      · rintro σ Ha ⟨xa, v11, rfl⟩
        exact q _
end
end My

namespace My
open PySem PySem.Spec PyProof.Rows L2 He
section
variable {P : Program} {w : World} {K : PySem.W.Frag} {h : Heap} {mg : Str → Option Value} {base : Heap}
theorem facts {f : Addr} (X : K.In h) (G : h.Ns mainGlobals mg) (hfa : mg ("law" : Str) = some (.ref f)) (c : SaysD fa fn K) (e : houB K = true) :
    ∃ fd : FuncData, (∀ (s : Shared) (v : Value), BindsTo s fd ⟨[v], []⟩ [("_law_script", v)]) ∧ ∀ base : Heap, K.In base → base.Ns mainGlobals mg → FnOk P w K mg base CX0 13 f fd ["_law_script"] (spLaw K) := by
  obtain ⟨fd_BadHouse_init, F_BadHouse_init⟩ := c.def_ 0 (d := d_BadHouse_init) rfl
  obtain ⟨fd_BadFact_init, F_BadFact_init⟩ := c.def_ 1 (d := d_BadFact_init) rfl
  obtain ⟨fd_BadText_init, F_BadText_init⟩ := c.def_ 2 (d := d_BadText_init) rfl
  obtain ⟨fd_is_list, F_is_list⟩ := c.def_ 3 (d := d_is_list) rfl
  obtain ⟨fd_is_name, F_is_name⟩ := c.def_ 4 (d := d_is_name) rfl
  obtain ⟨fd_is_fact, F_is_fact⟩ := c.def_ 5 (d := d_is_fact) rfl
  obtain ⟨fd_wrong_fact, F_wrong_fact⟩ := c.def_ 6 (d := d_wrong_fact) rfl
  obtain ⟨fd_as_told, F_as_told⟩ := c.def_ 7 (d := d_as_told) rfl
  obtain ⟨fd_each_once, F_each_once⟩ := c.def_ 8 (d := d_each_once) rfl
  obtain ⟨fd_Facts_init, F_Facts_init⟩ := c.def_ 9 (d := d_Facts_init) rfl
  obtain ⟨fd_Facts_told, F_Facts_told⟩ := c.def_ 10 (d := d_Facts_told) rfl
  obtain ⟨fd_Facts_add, F_Facts_add⟩ := c.def_ 11 (d := d_Facts_add) rfl
  obtain ⟨fd_Facts_len, F_Facts_len⟩ := c.def_ 12 (d := d_Facts_len) rfl
  obtain ⟨fd_Facts_contains, F_Facts_contains⟩ := c.def_ 13 (d := d_Facts_contains) rfl
  obtain ⟨fd_Facts_iter, F_Facts_iter⟩ := c.def_ 14 (d := d_Facts_iter) rfl
  obtain ⟨fd_Facts_eq, F_Facts_eq⟩ := c.def_ 15 (d := d_Facts_eq) rfl
  obtain ⟨fd_wrong_name, F_wrong_name⟩ := c.def_ 16 (d := d_wrong_name) rfl
  obtain ⟨fd_wrong_part, F_wrong_part⟩ := c.def_ 17 (d := d_wrong_part) rfl
  obtain ⟨fd_House_init, F_House_init⟩ := c.def_ 18 (d := d_House_init) rfl
  obtain ⟨fd_House_len, F_House_len⟩ := c.def_ 19 (d := d_House_len) rfl
  obtain ⟨fd_House_contains, F_House_contains⟩ := c.def_ 20 (d := d_House_contains) rfl
  obtain ⟨fd_House_iter, F_House_iter⟩ := c.def_ 21 (d := d_House_iter) rfl
  obtain ⟨fd_House_eq, F_House_eq⟩ := c.def_ 22 (d := d_House_eq) rfl
  obtain ⟨fd_house_of, F_house_of⟩ := c.def_ 23 (d := d_house_of) rfl
  obtain ⟨fd_fact_of, F_fact_of⟩ := c.def_ 24 (d := d_fact_of) rfl
  obtain ⟨fd_read, F_read⟩ := c.def_ 25 (d := d_read) rfl
  obtain ⟨fd__law_cell, F__law_cell⟩ := c.def_ 26 (d := d__law_cell) rfl
  obtain ⟨fd__law_pool, F__law_pool⟩ := c.def_ 27 (d := d__law_pool) rfl
  obtain ⟨fd__law_take, F__law_take⟩ := c.def_ 28 (d := d__law_take) rfl
  obtain ⟨fd__law_mixed, F__law_mixed⟩ := c.def_ 29 (d := d__law_mixed) rfl
  obtain ⟨fd__law_names, F__law_names⟩ := c.def_ 30 (d := d__law_names) rfl
  obtain ⟨fd__law_house, F__law_house⟩ := c.def_ 31 (d := d__law_house) rfl
  obtain ⟨fd__law_fact, F__law_fact⟩ := c.def_ 32 (d := d__law_fact) rfl
  obtain ⟨fd__law_is_name, F__law_is_name⟩ := c.def_ 33 (d := d__law_is_name) rfl
  obtain ⟨fd__law_are_new, F__law_are_new⟩ := c.def_ 34 (d := d__law_are_new) rfl
  obtain ⟨fd__law_can_stand, F__law_can_stand⟩ := c.def_ 35 (d := d__law_can_stand) rfl
  obtain ⟨fd__law_due, F__law_due⟩ := c.def_ 36 (d := d__law_due) rfl
  obtain ⟨fd__law_refused, F__law_refused⟩ := c.def_ 37 (d := d__law_refused) rfl
  obtain ⟨fd__law_spoilt, F__law_spoilt⟩ := c.def_ 38 (d := d__law_spoilt) rfl
  obtain ⟨fd_law, F_law⟩ := c.def_ 39 (d := d_law) rfl
  have b_is_list : Binds K fd_is_list ["thing"] [] := FunD.bindsN F_is_list fun _ _ _ _ _ _ us hl => match us, hl with | [_], _ => rfl
  have b_is_name : Binds K fd_is_name ["thing"] [] := FunD.bindsN F_is_name fun _ _ _ _ _ _ us hl => match us, hl with | [_], _ => rfl
  have b_is_fact : Binds K fd_is_fact ["house", "thing"] [] := FunD.bindsN F_is_fact fun _ _ _ _ _ _ us hl => match us, hl with | [_, _], _ => rfl
  have b_wrong_fact : Binds K fd_wrong_fact ["house", "facts"] [] := FunD.bindsN F_wrong_fact fun _ _ _ _ _ _ us hl => match us, hl with | [_, _], _ => rfl
  have b_as_told : Binds K fd_as_told ["house", "fact"] [] := FunD.bindsN F_as_told fun _ _ _ _ _ _ us hl => match us, hl with | [_, _], _ => rfl
  have b_each_once : Binds K fd_each_once ["house", "facts"] [] := FunD.bindsN F_each_once fun _ _ _ _ _ _ us hl => match us, hl with | [_, _], _ => rfl
  have b_Facts_told : Binds K fd_Facts_told ["self"] [] := FunD.bindsN F_Facts_told fun _ _ _ _ _ _ us hl => match us, hl with | [_], _ => rfl
  have b_Facts_add : Binds K fd_Facts_add ["self", "other"] [] := FunD.bindsN F_Facts_add fun _ _ _ _ _ _ us hl => match us, hl with | [_, _], _ => rfl
  have b_Facts_len : Binds K fd_Facts_len ["self"] [] := FunD.bindsN F_Facts_len fun _ _ _ _ _ _ us hl => match us, hl with | [_], _ => rfl
  have b_Facts_contains : Binds K fd_Facts_contains ["self", "x"] [] := FunD.bindsN F_Facts_contains fun _ _ _ _ _ _ us hl => match us, hl with | [_, _], _ => rfl
  have b_Facts_iter : Binds K fd_Facts_iter ["self"] [] := FunD.bindsN F_Facts_iter fun _ _ _ _ _ _ us hl => match us, hl with | [_], _ => rfl
  have b_Facts_eq : Binds K fd_Facts_eq ["self", "other"] [] := FunD.bindsN F_Facts_eq fun _ _ _ _ _ _ us hl => match us, hl with | [_, _], _ => rfl
  have b_wrong_name : Binds K fd_wrong_name ["things"] [] := FunD.bindsN F_wrong_name fun _ _ _ _ _ _ us hl => match us, hl with | [_], _ => rfl
  have b_wrong_part : Binds K fd_wrong_part ["folders", "things"] [] := FunD.bindsN F_wrong_part fun _ _ _ _ _ _ us hl => match us, hl with | [_, _], _ => rfl
  have b_House_len : Binds K fd_House_len ["self"] [] := FunD.bindsN F_House_len fun _ _ _ _ _ _ us hl => match us, hl with | [_], _ => rfl
  have b_House_contains : Binds K fd_House_contains ["self", "x"] [] := FunD.bindsN F_House_contains fun _ _ _ _ _ _ us hl => match us, hl with | [_, _], _ => rfl
  have b_House_iter : Binds K fd_House_iter ["self"] [] := FunD.bindsN F_House_iter fun _ _ _ _ _ _ us hl => match us, hl with | [_], _ => rfl
  have b_House_eq : Binds K fd_House_eq ["self", "other"] [] := FunD.bindsN F_House_eq fun _ _ _ _ _ _ us hl => match us, hl with | [_, _], _ => rfl
  have b_house_of : Binds K fd_house_of ["lines"] [] := FunD.bindsN F_house_of fun _ _ _ _ _ _ us hl => match us, hl with | [_], _ => rfl
  have b_fact_of : Binds K fd_fact_of ["line"] [] := FunD.bindsN F_fact_of fun _ _ _ _ _ _ us hl => match us, hl with | [_], _ => rfl
  have b_read : Binds K fd_read ["text"] [] := FunD.bindsN F_read fun _ _ _ _ _ _ us hl => match us, hl with | [_], _ => rfl
  have b__law_cell : Binds K fd__law_cell ["_law_script", "_law_k"] [] := FunD.bindsN F__law_cell fun _ _ _ _ _ _ us hl => match us, hl with | [_, _], _ => rfl
  have b__law_pool : Binds K fd__law_pool ["_law_grain"] [] := FunD.bindsN F__law_pool fun _ _ _ _ _ _ us hl => match us, hl with | [_], _ => rfl
  have b__law_take : Binds K fd__law_take ["_law_pool_here", "_law_many"] [] := FunD.bindsN F__law_take fun _ _ _ _ _ _ us hl => match us, hl with | [_, _], _ => rfl
  have b__law_mixed : Binds K fd__law_mixed ["_law_pool_here", "_law_things"] [] := FunD.bindsN F__law_mixed fun _ _ _ _ _ _ us hl => match us, hl with | [_, _], _ => rfl
  have b__law_names : Binds K fd__law_names ["_law_pool_here", "_law_many"] [] := FunD.bindsN F__law_names fun _ _ _ _ _ _ us hl => match us, hl with | [_, _], _ => rfl
  have b__law_house : Binds K fd__law_house ["_law_pool_here", "_law_most", "_law_more"] [] := FunD.bindsN F__law_house fun _ _ _ _ _ _ us hl => match us, hl with | [_, _, _], _ => rfl
  have b__law_fact : Binds K fd__law_fact ["_law_pool_here", "_law_folders", "_law_things"] [] := FunD.bindsN F__law_fact fun _ _ _ _ _ _ us hl => match us, hl with | [_, _, _], _ => rfl
  have b__law_is_name : Binds K fd__law_is_name ["_law_word"] [] := FunD.bindsN F__law_is_name fun _ _ _ _ _ _ us hl => match us, hl with | [_], _ => rfl
  have b__law_are_new : Binds K fd__law_are_new ["_law_words"] [] := FunD.bindsN F__law_are_new fun _ _ _ _ _ _ us hl => match us, hl with | [_], _ => rfl
  have b__law_can_stand : Binds K fd__law_can_stand ["_law_lines", "_law_at"] [] := FunD.bindsN F__law_can_stand fun _ _ _ _ _ _ us hl => match us, hl with | [_, _], _ => rfl
  have b__law_due : Binds K fd__law_due ["_law_text"] [] := FunD.bindsN F__law_due fun _ _ _ _ _ _ us hl => match us, hl with | [_], _ => rfl
  have b__law_refused : Binds K fd__law_refused ["_law_text"] [] := FunD.bindsN F__law_refused fun _ _ _ _ _ _ us hl => match us, hl with | [_], _ => rfl
  have b__law_spoilt : Binds K fd__law_spoilt ["_law_pool_here", "_law_lines", "_law_folder"] [] := FunD.bindsN F__law_spoilt fun _ _ _ _ _ _ us hl => match us, hl with | [_, _, _], _ => rfl
  have q := hfa.symm.trans (glo_ok X G (c.fact 29 (f := .glo "law") rfl))
  cases q
  have b := FunD.bindsA (ps := ["_law_script"]) F_law fun _ _ _ _ _ _ us hl => match us, hl with | [_], _ => rfl
  refine ⟨fd_law, fun s v => b s [v] rfl, fun base XB GB => ?_⟩
  obtain ⟨eK, z0⟩ := ba e
  obtain ⟨eC, z1⟩ := ba z0
  obtain ⟨eN, z2⟩ := ba z1
  obtain ⟨eS, z3⟩ := ba z2
  obtain ⟨eT, z4⟩ := ba z3
  obtain ⟨eD, z5⟩ := ba z4
  obtain ⟨eW, z6⟩ := ba z5
  obtain ⟨xBadHouse, z7⟩ := ba z6
  obtain ⟨xBadFact, z8⟩ := ba z7
  obtain ⟨xBadText, z9⟩ := ba z8
  obtain ⟨eHe, z10⟩ := ba z9
  obtain ⟨aA, z11⟩ := ba z10
  obtain ⟨aR, z12⟩ := ba z11
  obtain ⟨aQ, z13⟩ := ba z12
  obtain ⟨fK, f1⟩ := ba z13
  obtain ⟨fC, f2⟩ := ba f1
  obtain ⟨fN, f3⟩ := ba f2
  obtain ⟨fT, f4⟩ := ba f3
  obtain ⟨fS, fD⟩ := ba f4
  have KC := kitCB_ok eK
  have KF := kitCB_ok fK
  have nbF : ∀ T, T ∈ ["NoneType", "list", "tuple", "int", "str"] → PySem.W.notFirst K (ga K "Facts") (.type T) = true ∧ PySem.W.kitOne K (.type T) (.ref (ga K "Facts")) = some false := fun T hT => by
    obtain ⟨k1, k2⟩ := ba (List.all_eq_true.mp fT T hT)
    exact ⟨k1, of_decide_eq_true k2⟩
  have nb : ∀ T, T ∈ ["NoneType", "list", "tuple", "int", "str"] → PySem.W.notFirst K (ga K "House") (.type T) = true ∧ PySem.W.kitOne K (.type T) (.ref (ga K "House")) = some false := fun T hT => by
    obtain ⟨k1, k2⟩ := ba (List.all_eq_true.mp eT T hT)
    exact ⟨k1, of_decide_eq_true k2⟩
  have EB : ∀ base, Er P w K mg base "BadHouse" "index" (ga K "BadHouse") := fun base => by
    have T := errB_ok (glo_ok X G (c.fact 0 (f := .glo "BadHouse") rfl)) xBadHouse
    have S : FnScope ["self", "index"] ["self", "index"] (defScope s_BadHouse_init) := ⟨rfl, rfl, rfl, by decide +kernel, rfl, by decide +kernel, by decide +kernel⟩
    refine ⟨_, fd_BadHouse_init, T, ok_init (st := s_BadHouse_init) (qual := "BadHouse.__init__") T F_BadHouse_init S ⟨_, _, _, _, rfl⟩ (by decide) (by decide), FunD.bindsN F_BadHouse_init fun _ _ _ _ _ _ us hl => match us, hl with | [_, _], _ => rfl, fun s u v _ => ?_⟩
    obtain ⟨oc, od, dV, kV, doc, pm, an, cdv, ct, osl, rfl, lk, hcd, hD, hK⟩ := F_BadHouse_init.ex
    rcases hD with ⟨_, rfl⟩ | ⟨z, _⟩
    · exact .of_eq rfl
    · exact absurd rfl z
  have EF : ∀ base, Er P w K mg base "BadFact" "index" (ga K "BadFact") := fun base => by
    have T := errB_ok (glo_ok X G (c.fact 1 (f := .glo "BadFact") rfl)) xBadFact
    have S : FnScope ["self", "index"] ["self", "index"] (defScope s_BadFact_init) := ⟨rfl, rfl, rfl, by decide +kernel, rfl, by decide +kernel, by decide +kernel⟩
    refine ⟨_, fd_BadFact_init, T, ok_init (st := s_BadFact_init) (qual := "BadFact.__init__") T F_BadFact_init S ⟨_, _, _, _, rfl⟩ (by decide) (by decide), FunD.bindsN F_BadFact_init fun _ _ _ _ _ _ us hl => match us, hl with | [_, _], _ => rfl, fun s u v _ => ?_⟩
    obtain ⟨oc, od, dV, kV, doc, pm, an, cdv, ct, osl, rfl, lk, hcd, hD, hK⟩ := F_BadFact_init.ex
    rcases hD with ⟨_, rfl⟩ | ⟨z, _⟩
    · exact .of_eq rfl
    · exact absurd rfl z
  have E_BadText : ∀ base, Er P w K mg base "BadText" "line" (ga K "BadText") := fun base => by
    have T := errB_ok (glo_ok X G (c.fact 2 (f := .glo "BadText") rfl)) xBadText
    have S : FnScope ["self", "line"] ["self", "line"] (defScope s_BadText_init) := ⟨rfl, rfl, rfl, by decide +kernel, rfl, by decide +kernel, by decide +kernel⟩
    refine ⟨_, fd_BadText_init, T, ok_init (st := s_BadText_init) (qual := "BadText.__init__") T F_BadText_init S ⟨_, _, _, _, rfl⟩ (by decide) (by decide), FunD.bindsN F_BadText_init fun _ _ _ _ _ _ us hl => match us, hl with | [_, _], _ => rfl, fun s u v _ => ?_⟩
    obtain ⟨oc, od, dV, kV, doc, pm, an, cdv, ct, osl, rfl, lk, hcd, hD, hK⟩ := F_BadText_init.ex
    rcases hD with ⟨_, rfl⟩ | ⟨z, _⟩
    · exact .of_eq rfl
    · exact absurd rfl z
  have T : HouC K (ga K "House") := ⟨cls_ok (c.fact 56 (f := .cls "House") rfl), noat_ok (c.fact 57 (f := .noat "House" "folders") rfl), noat_ok (c.fact 58 (f := .noat "House" "things") rfl), noat_ok (c.fact 59 (f := .noat "House" "nodes") rfl), KC.at_, KC.sp, KC.tk, KC.ob⟩
  have mt : ∀ m, Meth K (ga K "House") m (ma K (ga K "House") m) → OwnM K (ga K "House") m (ma K (ga K "House") m) := fun m z => ⟨z.at_, z.fn⟩
  obtain ⟨tL, gLL⟩ := str_ok X G (c.fact 45 (f := .str "LETTERS" letters) rfl)
  obtain ⟨t8, g88⟩ := int_ok X G (c.fact 44 (f := .int "LONGEST" 8) rfl)
  have IL : ∀ base, FnOk P w K mg base CX0 1 _ fd_is_list ["thing"] (spIsList K) := fun base => ok_isList F_is_list (free_ok X G (c.fact 34 (f := .free "isinstance") rfl)) (free_ok X G (c.fact 37 (f := .free "list") rfl)) (free_ok X G (c.fact 38 (f := .free "tuple") rfl))
  have WN : ∀ base, FnOk P w K mg base CX0 2 _ fd_wrong_name ["things"] (spWrongName K) := fun base => ok_wrongName F_wrong_name (ok_isName F_is_name (free_ok X G (c.fact 34 (f := .free "isinstance") rfl)) (free_ok X G (c.fact 39 (f := .free "str") rfl)) (free_ok X G (c.fact 33 (f := .free "len") rfl)) (free_ok X G (c.fact 36 (f := .free "all") rfl)) g88 gLL) (glo_ok X G (c.fact 4 (f := .glo "is_name") rfl)) F_is_name.kp b_is_name (free_ok X G (c.fact 40 (f := .free "enumerate") rfl))
  have WP : ∀ base, FnOk P w K mg base CX0 3 _ fd_wrong_part ["folders", "things"] (spWrongPart K) := fun base => ok_wrongPart F_wrong_part (IL base) (glo_ok X G (c.fact 3 (f := .glo "is_list") rfl)) F_is_list.kp b_is_list ((WN base).imp wn_imp) (glo_ok X G (c.fact 10 (f := .glo "wrong_name") rfl)) F_wrong_name.kp b_wrong_name (free_ok X G (c.fact 33 (f := .free "len") rfl))
  have HI : ∀ base, FnOk P w K mg base (L2.CX P w) 4 _ fd_House_init ["self", "folders", "things"] (spHInit K (ga K "House") (ga K "BadHouse")) := fun base => ok_hInit F_House_init T (WP base) (glo_ok X G (c.fact 11 (f := .glo "wrong_part") rfl)) F_wrong_part.kp b_wrong_part (EB base) (free_ok X G (c.fact 38 (f := .free "tuple") rfl))
  obtain ⟨d3, vd3, bI⟩ := FunD.binds1 (ps := ["self", "folders", "things"]) F_House_init 3 1 (by simp [DefD.dvs, d_House_init]) rfl fun T kV doc pm an cdv ct us its hu hi => by
    match us, hu, its, hi with
    | [_, _, _], _, [_], _ => exact ⟨_, rfl, rfl⟩
  obtain ⟨d2, vd2, bD⟩ := FunD.binds1 (ps := ["self", "folders", "things"]) F_House_init 2 0 (by simp [DefD.dvs, d_House_init]) rfl fun T kV doc pm an cdv ct us its hu hi => by
    match us, hu, its, hi with
    | [_, _], _, [_], _ => exact ⟨_, rfl, rfl⟩
  have nD : ∀ H, SqT K H (aDef K) [] := dflB_ok eD
  have e3' : d3 = [] := by
    cases vd3
    rfl
  subst e3'
  obtain ⟨u2, e2', ru2⟩ := vd2.one
  subst e2'
  have eu : u2 = .ref (aDef K) := ru2
  have HE : ∀ base, FnOk P w K mg base CX0 1 _ fd_House_eq ["self", "other"] (spHEq K (ga K "House")) := fun base => ok_hEq F_House_eq T (free_ok X G (c.fact 34 (f := .free "isinstance") rfl)) (glo_ok X G (c.fact 12 (f := .glo "House") rfl)) (of_decide_eq_true eC)
  let Z : HouseTxt P w K mg (ga K "House") (ga K "BadHouse") := {
    T := T, gH := (glo_ok X G (c.fact 12 (f := .glo "House") rfl)), kCC := of_decide_eq_true eC, ne := of_decide_eq_true eN, noStr := of_decide_eq_true eS, nb := nb,
    fI := _, fdI := fd_House_init, M := mkr_ok (c.fact 64 (f := .mkr "House") rfl), I := HI, bI := bI, uD := u2, bD := bD, aD := aDef K, eD := eu, tD := nD,
    fL := _, fdL := fd_House_len, mL := (mt _ (meth_ok (c.fact 60 (f := .meth "House" "__len__") rfl))), L := fun base => ok_hLen F_House_len T (free_ok X G (c.fact 33 (f := .free "len") rfl)), bL := b_House_len,
    fS := _, fdS := fd_House_contains, mS := (mt _ (meth_ok (c.fact 61 (f := .meth "House" "__contains__") rfl))), S := fun base => ok_hHas F_House_contains T (of_decide_eq_true eS) (mt _ (meth_ok (c.fact 63 (f := .meth "House" "__eq__") rfl))) (HE base) b_House_eq (nb "str" (by decide)).2, bS := b_House_contains,
    fW := _, fdW := fd_House_iter, mW := (mt _ (meth_ok (c.fact 62 (f := .meth "House" "__iter__") rfl))), W := fun base => ok_hIter F_House_iter T (free_ok X G (c.fact 41 (f := .free "iter") rfl)), bW := b_House_iter,
    fE := _, fdE := fd_House_eq, mE := (mt _ (meth_ok (c.fact 63 (f := .meth "House" "__eq__") rfl))), E := HE, bE := b_House_eq }
  have HL : ∀ base, Has P w K mg base 1 "is_list" ["thing"] (spIsList K) := fun base => ⟨_, fd_is_list, IL base, (glo_ok X G (c.fact 3 (f := .glo "is_list") rfl)), F_is_list.kp, b_is_list⟩
  have HF : ∀ base, Has P w K mg base 5 "is_fact" ["house", "thing"] (spIsFact K (ga K "House")) := fun base => ⟨_, fd_is_fact, ok_isFact F_is_fact Z (HL base) (free_ok X G (c.fact 33 (f := .free "len") rfl)) (glo_ok X G (c.fact 30 (f := .glo "WORDS") rfl)) (worB_ok eW), (glo_ok X G (c.fact 5 (f := .glo "is_fact") rfl)), F_is_fact.kp, b_is_fact⟩
  have HT : ∀ base, Has P w K mg base 1 "as_told" ["house", "fact"] (spAsTold K (ga K "House")) := fun base => ⟨_, fd_as_told, ok_asTold F_as_told Z, (glo_ok X G (c.fact 7 (f := .glo "as_told") rfl)), F_as_told.kp, b_as_told⟩
  have HWF : ∀ base, Has P w K mg base 6 "wrong_fact" ["house", "facts"] (spWrongFact K (ga K "House")) := fun base => ⟨_, fd_wrong_fact, ok_wrongFact F_wrong_fact (HL base) (HF base) (free_ok X G (c.fact 40 (f := .free "enumerate") rfl)), (glo_ok X G (c.fact 6 (f := .glo "wrong_fact") rfl)), F_wrong_fact.kp, b_wrong_fact⟩
  have HEO : ∀ base, Has P w K mg base 2 "each_once" ["house", "facts"] (spEachOnce K (ga K "House")) := fun base => ⟨_, fd_each_once, ok_eachOnce F_each_once (HT base) (free_ok X G (c.fact 38 (f := .free "tuple") rfl)), (glo_ok X G (c.fact 8 (f := .glo "each_once") rfl)), F_each_once.kp, b_each_once⟩
  have TF : FacC K (ga K "Facts") := ⟨cls_ok (c.fact 46 (f := .cls "Facts") rfl), noat_ok (c.fact 47 (f := .noat "Facts" "house") rfl), noat_ok (c.fact 48 (f := .noat "Facts" "rows") rfl), KF.at_, KF.sp, KF.tk, KF.ob⟩
  have mtF : ∀ m, Meth K (ga K "Facts") m (ma K (ga K "Facts") m) → OwnM K (ga K "Facts") m (ma K (ga K "Facts") m) := fun m z => ⟨z.at_, z.fn⟩
  have FI : ∀ base, FnOk P w K mg base (L2.CX P w) 7 _ fd_Facts_init ["self", "house", "facts"] (spFInit K (ga K "Facts") (ga K "House") (ga K "BadFact")) := fun base => ok_fInit F_Facts_init TF (HWF base) (HEO base) (EF base)
  obtain ⟨d3f, vd3f, bIf⟩ := FunD.binds1 (ps := ["self", "house", "facts"]) F_Facts_init 3 1 (by simp [DefD.dvs, d_Facts_init]) rfl fun T kV doc pm an cdv ct us its hu hi => by
    match us, hu, its, hi with
    | [_, _, _], _, [_], _ => exact ⟨_, rfl, rfl⟩
  obtain ⟨d2f, vd2f, bDf⟩ := FunD.binds1 (ps := ["self", "house", "facts"]) F_Facts_init 2 0 (by simp [DefD.dvs, d_Facts_init]) rfl fun T kV doc pm an cdv ct us its hu hi => by
    match us, hu, its, hi with
    | [_, _], _, [_], _ => exact ⟨_, rfl, rfl⟩
  have nDF : ∀ H, SqT K H (aDefF K) [] := dflBF_ok fD
  have e3f' : d3f = [] := by
    cases vd3f
    rfl
  subst e3f'
  obtain ⟨u2f, e2f', ru2f⟩ := vd2f.one
  subst e2f'
  have euf : u2f = .ref (aDefF K) := ru2f
  have FE : ∀ base, FnOk P w K mg base CX0 2 _ fd_Facts_eq ["self", "other"] (spFEq K (ga K "Facts") (ga K "House")) := fun base => ok_fEq F_Facts_eq TF Z (free_ok X G (c.fact 34 (f := .free "isinstance") rfl)) (glo_ok X G (c.fact 9 (f := .glo "Facts") rfl)) (of_decide_eq_true fC)
  let FF : FacTxt P w K mg (ga K "Facts") (ga K "House") (ga K "BadFact") := {
    T := TF, gF := (glo_ok X G (c.fact 9 (f := .glo "Facts") rfl)), kFF := of_decide_eq_true fC, ne := of_decide_eq_true fN, nb := nbF, kSeq := of_decide_eq_true fS,
    fI := _, fdI := fd_Facts_init, M := mkr_ok (c.fact 55 (f := .mkr "Facts") rfl), I := FI, bI := bIf, uD := u2f, bD := bDf, aD := aDefF K, eD := euf, tD := nDF,
    fT := _, fdT := fd_Facts_told, mT := meth_ok (c.fact 49 (f := .meth "Facts" "told") rfl), To := fun base => ok_told F_Facts_told TF (free_ok X G (c.fact 37 (f := .free "list") rfl)), bT := b_Facts_told,
    fL := _, fdL := fd_Facts_len, mL := (mtF _ (meth_ok (c.fact 51 (f := .meth "Facts" "__len__") rfl))), L := fun base => ok_fLen F_Facts_len TF (free_ok X G (c.fact 33 (f := .free "len") rfl)), bL := b_Facts_len,
    fS := _, fdS := fd_Facts_contains, mS := (mtF _ (meth_ok (c.fact 52 (f := .meth "Facts" "__contains__") rfl))), S := fun base => ok_fHas F_Facts_contains TF (HF base) (HT base), bS := b_Facts_contains,
    fW := _, fdW := fd_Facts_iter, mW := (mtF _ (meth_ok (c.fact 53 (f := .meth "Facts" "__iter__") rfl))), W := fun base => ok_fIter F_Facts_iter TF (free_ok X G (c.fact 41 (f := .free "iter") rfl)), bW := b_Facts_iter,
    fE := _, fdE := fd_Facts_eq, mE := (mtF _ (meth_ok (c.fact 54 (f := .meth "Facts" "__eq__") rfl))), E := FE, bE := b_Facts_eq }
  have TK : FnOk P w K mg base CX0 1 _ fd__law_take ["_law_pool_here", "_law_many"] spTake := ok_take F__law_take (free_ok X G (c.fact 32 (f := .free "int") rfl))
  have h__law_take : Has P w K mg base 1 "_law_take" ["_law_pool_here", "_law_many"] spTake := ⟨_, fd__law_take, TK, (glo_ok X G (c.fact 18 (f := .glo "_law_take") rfl)), F__law_take.kp, b__law_take⟩
  have h__law_cell : Has P w K mg base 1 "_law_cell" ["_law_script", "_law_k"] (spCell1 K) := ⟨_, fd__law_cell, ok_cell F__law_cell (free_ok X G (c.fact 33 (f := .free "len") rfl)), (glo_ok X G (c.fact 16 (f := .glo "_law_cell") rfl)), F__law_cell.kp, b__law_cell⟩
  have h__law_pool : Has P w K mg base 1 "_law_pool" ["_law_grain"] spPool := ⟨_, fd__law_pool, ok_pool F__law_pool (free_ok X G (c.fact 32 (f := .free "int") rfl)), (glo_ok X G (c.fact 17 (f := .glo "_law_pool") rfl)), F__law_pool.kp, b__law_pool⟩
  let MM : AddTxt P w K mg (ga K "Facts") (ga K "House") (ga K "BadFact") := {
    fA := _, fdA := fd_Facts_add, mA := ⟨mtF _ (meth_ok (c.fact 50 (f := .meth "Facts" "__add__") rfl)), of_decide_eq_true aR, aQ⟩, A := fun base => ok_fAdd F_Facts_add FF, bA := b_Facts_add,
    add := fun T hT => addB_ok (List.all_eq_true.mp aA T hT) }
  have HWP : ∀ base, Has P w K mg base 3 "wrong_part" ["folders", "things"] (spWrongPart K) := fun base => ⟨_, fd_wrong_part, WP base, (glo_ok X G (c.fact 11 (f := .glo "wrong_part") rfl)), F_wrong_part.kp, b_wrong_part⟩
  have NM : FnOk P w K mg base CX0 2 _ fd__law_names ["_law_pool_here", "_law_many"] (spNames K) := ok_names F__law_names TK (glo_ok X G (c.fact 18 (f := .glo "_law_take") rfl)) F__law_take.kp b__law_take (free_ok X G (c.fact 35 (f := .free "range") rfl))
  have h__law_house : Has P w K mg base 3 "_law_house" ["_law_pool_here", "_law_most", "_law_more"] spHouse := ⟨_, fd__law_house, ok_house F__law_house TK (glo_ok X G (c.fact 18 (f := .glo "_law_take") rfl)) F__law_take.kp b__law_take NM (glo_ok X G (c.fact 20 (f := .glo "_law_names") rfl)) F__law_names.kp b__law_names (free_ok X G (c.fact 42 (f := .free "max") rfl)), (glo_ok X G (c.fact 21 (f := .glo "_law_house") rfl)), F__law_house.kp, b__law_house⟩
  have h__law_fact : Has P w K mg base 2 "_law_fact" ["_law_pool_here", "_law_folders", "_law_things"] (spFact K) := ⟨_, fd__law_fact, ok_fact F__law_fact h__law_take (free_ok X G (c.fact 33 (f := .free "len") rfl)), (glo_ok X G (c.fact 22 (f := .glo "_law_fact") rfl)), F__law_fact.kp, b__law_fact⟩
  have h_house_of : HasX P w K mg base 6 "house_of" ["lines"] (spHouseG K (ga K "House") (ga K "BadText")) := ⟨_, fd_house_of, ok_houseOf F_house_of Z (E_BadText base) (HWP base) (glo_ok X G (c.fact 31 (f := .glo "HEADS") rfl)) (heaB_ok eHe) (free_ok X G (c.fact 40 (f := .free "enumerate") rfl)) (free_ok X G (c.fact 33 (f := .free "len") rfl)), (glo_ok X G (c.fact 13 (f := .glo "house_of") rfl)), F_house_of.kp, b_house_of⟩
  have h_fact_of : Has P w K mg base 1 "fact_of" ["line"] (spFactG K) := ⟨_, fd_fact_of, ok_factOf F_fact_of (free_ok X G (c.fact 33 (f := .free "len") rfl)), (glo_ok X G (c.fact 14 (f := .glo "fact_of") rfl)), F_fact_of.kp, b_fact_of⟩
  have h_read : HasX P w K mg base 10 "read" ["text"] (spReadG K (ga K "Facts") (ga K "House") (ga K "BadText")) := ⟨_, fd_read, ok_read F_read FF Z (E_BadText base) MM (HF base) (HT base) h_house_of h_fact_of (free_ok X G (c.fact 40 (f := .free "enumerate") rfl)) (free_ok X G (c.fact 33 (f := .free "len") rfl)), (glo_ok X G (c.fact 15 (f := .glo "read") rfl)), F_read.kp, b_read⟩
  have h__law_refused : Has P w K mg base 11 "_law_refused" ["_law_text"] spRefG := ⟨_, fd__law_refused, ok_refused F__law_refused FF h_read (errB_ok (glo_ok X G (c.fact 2 (f := .glo "BadText") rfl)) xBadText).gl (errB_ok (glo_ok X G (c.fact 2 (f := .glo "BadText") rfl)) xBadText).xf (errB_ok (glo_ok X G (c.fact 2 (f := .glo "BadText") rfl)) xBadText).no (exm_ok (c.fact 65 (f := .exm "BadText" "BadText" true) rfl)) (free_ok X G (c.fact 34 (f := .free "isinstance") rfl)), (glo_ok X G (c.fact 27 (f := .glo "_law_refused") rfl)), F__law_refused.kp, b__law_refused⟩
  have h__law_is_name : Has P w K mg base 1 "_law_is_name" ["_law_word"] spIsNameL := ⟨_, fd__law_is_name, ok_isNameL F__law_is_name (free_ok X G (c.fact 33 (f := .free "len") rfl)), (glo_ok X G (c.fact 23 (f := .glo "_law_is_name") rfl)), F__law_is_name.kp, b__law_is_name⟩
  have h__law_are_new : Has P w K mg base 2 "_law_are_new" ["_law_words"] (spAreNew K) := ⟨_, fd__law_are_new, ok_areNew F__law_are_new h__law_is_name (free_ok X G (c.fact 33 (f := .free "len") rfl)) (free_ok X G (c.fact 35 (f := .free "range") rfl)), (glo_ok X G (c.fact 24 (f := .glo "_law_are_new") rfl)), F__law_are_new.kp, b__law_are_new⟩
  have h__law_can_stand : Has P w K mg base 3 "_law_can_stand" ["_law_lines", "_law_at"] (spCanStand K) := ⟨_, fd__law_can_stand, ok_canStand F__law_can_stand h__law_are_new (free_ok X G (c.fact 33 (f := .free "len") rfl)), (glo_ok X G (c.fact 25 (f := .glo "_law_can_stand") rfl)), F__law_can_stand.kp, b__law_can_stand⟩
  have h__law_due : Has P w K mg base 4 "_law_due" ["_law_text"] spDueL := ⟨_, fd__law_due, ok_dueL F__law_due h__law_can_stand (free_ok X G (c.fact 33 (f := .free "len") rfl)) (free_ok X G (c.fact 35 (f := .free "range") rfl)), (glo_ok X G (c.fact 26 (f := .glo "_law_due") rfl)), F__law_due.kp, b__law_due⟩
  have h__law_mixed : Has P w K mg base 2 "_law_mixed" ["_law_pool_here", "_law_things"] spMixedS := ⟨_, fd__law_mixed, ok_mixed F__law_mixed h__law_take (free_ok X G (c.fact 33 (f := .free "len") rfl)) (free_ok X G (c.fact 37 (f := .free "list") rfl)) (free_ok X G (c.fact 35 (f := .free "range") rfl)), (glo_ok X G (c.fact 19 (f := .glo "_law_mixed") rfl)), F__law_mixed.kp, b__law_mixed⟩
  have h__law_spoilt : Has P w K mg base 3 "_law_spoilt" ["_law_pool_here", "_law_lines", "_law_folder"] spSpoilt := ⟨_, fd__law_spoilt, ok_spoilt F__law_spoilt h__law_take h__law_mixed (free_ok X G (c.fact 33 (f := .free "len") rfl)) (free_ok X G (c.fact 37 (f := .free "list") rfl)), (glo_ok X G (c.fact 28 (f := .glo "_law_spoilt") rfl)), F__law_spoilt.kp, b__law_spoilt⟩
  exact ok_law F_law h__law_cell h__law_pool h__law_take h__law_house h__law_fact h__law_refused h__law_due h__law_spoilt (free_ok X G (c.fact 35 (f := .free "range") rfl)) (free_ok X G (c.fact 33 (f := .free "len") rfl)) (free_ok X G (c.fact 37 (f := .free "list") rfl)) (free_ok X G (c.fact 43 (f := .free "zip") rfl)) (free_ok X G (c.fact 32 (f := .free "int") rfl))
end
end My

open PySem PySem.W PySem.Calls PyProof.Rows
theorem PySem.Challenge.cw_whatopened_k21_texts_refused_holds : PySem.Challenge.rw_whatopened_k21_texts_refused.Holds := by
  w_on; o_law
  refine HandSHeadRun.head_any (r := OpenLaw.row PySem.Challenge.rw_whatopened_k21_texts_refused) (q := view (OpenLaw.row PySem.Challenge.rw_whatopened_k21_texts_refused).prog [41]) (H := My.hk) (ob := My.ob) (M := 8000) (loose := My.loose) (d := HandSHeadRun.topDef (OpenLaw.row PySem.Challenge.rw_whatopened_k21_texts_refused).prog 41) (kwd := []) My.ob_eq
    (by kernel_rfl) (fun s => by kernel_rfl) My.run (by kernel_rfl) (by kernel_rfl) (by kernel_rfl) (by rfl) (by first | assumption | decide +kernel) (by decide +kernel) ⟨rfl, rfl, rfl, rfl, rfl, by decide +kernel⟩ ?hw ?hc
  case hw => w_witness2
  case hc =>
    refine L2.walk_ofE (l := PySem.Challenge.rw_whatopened_k21_texts_refused) (n := 63) (k := 13) (x := "_law_script") (CX := L2.CX0) rfl (by decide) (by kernel_rfl) ⟨rfl, by decide, by decide⟩ ?F (fun _ _ _ _ z => z)
    intro w mg fa h Y G hmg0
    obtain ⟨K, KX, c, e⟩ := Y
    have hmg : mg ("law" : PySem.Str) = some (.ref fa) := by
      have e : (HandSHeadRun.topDef (OpenLaw.row PySem.Challenge.rw_whatopened_k21_texts_refused).prog 41).name = ("law" : PySem.Str) := by kernel_rfl
      rw [← e]
      exact hmg0
    obtain ⟨fd, hb, hF⟩ := My.facts (P := (PySem.Challenge.rw_whatopened_k21_texts_refused).prog) (w := w) KX G hmg c e
    exact ⟨K, fd, My.spLaw K, KX, hb, fun H a ns hl _ hS => ⟨a, ns, rfl, hS, fun _ => rfl⟩, hF⟩
#print axioms PySem.Challenge.cw_whatopened_k21_texts_refused_holds

