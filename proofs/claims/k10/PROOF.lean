import PyProof.Rows.All
import Wide.All
import OpenK.AllK
import Wide.FinOn
import HandS.ForMost
import HandS.Style
import HandS.Codes
import HandS.Comp
import HandS.Iter
import HandS.Walk
import HandS.Text
import HandS.Zip
import HandS.IsInst
import HandS.TupAny
import KE.DataCmp
import PyProof.EqKinds
import HandS.Strs
import HandS.More
import HandS.CallLocal
import HandS.Wide
import HandS.WideBits
import KE.KMathGC
import HandS.Gcd
import HandS.Defaults
import HandS.Conv
import KE.DatumOrd
import HandS.TupLen
import PyProof.Rows.Digits
import HandS.TryMany
import HandS.ExcOwn
import HandS.WordsExc
import PyProof.ReprBulk
import PyProof.Rows.IntBool
import PyProof.Rows.EqBoolInt
import KE.KIntText
import HandS.FStr
import HandS.RaiseMore
import HandS.Small
import HandS.Deep
import HandS.Dict
import KE.KDictZip
import KE.GoesEnum
import PyProof.ListNew
import HandS.ListItems
import PySem.Challenge.RW_undrawn_k10_paths_through_nested_spaces
set_option Elab.async false
set_option linter.all false
set_option maxRecDepth 100000
set_option maxHeartbeats 4000000
namespace KA
open PySem PySem.Spec PyProof.Rows L2
/-! ### the text by places -/
def top (i : Nat) : Stmt := PySem.Challenge.pw_undrawn_k10_paths_through_nested_spaces.main.body.getD i (.Pass ⟨0, 0, 0, 0⟩)
/-! ### any value that is made of None, bools, ints, texts, tuples, lists, empty dicts -/
mutual
inductive Dat (H : Hp) : V → PyData → Prop
  | non : Dat H .non .none
  | bl (b : Bool) : Dat H (.bl b) (.bool b)
  | int (i : Int) : Dat H (.int i) (.int i)
  | str (x : Str) : x.length ≤ 1000 → Dat H (.str x) (.str x)
  | lst {a : Addr} {xs : List V} {ds : List PyData} : H a = some (.lst xs) → DatAll H xs ds → Dat H (.ref a) (.list ds)
  | tup {a : Addr} {xs : List V} {ds : List PyData} : H a = some (.tup xs) → DatAll H xs ds → Dat H (.ref a) (.tuple ds)
  | d0 {a : Addr} : H a = some (.dK []) → Dat H (.ref a) (.dict [])
inductive DatAll (H : Hp) : List V → List PyData → Prop
  | nil : DatAll H [] []
  | cons {v : V} {vs : List V} {d : PyData} {ds : List PyData} : Dat H v d → DatAll H vs ds → DatAll H (v :: vs) (d :: ds)
end
mutual
theorem Dat.same {H H' : Hp} (S : Same H H') : ∀ {v : V} {d : PyData}, Dat H v d → Dat H' v d
  | _, _, .non => .non
  | _, _, .bl b => .bl b
  | _, _, .int i => .int i
  | _, _, .str x h => .str x h
  | _, _, .lst h t => .lst (S _ _ h) (DatAll.same S t)
  | _, _, .tup h t => .tup (S _ _ h) (DatAll.same S t)
  | _, _, .d0 h => .d0 (S _ _ h)
theorem DatAll.same {H H' : Hp} (S : Same H H') : ∀ {vs : List V} {ds : List PyData}, DatAll H vs ds → DatAll H' vs ds
  | _, _, .nil => .nil
  | _, _, .cons h t => .cons (Dat.same S h) (DatAll.same S t)
end
theorem DatAll.len {H : Hp} : ∀ {vs : List V} {ds : List PyData}, DatAll H vs ds → vs.length = ds.length
  | _, _, .nil => rfl
  | _, _, .cons _ t => congrArg (· + 1) (DatAll.len t)
theorem DatAll.get {H : Hp} : ∀ {xs : List V} {ds : List PyData} {j : Nat} {x : V}, DatAll H xs ds → xs[j]? = some x → ∃ d, ds[j]? = some d ∧ Dat H x d
  | _, _, _, _, .nil, e => by simp at e
  | _, _, 0, _, .cons t _, e => by
    simp at e
    subst e
    exact ⟨_, rfl, t⟩
  | _, _, j + 1, x, .cons _ ts, e => by
    obtain ⟨d, h1, h2⟩ := DatAll.get (j := j) (x := x) ts (by simpa using e)
    exact ⟨d, by simpa using h1, h2⟩
theorem DatAll.at {H : Hp} : ∀ {xs : List V} {ds : List PyData} {j : Nat} {d : PyData}, DatAll H xs ds → ds[j]? = some d → ∃ x, xs[j]? = some x ∧ Dat H x d
  | _, _, _, _, .nil, e => by simp at e
  | _, _, 0, _, .cons t _, e => by
    simp at e
    subst e
    exact ⟨_, rfl, t⟩
  | _, _, j + 1, x, .cons _ ts, e => by
    obtain ⟨d, h1, h2⟩ := DatAll.at (j := j) (d := x) ts (by simpa using e)
    exact ⟨d, by simpa using h1, h2⟩
/-- the type's name -/
def tyD : PyData → String
  | .none => "NoneType"
  | .bool _ => "bool"
  | .int _ => "int"
  | .str _ => "str"
  | .list _ => "list"
  | .tuple _ => "tuple"
  | .dict _ => "dict"
theorem Dat.ty {K : PySem.W.Frag} {H : Hp} {v : V} {d : PyData} (h : Dat H v d) : TyX K H v (.type (tyD d)) := by
  cases h with
  | non => exact .base .non
  | bl b => exact .base (.bl b)
  | int i => exact .base (.int i)
  | str x _ => exact .base (.str x)
  | lst h _ => exact .base (.lst h)
  | tup h _ => exact .base (.tup h)
  | d0 h => exact .base (.dK h)
/-! ### what the small predicates say of such values -/
def isInt : PyData → Bool
  | .int _ => true
  | _ => false
def isBool : PyData → Bool
  | .bool _ => true
  | _ => false
def isStr : PyData → Bool
  | .str _ => true
  | _ => false
def isTup : PyData → Bool
  | .tuple _ => true
  | _ => false
/-- an int from lo to hi -/
def btw (lo hi : Int) : PyData → Bool
  | .int i => decide (lo ≤ i) && decide (i ≤ hi)
  | _ => false
theorem kit_int (K : PySem.W.Frag) (d : PyData) : PySem.W.kitOne K (.type (tyD d)) (.type "int") = some (isInt d || isBool d) := by
  cases d with
  | none => exact kit_ty (a := "NoneType") (b := "int") (r := false) (by decide +kernel)
  | bool b => exact kit_ty (a := "bool") (b := "int") (r := true) (by decide +kernel)
  | int i => exact kit_ty (a := "int") (b := "int") (r := true) (by decide +kernel)
  | str x => exact kit_ty (a := "str") (b := "int") (r := false) (by decide +kernel)
  | list l => exact kit_ty (a := "list") (b := "int") (r := false) (by decide +kernel)
  | tuple l => exact kit_ty (a := "tuple") (b := "int") (r := false) (by decide +kernel)
  | dict l => exact kit_ty (a := "dict") (b := "int") (r := false) (by decide +kernel)
theorem kit_bool (K : PySem.W.Frag) (d : PyData) : PySem.W.kitOne K (.type (tyD d)) (.type "bool") = some (isBool d) := by
  cases d with
  | none => exact kit_ty (a := "NoneType") (b := "bool") (r := false) (by decide +kernel)
  | bool b => exact kit_ty (a := "bool") (b := "bool") (r := true) (by decide +kernel)
  | int i => exact kit_ty (a := "int") (b := "bool") (r := false) (by decide +kernel)
  | str x => exact kit_ty (a := "str") (b := "bool") (r := false) (by decide +kernel)
  | list l => exact kit_ty (a := "list") (b := "bool") (r := false) (by decide +kernel)
  | tuple l => exact kit_ty (a := "tuple") (b := "bool") (r := false) (by decide +kernel)
  | dict l => exact kit_ty (a := "dict") (b := "bool") (r := false) (by decide +kernel)
theorem kit_str (K : PySem.W.Frag) (d : PyData) : PySem.W.kitOne K (.type (tyD d)) (.type "str") = some (isStr d) := by
  cases d with
  | none => exact kit_ty (a := "NoneType") (b := "str") (r := false) (by decide +kernel)
  | bool b => exact kit_ty (a := "bool") (b := "str") (r := false) (by decide +kernel)
  | int i => exact kit_ty (a := "int") (b := "str") (r := false) (by decide +kernel)
  | str x => exact kit_ty (a := "str") (b := "str") (r := true) (by decide +kernel)
  | list l => exact kit_ty (a := "list") (b := "str") (r := false) (by decide +kernel)
  | tuple l => exact kit_ty (a := "tuple") (b := "str") (r := false) (by decide +kernel)
  | dict l => exact kit_ty (a := "dict") (b := "str") (r := false) (by decide +kernel)
theorem kit_tuple (K : PySem.W.Frag) (d : PyData) : PySem.W.kitOne K (.type (tyD d)) (.type "tuple") = some (isTup d) := by
  cases d with
  | none => exact kit_ty (a := "NoneType") (b := "tuple") (r := false) (by decide +kernel)
  | bool b => exact kit_ty (a := "bool") (b := "tuple") (r := false) (by decide +kernel)
  | int i => exact kit_ty (a := "int") (b := "tuple") (r := false) (by decide +kernel)
  | str x => exact kit_ty (a := "str") (b := "tuple") (r := false) (by decide +kernel)
  | list l => exact kit_ty (a := "list") (b := "tuple") (r := false) (by decide +kernel)
  | tuple l => exact kit_ty (a := "tuple") (b := "tuple") (r := true) (by decide +kernel)
  | dict l => exact kit_ty (a := "dict") (b := "tuple") (r := false) (by decide +kernel)
structure Nm (mg : Str → Option Value) : Prop where
  isinstance : mg "isinstance" = none
  int : mg "int" = none
  bool : mg "bool" = none
  str : mg "str" = none
  tuple : mg "tuple" = none
  len : mg "len" = none
  list : mg "list" = none
  range : mg "range" = none
  repr : mg "repr" = none
  all : mg "all" = none
  any : mg "any" = none
  zip : mg "zip" = none
  sum : mg "sum" = none
  enumerate : mg "enumerate" = none
  dict : mg "dict" = none
structure DefOk (K : PySem.W.Frag) (mg : Str → Option Value) (x : Str) (st : Stmt) (ps : List Str) (f : Addr) (fd : FuncData) : Prop where
  F : Fun K x x st f fd
  b : L2.Binds K fd ps []
  g : mg x = some (.ref f)
theorem same_new {H : Hp} {p : Addr} {o : HO} (h : H p = none) : Same H (upd H p o) := fun b u e => by rw [upd_ne (ne_of_none e h)]; exact e
theorem if_t {c : Bool} {A B : Prop} (hc : c = true) (h : A) : if c = true then A else B := by
  rw [if_pos hc]
  exact h
theorem if_f {c : Bool} {A B : Prop} (hc : c = false) (h : B) : if c = true then A else B := by
  rw [hc, if_neg Bool.false_ne_true]
  exact h
theorem grow {H Hx : Hp} {D : Addr} {xs : List V} {y : V} (nD : H D = none) (S : Same H Hx) : Same H (upd Hx D (.lst (xs ++ [y]))) := fun b o e => by
  have bD : b ≠ D := fun z => by
    rw [z, nD] at e
    cases e
  rw [upd_ne bD]
  exact S _ _ e
theorem datAll_append {H : Hp} : ∀ {xs ys : List V} {ds es : List PyData}, DatAll H xs ds → DatAll H ys es → DatAll H (xs ++ ys) (ds ++ es)
  | _, _, _, _, .nil, t => t
  | _, _, _, _, .cons h t, u => .cons h (datAll_append t u)
theorem nat_of {i : Int} (h : 0 ≤ i) : ∃ j : Nat, i = j := ⟨i.toNat, by omega⟩
end KA
set_option maxRecDepth 100000
set_option maxHeartbeats 4000000
namespace KA
open PySem PySem.Spec PyProof.Rows L2
abbrev sDeck : Stmt := top 34
abbrev sDraw : Stmt := top 35
abbrev sPick : Stmt := top 36
/-! ### the deck of choices -/
/-- a deck at p: its cells at q, the mixed number m, the count c -/
structure DeckAt (H : Hp) (p q : Addr) (ns : List Int) (m c : Int) : Prop where
  ob : H p = some (.lst [.ref q, .int m, .int c])
  ce : H q = some (.lst (ns.map V.int))
  m0 : 0 ≤ m
  m1 : m < 2147483587
  c0 : 0 ≤ c
  c1 : c ≤ 1000000000
  ln : ns.length ≤ 63
theorem DeckAt.ne {H : Hp} {p q : Addr} {ns : List Int} {m c : Int} (D : DeckAt H p q ns m c) : p ≠ q := fun e => by
  have z := D.ce
  rw [← e, D.ob] at z
  have z' := Option.some.inj z
  injection z' with z''
  cases ns with
  | nil => cases z''
  | cons a l => injection z'' with y _; cases y
theorem DeckAt.same {H H' : Hp} {p q : Addr} {ns : List Int} {m c : Int} (D : DeckAt H p q ns m c) (S : Same H H') : DeckAt H' p q ns m c := ⟨S _ _ D.ob, S _ _ D.ce, D.m0, D.m1, D.c0, D.c1, D.ln⟩
/-- what was tracked, but at p and q -/
def Off (p q : Addr) (H H' : Hp) : Prop := ∀ b o, H b = some o → b ≠ p → b ≠ q → H' b = some o
theorem Off.of_same {p q : Addr} {H H' : Hp} (S : Same H H') : Off p q H H' := fun b o e _ _ => S b o e
theorem Off.trans {p q : Addr} {H H1 H2 : Hp} (a : Off p q H H1) (b : Off p q H1 H2) : Off p q H H2 := fun c o e h1 h2 => b c o (a c o e h1 h2) h1 h2
theorem Off.refl {p q : Addr} {H : Hp} : Off p q H H := fun _ _ e _ _ => e
theorem dp_ints {K : PySem.W.Frag} {H : Hp} : ∀ ns : List Int, DpAll K H (ns.map V.int) (ns.map PyData.int)
  | [] => .nil
  | a :: l => .cons (.int a) (dp_ints l)
theorem lay_ints : ∀ ns : List Int, PyData.canLayAll0 (ns.map PyData.int) = true
  | [] => by simp [PyData.canLayAll0]
  | a :: l => by simp [PyData.canLayAll0, PyData.canLay0, lay_ints l]
theorem depth_ints : ∀ ns : List Int, PyData.depthAll (ns.map PyData.int) = 0
  | [] => by simp [PyData.depthAll]
  | a :: l => by simp [PyData.depthAll, PyData.depth, depth_ints l]
theorem shaped_ints (ns : List Int) : SeqAt.shaped (.list (ns.map PyData.int)) = true := by
  have h2 : PyData.depth (.list (ns.map PyData.int)) ≤ 64 := by
    rw [PyData.depth, depth_ints]
    decide
  unfold SeqAt.shaped
  rw [Bool.and_eq_true, PyData.canLay0]
  exact ⟨lay_ints ns, decide_eq_true h2⟩
def spDeck (K : PySem.W.Frag) : Sp := fun vs H Q _ => ∃ (a : Addr) (ns : List Int), vs = [.ref a] ∧ SqL K H a (ns.map V.int) ∧ ns.length ≤ 63 ∧
  ∀ (p q : Addr) (ms : List Int) (m : Int) (H' : Hp), Same H H' → H p = none → H q = none → DeckAt H' p q ms m 0 → Q (.ref p) H'
def spDraw : Sp := fun vs H Q _ => ∃ (p q : Addr) (ns : List Int) (m c n : Int), vs = [.ref p, .int n] ∧ 0 < n ∧ n ≤ 1000000 ∧ DeckAt H p q ns m c ∧ c + 1 ≤ 1000000000 ∧
  ∀ (i : Int) (ns' : List Int) (H' : Hp), 0 ≤ i → i < n → Off p q H H' → DeckAt H' p q ns' m (c + 1) → Q (.int i) H'
section
variable {P : Program} {w : World} {K : PySem.W.Frag} {mg : Str → Option Value} {base : Heap}
theorem scDeck : FnScope ["_law_script", "_law_cells", "_law_mix", "_law_cell"] ["_law_script"] (defScope sDeck) := ⟨rfl, rfl, rfl, by decide +kernel, rfl, by decide +kernel, by decide +kernel⟩
theorem ok_deck {f : Addr} {fd : FuncData} (F : Fun K "_law_deck" "_law_deck" sDeck f fd) (T : Nm mg) (Tl : mg "list" = none) : FnOk P w K mg base CX0 1 f fd ["_law_script"] (spDeck K) := by
  refine F.ok scDeck (fun vs H Q E h => ?_) (fun cdv A outer s H vs Q E hr h => ?_)
  · obtain ⟨a, ns, rfl, _⟩ := h
    rfl
  · obtain ⟨a, ns, rfl, hS, hl, k⟩ := h
    refine ⟨_, pss_cons (ps_par (i := 1) (j := 2) rfl scDeck.nd rfl rfl (by decide) rfl rfl (pa_cons (pe_callTy call_list_of (by rfl) Tl (by decide +kernel) (pa_cons (pe_slice sl_list (pv 0) po_none (po_some pe_int)) pa_nil)) (pa_cons pe_int pa_nil)) (by rfl))
      (pss_cons (ps_for PassesOwn.never rfl (pi_list (pv 1)) (pg_name (i := 3) scDeck.nd rfl (Or.inl rfl))
        (pss_one (ps_set (i := 2) scDeck.nd rfl (Or.inl rfl) (pe_op op_mod (pe_op op_add (pe_op op_add (pe_op op_mul (pv 2) pe_int) (pe_op op_mod (pv 3) pe_int)) pe_int) pe_int))))
      (pss_one (ps_ret (pe_lst (pa_cons (pe_revL (pv 1)) (pa_cons (pv 2) (pa_cons pe_int pa_nil))))))), ?_⟩
    -- script[:63]; list(..)
    refine ⟨_, rfl, 63, rfl, a, _, rfl, hS, fun p1 np1 => ?_⟩
    have hcut : (cutV (ns.map V.int) none (some 63)).length ≤ 63 := by
      have z := cutV_length (ns.map V.int) none (some 63)
      rw [List.length_map] at z
      omega
    obtain ⟨cs, hcs, hcl⟩ : ∃ cs : List Int, cutV (ns.map V.int) none (some 63) = cs.map V.int ∧ cs.length ≤ 63 := by
      refine ⟨(ns.drop (HT.sIx ns.length 0 none)).take (HT.sIx ns.length ns.length (some 63) - HT.sIx ns.length 0 none), ?_, ?_⟩
      · unfold cutV
        rw [List.length_map, List.map_take, List.map_drop]
      · rw [List.length_take, List.length_drop]
        omega
    rw [hcs]
    refine ⟨p1, _, rfl, .inl (.inl (.inl upd_same)), fun q1 nq1 => ⟨_, _, rfl, ?_⟩⟩
    have s1 : Same H (upd (upd H p1 (.lst (cs.map V.int))) q1 (.lst (cs.map V.int))) := (same_new np1).trans (same_new nq1)
    -- the loop
    refine ⟨_, rfl, q1, rfl, ⟨_, .inl (.inl upd_same)⟩, for_list (K := K) (a := q1) (xs := cs.map V.int) (fun i σ H' => ∃ (m : Int) (v : Option V), σ = [some (.ref a), some (.ref q1), some (.int m), v] ∧ H' = upd (upd H p1 (.lst (cs.map V.int))) q1 (.lst (cs.map V.int)) ∧ 0 ≤ m ∧ m < 2147483587)
      ⟨50023, none, rfl, rfl, by decide, by decide⟩ (fun i σ H' _ ⟨_, _, _, e, _⟩ => by rw [e]; exact .inl (.inl upd_same)) ?_ ?_⟩
    · rintro i y σ H' hi ⟨m, v, rfl, rfl, h0, h1⟩
      obtain ⟨z, rfl⟩ : ∃ z, y = V.int z := by
        rw [List.getElem?_map] at hi
        cases e : cs[i]? with
        | none =>
          rw [e] at hi
          cases hi
        | some z =>
          rw [e] at hi
          exact ⟨z, (Option.some.inj hi).symm⟩
      refine ⟨_, rfl, _, _, rfl, rfl, .inl ⟨by omega, by omega⟩, ?_⟩
      refine ⟨_, rfl, _, _, rfl, rfl, (by show (0 : Int) < _; decide), _, _, rfl, rfl, _, _, rfl, rfl, _, _, rfl, rfl, (by show (0 : Int) < _; decide), ?_⟩
      exact ⟨_, _, rfl, rfl, Int.emod_nonneg _ (by decide), Int.emod_lt_of_pos _ (by decide)⟩
    · rintro σ H' ⟨m, v, rfl, rfl, h0, h1⟩
      refine ⟨_, rfl, q1, _, rfl, .inl (.inl upd_same), fun r1 nr1 => ⟨_, rfl, (by show 3 ≤ sizeLine; decide), fun d nd => ?_⟩⟩
      rw [← List.map_reverse] at nd ⊢
      refine k d r1 cs.reverse m _ ((s1.trans (same_new nr1)).trans (same_new nd)) ?_ ?_ ⟨upd_same, ?_, h0, h1, by decide, by decide, by rw [List.length_reverse]; exact hcl⟩
      · exact ((s1.trans (same_new nr1))).free nd
      · exact s1.free nr1
      · rw [upd_ne (ne_of_none upd_same nd), upd_same]
theorem scDraw : FnScope ["_law_deck_here", "_law_bound", "_law_cell", "_law_mixed"] ["_law_deck_here", "_law_bound"] (defScope sDraw) := ⟨rfl, rfl, rfl, by decide +kernel, rfl, by decide +kernel, by decide +kernel⟩
theorem ok_draw {f : Addr} {fd : FuncData} (F : Fun K "_law_draw" "_law_draw" sDraw f fd) : FnOk P w K mg base CX0 1 f fd ["_law_deck_here", "_law_bound"] spDraw := by
  refine F.ok scDraw (fun vs H Q E h => ?_) (fun cdv A outer s H vs Q E hr h => ?_)
  · obtain ⟨p, q, ns, m, c, n, rfl, _⟩ := h
    rfl
  · obtain ⟨p, q, ns, m, c, n, rfl, hn0, hn1, D, hc, k⟩ := h
    have hu := hr.units
    have hpq := D.ne
    refine ⟨_, pss_cons (ps_asg (pe_op op_add (pe_ix ix_list (pv 0) pe_int (fun _ _ => rfl)) pe_int) (pg_sub (pv 0) pe_int set_list (fun _ => rfl)))
      (pss_cons (ps_set (i := 2) scDraw.nd rfl (Or.inl rfl) (pe_ix ix_list (pv 0) pe_int (fun _ _ => rfl)))
      (C8.pss_cut (ps_if (pt_cmpR (op_neD hu) (pe_ix ix_list (pv 0) pe_int (fun _ _ => rfl)) (pe_lst pa_nil) (nomark _))
          (pss_cons (ps_set (i := 2) scDraw.nd rfl (Or.inl rfl) (pe_bm0 PySem.F.plainAttrs_list PySem.F.slot_list_pop PySem.F.type_list_pop mt_pop (pe_ix ix_list (pv 0) pe_int (fun _ _ => rfl))))
          (pss_cons (ps_if (pt_cmpR op_ge (pv 2) (pe_op op_pow pe_int pe_int) (nomark _))
              (pss_cons (ps_expr (pe_bm PySem.F.plainAttrs_list PySem.F.slot_list_append PySem.F.type_list_append mt_append (pe_ix ix_list (pv 0) pe_int (fun _ _ => rfl)) (pa_cons (pe_op op_fdivN (pv 2) (pv 1)) pa_nil)))
              (pss_one (ps_ret (pe_op op_mod (pv 2) (pv 1))))) pss_nil)
          (pss_one (ps_set (i := 2) scDraw.nd rfl (Or.inl rfl) (pe_op op_add (pv 2) (pe_ix ix_list (pv 0) pe_int (fun _ _ => rfl))))))) pss_nil)
      (pss_cons (ps_set (i := 3) scDraw.nd rfl (Or.inl rfl) (pe_op op_mod (pe_op op_mul (pe_op op_add (pe_op op_add (pe_op op_mod (pv 2) pe_int) (pe_op op_mul (pe_op op_mul pe_int (pe_ix ix_list (pv 0) pe_int (fun _ _ => rfl))) (pe_ix ix_list (pv 0) pe_int (fun _ _ => rfl)))) pe_int) pe_int) pe_int))
      (pss_cons (ps_set (i := 3) scDraw.nd rfl (Or.inl rfl) (pe_op op_mod (pe_op op_add (pe_op op_add (pe_op op_mul (pv 3) (pv 3)) (pe_op op_mul pe_int (pe_ix ix_list (pv 0) pe_int (fun _ _ => rfl)))) pe_int) pe_int))
      (pss_one (ps_ret (pe_op op_mod (pe_op op_fdiv (pe_op op_mod (pe_op op_mul (pv 3) pe_int) pe_int) pe_int) (pv 1)))))))), ?_⟩
    have c2 : ∀ {x y z : V}, atI [x, y, z] 2 = some z := fun {x y z} => atI_nat (xs := [x, y, z]) (j := 2) rfl
    have c1 : ∀ {x y z : V}, atI [x, y, z] 1 = some y := fun {x y z} => atI_nat (xs := [x, y, z]) (j := 1) rfl
    have c0 : ∀ {x y z : V}, atI [x, y, z] 0 = some x := fun {x y z} => atI_nat (xs := [x, y, z]) (j := 0) rfl
    -- deck[2] = deck[2] + 1
    refine ⟨_, rfl, p, _, _, _, rfl, rfl, SqL.of D.ob, c2, _, _, rfl, rfl, _, rfl, p, _, _, 2, rfl, rfl, D.ob, rfl, ?_⟩
    have eset : ([V.ref q, V.int m, V.int c].set 2 (V.int (c + 1))) = [V.ref q, V.int m, V.int (c + 1)] := rfl
    rw [eset]
    have D1 : DeckAt (upd H p (.lst [.ref q, .int m, .int (c + 1)])) p q ns m (c + 1) :=
      ⟨upd_same, by rw [upd_ne hpq.symm]; exact D.ce, D.m0, D.m1, by have := D.c0; omega, hc, D.ln⟩
    have off1 : Off p q H (upd H p (.lst [.ref q, .int m, .int (c + 1)])) := fun b o e h1 _ => by rw [upd_ne h1]; exact e
    -- cell = deck[1]
    refine ⟨_, rfl, p, _, _, _, rfl, rfl, SqL.of D1.ob, c1, ?_⟩
    -- if deck[0] != []: .. ; what follows holds for any cell
    refine ⟨fun σ H' => ∃ (z : Int) (ns' : List Int), σ = [some (.ref p), some (.int n), some (.int z), none] ∧ Off p q H H' ∧ DeckAt H' p q ns' m (c + 1), ?_, ?_⟩
    · refine ⟨_, rfl, p, _, _, _, rfl, rfl, SqL.of D1.ob, c0, (by show 0 ≤ sizeLine; decide), fun e ne => ?_⟩
      have D2 : DeckAt (upd (upd H p (.lst [.ref q, .int m, .int (c + 1)])) e (.lst [])) p q ns m (c + 1) := D1.same (same_new ne)
      have off2 : Off p q H (upd (upd H p (.lst [.ref q, .int m, .int (c + 1)])) e (.lst [])) := off1.trans (.of_same (same_new ne))
      refine ⟨.list (ns.map .int), .list [], .lst (SqL.of D2.ce) (dp_ints ns), .lst (SqL.of upd_same) .nil, shaped_ints ns, shaped_ints [], _, rfl, ?_⟩
      generalize hH2 : upd (upd H p (.lst [.ref q, .int m, .int (c + 1)])) e (.lst []) = H2 at D2 off2 ⊢
      cases hns : ns with
      | nil =>
        have e0 : PyData.eqv (.list (([] : List Int).map PyData.int)) (.list []) = true := by simp [PyData.eqv, PyData.eqvAll]
        rw [e0]
        refine iteF ?_
        exact ⟨m, [], rfl, off2, by rw [hns] at D2; exact D2⟩
      | cons a l =>
        have e0 : PyData.eqv (.list ((a :: l).map PyData.int)) (.list []) = false := by simp [PyData.eqv, PyData.eqvAll]
        rw [e0]
        refine iteT ?_
        rw [hns] at D2
        -- cell = deck[0].pop()
        obtain ⟨l', z, hz⟩ : ∃ (l' : List Int) (z : Int), a :: l = l' ++ [z] := ⟨(a :: l).dropLast, (a :: l).getLast (by simp), (List.dropLast_concat_getLast (by simp)).symm⟩
        rw [hz] at D2
        have hln : l'.length + 1 ≤ 63 := by
          have z1 := D2.ln
          rw [List.length_append] at z1
          exact z1
        have elast : ((l' ++ [z]).map V.int)[((l' ++ [z]).map V.int).length - 1]? = some (.int z) := by simp
        have edrop : ((l' ++ [z]).map V.int).dropLast = l'.map V.int := by simp
        refine ⟨_, rfl, p, _, _, _, rfl, rfl, SqL.of D2.ob, c0, .inl ⟨rfl, _, SqL.of D2.ce⟩, q, _, _, rfl, rfl, D2.ce, elast, ?_⟩
        rw [edrop]
        have D3 : DeckAt (upd H2 q (.lst (l'.map V.int))) p q l' m (c + 1) := ⟨by rw [upd_ne hpq]; exact D2.ob, upd_same, D2.m0, D2.m1, D2.c0, D2.c1, by omega⟩
        have off3 : Off p q H (upd H2 q (.lst (l'.map V.int))) := off2.trans fun b o e _ h2 => by rw [upd_ne h2]; exact e
        generalize upd H2 q (.lst (l'.map V.int)) = H3 at D3 off3 ⊢
        -- if cell >= 10 ** 18
        refine ⟨_, rfl, _, _, rfl, rfl, ⟨by decide, by decide, by decide⟩, _, _, rfl, rfl, _, rfl, ?_⟩
        refine ite2 (fun _ => ?_) (fun _ => ?_)
        · refine ⟨_, rfl, p, _, _, _, rfl, rfl, SqL.of D3.ob, c0, .inl ⟨rfl, _, SqL.of D3.ce⟩, _, rfl, _, rfl, _, _, rfl, rfl, ⟨by omega, by omega⟩, q, _, _, rfl, rfl, D3.ce, (by rw [List.length_map, sizeLine_eq]; omega), ?_⟩
          have eapp : l'.map V.int ++ [V.int (z.fdiv n)] = (l' ++ [z.fdiv n]).map V.int := by simp
          rw [eapp]
          have D4 : DeckAt (upd H3 q (.lst ((l' ++ [z.fdiv n]).map V.int))) p q (l' ++ [z.fdiv n]) m (c + 1) :=
            ⟨by rw [upd_ne hpq]; exact D3.ob, upd_same, D3.m0, D3.m1, D3.c0, D3.c1, by rw [List.length_append]; exact hln⟩
          refine ⟨_, rfl, _, rfl, _, _, rfl, rfl, hn0, ?_⟩
          exact k _ _ _ (Int.emod_nonneg _ (by omega)) (Int.emod_lt_of_pos _ hn0) (off3.trans fun b o e _ h2 => by rw [upd_ne h2]; exact e) D4
        · refine ⟨_, rfl, _, rfl, p, _, _, _, rfl, rfl, SqL.of D3.ob, c1, _, _, rfl, rfl, ?_⟩
          exact ⟨_, l', rfl, off3, D3⟩
    · rintro σ' H' ⟨z, ns', rfl, off', D'⟩
      have ix2 := fun (g : Hp → Prop) => g
      refine ⟨_, rfl, _, _, rfl, rfl, (by show (0 : Int) < _; decide), _, rfl, p, _, _, _, rfl, rfl, SqL.of D'.ob, c2, _, _, rfl, rfl, .inl ⟨by decide, by decide⟩, _, rfl, p, _, _, _, rfl, rfl, SqL.of D'.ob, c2, _, _, rfl, rfl, .inl ⟨by have := D'.c0; omega, by have := D'.c1; omega⟩,
        _, _, rfl, rfl, _, _, rfl, rfl, _, _, rfl, rfl, .inr ⟨by decide, by decide⟩, _, _, rfl, rfl, (by show (0 : Int) < _; decide), ?_⟩
      generalize hx : (z % 2147483629 + 65557 * (c + 1) * (c + 1) + 23) * 40692 % 2147483647 = x
      have x0 : 0 ≤ x := by rw [← hx]; exact Int.emod_nonneg _ (by decide)
      have x1 : x < 2147483647 := by rw [← hx]; exact Int.emod_lt_of_pos _ (by decide)
      refine ⟨_, rfl, _, rfl, _, _, rfl, rfl, .inl ⟨by omega, by omega⟩, _, rfl, p, _, _, _, rfl, rfl, SqL.of D'.ob, c2, _, _, rfl, rfl, .inl ⟨by decide, by decide⟩, _, _, rfl, rfl, _, _, rfl, rfl, _, _, rfl, rfl, (by show (0 : Int) < _; decide), ?_⟩
      refine ⟨_, rfl, _, _, rfl, rfl, .inr ⟨by decide, by decide⟩, _, _, rfl, rfl, (by show (0 : Int) < _; decide), _, _, rfl, rfl, ⟨by decide, by decide⟩, _, rfl, _, _, rfl, rfl, hn0, ?_⟩
      exact k _ ns' H' (Int.emod_nonneg _ (by omega)) (Int.emod_lt_of_pos _ hn0) off' D'
theorem scPick : FnScope ["_law_deck_here", "_law_items"] ["_law_deck_here", "_law_items"] (defScope sPick) := ⟨rfl, rfl, rfl, by decide +kernel, rfl, by decide +kernel, by decide +kernel⟩
/-- one of the items, at some place -/
def spPick : Sp := fun vs H Q _ => ∃ (p q t : Addr) (ns : List Int) (m c : Int) (xs : List V), vs = [.ref p, .ref t] ∧ H t = some (.lst xs) ∧ t ≠ p ∧ t ≠ q ∧ 0 < xs.length ∧ xs.length ≤ 1000 ∧ DeckAt H p q ns m c ∧ c + 1 ≤ 1000000000 ∧
  ∀ (j : Nat) (x : V) (ns' : List Int) (H' : Hp), xs[j]? = some x → Off p q H H' → DeckAt H' p q ns' m (c + 1) → Q x H'
theorem ok_pick {f fD : Addr} {fd fdD : FuncData} (F : Fun K "_law_pick" "_law_pick" sPick f fd) (T : Nm mg) (FD : Fun K "_law_draw" "_law_draw" sDraw fD fdD) (bD : Binds K fdD ["_law_deck_here", "_law_bound"] []) (gD : mg "_law_draw" = some (.ref fD)) :
    FnOk P w K mg base CX0 2 f fd ["_law_deck_here", "_law_items"] spPick := by
  have GD : FnOk P w K mg base CX0 1 fD fdD ["_law_deck_here", "_law_bound"] spDraw := ok_draw FD
  refine F.ok scPick (fun vs H Q E h => ?_) (fun cdv A outer s H vs Q E hr h => ?_)
  · obtain ⟨p, q, t, ns, m, c, xs, rfl, _⟩ := h
    rfl
  · obtain ⟨p, q, t, ns, m, c, xs, rfl, ht, tp, tq, hx0, hx1, D, hc, k⟩ := h
    refine ⟨_, pss_one (ps_ret (pe_ix ix_list (pv 1) (pe_call GD hr rfl gD FD.kp bD .nil pass0 (pa_cons (pv 0) (pa_cons (pe_callB call_len_seq (by rfl) T.len PySem.boot_len (pa_cons (pv 1) pa_nil)) pa_nil))) (fun _ _ => rfl))), ?_⟩
    refine ⟨_, rfl, _, rfl, _, rfl, t, _, rfl, .inl (SqL.of ht), p, q, ns, m, c, (xs.length : Int), rfl, by omega, by omega, D, hc, fun i ns' H' h0 h1 off D' => ?_⟩
    obtain ⟨j, rfl⟩ : ∃ j : Nat, i = (j : Int) := ⟨i.toNat, by omega⟩
    have hj : j < xs.length := by omega
    exact ⟨t, xs, _, xs[j], rfl, rfl, SqL.of (off _ _ ht tp tq), atI_nat (List.getElem?_eq_getElem hj), k j _ ns' H' (List.getElem?_eq_getElem hj) off D'⟩
end
/-! ### the deck stands apart -/
def hide (p q : Addr) (H : Hp) : Hp := fun b => if b = p ∨ b = q then none else H b
/-- a deck at p with its cells at q, at most b choices made -/
def Dk (H : Hp) (p q : Addr) (b : Nat) : Prop := ∃ ns m c, DeckAt H p q ns m c ∧ c ≤ (b : Int)
section
variable {H H' : Hp} {p q t : Addr} {b : Nat}
theorem hide_sub (p q : Addr) (H : Hp) : Same (hide p q H) H := fun c o e => by
  unfold hide at e
  split at e
  · cases e
  · exact e
theorem hide_at {c : Addr} {o : HO} (h : H c = some o) (hp : c ≠ p) (hq : c ≠ q) : hide p q H c = some o := by
  unfold hide
  rw [if_neg (fun z => z.elim hp hq)]
  exact h
theorem hide_same (S : Same H H') : Same (hide p q H) (hide p q H') := fun c o e => by
  unfold hide at e ⊢
  split at e
  · cases e
  · rename_i h
    rw [if_neg h]
    exact S _ _ e
theorem hide_off (O : Off p q H H') : Same (hide p q H) (hide p q H') := fun c o e => by
  unfold hide at e ⊢
  split at e
  · cases e
  · rename_i h
    rw [if_neg h]
    exact O _ _ e (fun z => h (.inl z)) (fun z => h (.inr z))
theorem Dk.same (D : Dk H p q b) (S : Same H H') : Dk H' p q b := by
  obtain ⟨ns, m, c, D, h⟩ := D
  exact ⟨ns, m, c, D.same S, h⟩
theorem Dk.mono {b' : Nat} (D : Dk H p q b) (h : b ≤ b') : Dk H p q b' := by
  obtain ⟨ns, m, c, D, hc⟩ := D
  exact ⟨ns, m, c, D, by omega⟩
theorem Dk.new (D : Dk H p q b) (n : H t = none) : t ≠ p ∧ t ≠ q := by
  obtain ⟨ns, m, c, D, hc⟩ := D
  refine ⟨fun e => ?_, fun e => ?_⟩
  · rw [e, D.ob] at n
    cases n
  · rw [e, D.ce] at n
    cases n
theorem hide_new {o : HO} (D : Dk H p q b) (n : H t = none) : hide p q (upd H t o) t = some o := hide_at upd_same (D.new n).1 (D.new n).2
theorem hide_none (h : hide p q H t = none) (hp : t ≠ p) (hq : t ≠ q) : H t = none := by
  unfold hide at h
  rw [if_neg (fun z => z.elim hp hq)] at h
  exact h
/-- a choice of n -/
theorem draw_of {n : Int} {Q : VK} {E : XK} (D : Dk H p q b) (h0 : 0 < n) (h1 : n ≤ 1000000) (hb : b < 100000000) (k : ∀ (i : Nat) (H' : Hp), (i : Int) < n → Off p q H H' → Dk H' p q (b + 1) → Q (.int (i : Nat)) H') : spDraw [.ref p, .int n] H Q E := by
  obtain ⟨ns, m, c, D, hc⟩ := D
  refine ⟨p, q, ns, m, c, n, rfl, h0, h1, D, by omega, fun i ns' H' i0 i1 off D' => ?_⟩
  obtain ⟨j, rfl⟩ : ∃ j : Nat, i = j := ⟨i.toNat, by omega⟩
  exact k j H' i1 off ⟨ns', m, c + 1, D', by omega⟩
/-- one of the items of a list -/
theorem pick_of {xs : List V} {Q : VK} {E : XK} (D : Dk H p q b) (ht : H t = some (.lst xs)) (tp : t ≠ p) (tq : t ≠ q) (h0 : 0 < xs.length) (h1 : xs.length ≤ 1000) (hb : b < 100000000) (k : ∀ (j : Nat) (x : V) (H' : Hp), xs[j]? = some x → Off p q H H' → Dk H' p q (b + 1) → Q x H') : spPick [.ref p, .ref t] H Q E := by
  obtain ⟨ns, m, c, D, hc⟩ := D
  exact ⟨p, q, t, ns, m, c, xs, rfl, ht, tp, tq, h0, h1, D, by omega, fun j x ns' H' hx off D' => k j x H' hx off ⟨ns', m, c + 1, D', by omega⟩⟩
end
theorem dk_upd {H : Hp} {p q r : Addr} {b : Nat} {o : HO} (D : Dk H p q b) (h1 : r ≠ p) (h2 : r ≠ q) : Dk (upd H r o) p q b := by
  obtain ⟨ns, m, c, D, hc⟩ := D
  exact ⟨ns, m, c, ⟨by rw [upd_ne h1.symm]; exact D.ob, by rw [upd_ne h2.symm]; exact D.ce, D.m0, D.m1, D.c0, D.c1, D.ln⟩, hc⟩
theorem dk_ne {H : Hp} {p q a : Addr} {b : Nat} {xs : List V} (D : Dk H p q b) (h : H a = some (.tup xs)) : a ≠ p ∧ a ≠ q := by
  obtain ⟨ns, m, c, D, hc⟩ := D
  refine ⟨fun e => ?_, fun e => ?_⟩
  · rw [e, D.ob] at h
    cases h
  · rw [e, D.ce] at h
    cases h
end KA
set_option maxRecDepth 100000
set_option maxHeartbeats 4000000
namespace L2
open PySem PySem.Spec PyProof.Rows
section
variable {X : Cx}
/-- a list beside an empty list, a tuple beside an empty tuple -/
def rEmpty (neg : Bool) : R2 := fun x y H Q => ∃ (a b : Addr) (xs : List V), x = .ref a ∧ y = .ref b ∧ ((H a = some (.lst xs) ∧ H b = some (.lst [])) ∨ (H a = some (.tup xs) ∧ H b = some (.tup []))) ∧ Q (.bl (if neg then !xs.isEmpty else xs.isEmpty)) H
theorem nil_of {us : List Value} (r : Vals ([] : List V) us) : us = [] := by
  cases r
  rfl
theorem op_empty (hu : X.A.units < cLine) : OpR X (compareOp .Eq) (rEmpty false) := by
  intro pins s σ H x y v u Q I rx ry h
  obtain ⟨a, b, xs, rfl, rfl, h, q⟩ := h
  cases rx
  cases ry
  rcases h with ⟨ha, hb⟩ | ⟨ha, hb⟩
  · obtain ⟨its, rv, p, _⟩ := I.list (SqL.of ha)
    obtain ⟨its2, rv2, p2, _⟩ := I.list (SqL.of hb)
    obtain rfl := nil_of rv2
    cases xs with
    | nil =>
      obtain rfl := nil_of rv
      exact SeqAt.eq_listAt (e := fun _ => true) p.isList p2.isList rfl hu (fun j h1 h2 => absurd h1 (Nat.not_lt_zero _)) ⟨.bl true, H, I, rfl, q⟩
    | cons x0 l =>
      cases rv with
      | cons r0 rs => exact SeqAt.eq_list_lengthsAt p.isList p2.isList (by simp) hu ⟨.bl false, H, I, rfl, q⟩
  · obtain ⟨its, rv, p, _⟩ := I.tuple (SqT.of ha)
    obtain ⟨its2, rv2, p2, _⟩ := I.tuple (SqT.of hb)
    obtain rfl := nil_of rv2
    cases xs with
    | nil =>
      obtain rfl := nil_of rv
      exact SeqAt.eq_tupleAt (e := fun _ => true) p p2 hu (fun j h1 h2 => absurd h1 (Nat.not_lt_zero _)) ⟨.bl true, H, I, rfl, q⟩
    | cons x0 l =>
      cases rv with
      | cons r0 rs => exact SeqAt.eq_tupleAt (e := fun _ => true) p p2 hu (fun j h1 h2 => absurd h2 (Nat.not_lt_zero _)) ⟨.bl false, H, I, by simp [RelV], q⟩
theorem op_nempty (hu : X.A.units < cLine) : OpR X (compareOp .NotEq) (rEmpty true) := by
  intro pins s σ H x y v u Q I rx ry h
  obtain ⟨a, b, xs, rfl, rfl, h, q⟩ := h
  cases rx
  cases ry
  rcases h with ⟨ha, hb⟩ | ⟨ha, hb⟩
  · obtain ⟨its, rv, p, _⟩ := I.list (SqL.of ha)
    obtain ⟨its2, rv2, p2, _⟩ := I.list (SqL.of hb)
    obtain rfl := nil_of rv2
    cases xs with
    | nil =>
      obtain rfl := nil_of rv
      exact SeqAt.RcNeAt.lists (e := fun _ => true) p.isList p2.isList rfl hu (fun j h1 h2 => absurd h1 (Nat.not_lt_zero _)) _ _ _ _ ⟨.bl false, H, I, rfl, q⟩
    | cons x0 l =>
      cases rv with
      | cons r0 rs => exact SeqAt.RcNeAt.lists_lengths p.isList p2.isList (by simp) hu _ _ _ _ ⟨.bl true, H, I, rfl, q⟩
  · obtain ⟨its, rv, p, _⟩ := I.tuple (SqT.of ha)
    obtain ⟨its2, rv2, p2, _⟩ := I.tuple (SqT.of hb)
    obtain rfl := nil_of rv2
    cases xs with
    | nil =>
      obtain rfl := nil_of rv
      exact SeqAt.RcNeAt.tuples (e := fun _ => true) p p2 hu (fun j h1 h2 => absurd h1 (Nat.not_lt_zero _)) _ _ _ _ ⟨.bl false, H, I, rfl, q⟩
    | cons x0 l =>
      cases rv with
      | cons r0 rs => exact SeqAt.RcNeAt.tuples (e := fun _ => true) p p2 hu (fun j h1 h2 => absurd h2 (Nat.not_lt_zero _)) _ _ _ _ ⟨.bl true, H, I, by simp [RelV], q⟩
end
end L2
namespace L2
open PySem PySem.Spec PyProof.Rows
/-! ### repr of any such value, with ints of up to 4,300 digits and empty dicts at any place -/
mutual
def okInt : PyData → Prop
  | .int i => i.natAbs < 10 ^ 4300
  | .list l => okInts l
  | .tuple l => okInts l
  | _ => True
def okInts : List PyData → Prop
  | [] => True
  | d :: ds => okInt d ∧ okInts ds
end
section
variable {prog : Program} {w : World} {A : Around} {E : Value → Shared → Prop} {s : Shared}
theorem call_int_reprS {a : Int} {t : Tok} {Q : Value → Shared → Prop} (hn : s.heap.NoDigits) (hlt : a.natAbs < 10 ^ 4300) (h : Q (.str (toString a) s.toks) { s with toks := s.toks + 1 }) :
    wpAny (model prog w) A (call (.builtin "int.__repr__") [.int a t]) Q E s := by
  (refine wpAny_call_entry F.slot_int_repr (typeIs_int s a t) F.entry_int_repr ?_ (F.args_int_repr_1 _); unfold Builtin.«int.__repr__»)
  show wpAny (model prog w) _ (do let r ← Builtin.overDigitLimit? a; _) _ _ s
  exact wpAny_bind (overDigitLimit_any hn (fun _ => wpAny_bind (wpAny_mkStr (wpAny_pure ⟨_, rfl, h⟩) (int_text_fits10 hlt))) (fun hge => absurd hlt (Nat.not_lt.mpr hge)))
theorem pyReprObj_intS {a : Int} {t : Tok} {Q : Value → Shared → Prop} (hu : A.units < cLine) (hn : s.heap.NoDigits) (hlt : a.natAbs < 10 ^ 4300) (h : Q (.str (toString a) s.toks) { s with toks := s.toks + 1 }) :
    wpAny (model prog w) A (pyReprObj (.int a t)) Q E s :=
  wpAny_pyReprObj_slot hu (typeIs_int s a t) F.slot_int_repr.toG (call_int_reprS hn hlt ⟨_, _, rfl, h⟩)
theorem reprK_int {h₀ : Heap} {as : List Addr} {d : Nat} {a : Int} (t : Tok) (hn : h₀.NoDigits) (hlt : a.natAbs < 10 ^ 4300) : ReprK prog w as h₀ d (.int a t) (toString a) := by
  intro base hb A g E s Q _ _ hu hk0 hQ
  have hn' : base ≤ sizeLine := by omega
  (rw [pyReprUnder_leaf (v := .int a t) hn' (fun _ e => nomatch e)]; unfold pyRepr)
  exact wpAny_bind (pyReprObj_intS (by omega) (hn.keeps hk0) hlt (wpAny_pure (hQ s.heap _ fun _ _ e => e)))
end
end L2
namespace KA
open PySem PySem.Spec PyProof.Rows L2
section
variable {P : Program} {w : World} {H : Hp} {h : Heap}
mutual
theorem dat_repr (ok : HOk P w H h) (nd : h.NoDigits) : ∀ {v : V} {d : PyData} {u : Value}, Dat H v d → RelV v u → okInt d → d.shown.length ≤ sizeLine → ∃ as bs, Reads h u d as ∧ ReadAtMost h d.depth bs ∧ ReprK P w bs h d.depth u d.shown
  | _, _, _, .non, r, _, _ => by
    cases r
    exact ⟨[], [], .none, (fun _ z => nomatch z), by simp only [PyData.shown]; exact .of_is ReprIs.none _ _ _⟩
  | _, _, _, .bl b, r, _, _ => by
    cases r
    exact ⟨[], [], .bool b, (fun _ z => nomatch z), by simp only [PyData.shown]; exact .of_is (ReprIs.bool b) _ _ _⟩
  | _, _, _, .int i, r, hi, _ => by
    obtain ⟨t, rfl⟩ := r
    exact ⟨[], [], .int i t, (fun _ z => nomatch z), by simp only [PyData.shown]; exact reprK_int t nd (by simpa only [okInt] using hi)⟩
  | _, _, _, .str x _, r, _, hz => by
    obtain ⟨t, rfl⟩ := r
    exact ⟨[], [], .str x t, (fun _ z => nomatch z), by simp only [PyData.shown]; exact .of_is (ReprIs.str x t (by simpa only [PyData.shown] using hz)) _ _ _⟩
  | _, _, _, .lst (a := a) (xs := xs) (ds := ds) e t, r, hi, hz => by
    cases r
    obtain ⟨_, its, m, rv, ho⟩ := (show ObjOk P w H h a (.lst xs) from ok a _ e)
    have hz' : (listText (PyData.shownAll ds)).length ≤ sizeLine := by simpa only [PyData.shown] using hz
    obtain ⟨as, bs, ra, hb, hk⟩ := datAll_repr ok nd t rv (by simpa only [okInt] using hi) (fun q hq => Nat.le_trans (listText_mem_le hq) hz')
    have rl : Reads h (.ref a) (.list ds) _ := .list ho rfl rfl ra
    refine ⟨_, a :: bs, rl, ReadAtMost.cons rl (by simp only [PyData.depth]; omega) hb, ?_⟩
    have hna : a ∉ bs := not_mem_of_deeper rl (by simp only [PyData.depth]; omega) hb
    simp only [PyData.depth, PyData.shown]
    cases its with
    | nil =>
      cases ra
      simp only [PyData.shownAll, listText_nil]
      exact ReprK.listEmpty ho rfl rfl
    | cons x l => exact ReprK.list (na := _) ho rfl rfl hna (by simpa using hk.length_eq) (fun i y e' => hk.item i y (by simpa using e'))
  | _, _, _, .tup (a := a) (xs := xs) (ds := ds) e t, r, hi, hz => by
    cases r
    obtain ⟨_, its, rv, o, ho, hc, m, hd⟩ := (show ObjOk P w H h a (.tup xs) from ok a _ e)
    have hz' : (tupleText (PyData.shownAll ds)).length ≤ sizeLine := by simpa only [PyData.shown] using hz
    obtain ⟨as, bs, ra, hb, hk⟩ := datAll_repr ok nd t rv (by simpa only [okInt] using hi) (fun q hq => Nat.le_trans (tupleText_mem_le hq) hz')
    have rl : Reads h (.ref a) (.tuple ds) _ := .tuple ho hc hd ra
    refine ⟨_, a :: bs, rl, ReadAtMost.cons rl (by simp only [PyData.depth]; omega) hb, ?_⟩
    have hna : a ∉ bs := not_mem_of_deeper rl (by simp only [PyData.depth]; omega) hb
    simp only [PyData.depth, PyData.shown]
    exact ReprK.tuple ho hc hd hna hk
  | _, _, _, .d0 (a := a) e, r, _, _ => by
    cases r
    obtain ⟨_, ns, vs, kv, o, es, ep, ho, hx, hd, hk, hp, _⟩ := (show ObjOk P w H h a (.dK []) from ok a _ e)
    cases kv
    have e0 : es.toList = [] := by
      generalize es.toList = l at hp
      cases hp
      rfl
    have rl : Reads h (.ref a) (.dict []) (a :: [] ++ []) := .dict (kvs := []) ho hx.1 hd (by rw [e0]; exact .nil) (by rw [e0]; exact .nil)
    have hsys : (a == sysModules) = false := beq_eq_false_iff_ne.mpr fun z => by
      rw [z] at ns
      simp at ns
    refine ⟨_, [a], rl, ReadAtMost.cons (n := 0) rl (Nat.zero_le _) (fun _ z => nomatch z), ?_⟩
    have k := ReprK.dict (prog := P) (w := w) (as := []) (d := 0) (ps := []) ho hx.1 hd hsys (by simp) (by rw [e0]; exact .nil)
    have k' := k.level_le (d' := (PyData.dict []).depth) (by simp [PyData.depth, PyData.depthKv])
    simpa only [PyData.shown, PyData.shownKv] using k'
theorem datAll_repr (ok : HOk P w H h) (nd : h.NoDigits) : ∀ {vs : List V} {ds : List PyData} {us : List Value}, DatAll H vs ds → Vals vs us → okInts ds → (∀ t ∈ PyData.shownAll ds, t.length ≤ sizeLine) →
    ∃ as bs, ReadsAll h us ds as ∧ ReadAtMost h (PyData.depthAll ds) bs ∧ ReprAllK P w bs h (PyData.depthAll ds) us (PyData.shownAll ds)
  | _, _, _, .nil, .nil, _, _ => ⟨[], [], .nil, (fun _ z => nomatch z), by simp only [PyData.shownAll]; exact .nil⟩
  | _, _, _, .cons (d := d) (ds := ds) t ts, .cons r rs, hi, hz => by
    have hi' : okInt d ∧ okInts ds := by simpa only [okInts] using hi
    obtain ⟨as, b1, ra, hb1, k1⟩ := dat_repr ok nd t r hi'.1 (hz _ (by simp only [PyData.shownAll]; exact List.mem_cons_self ..))
    obtain ⟨cs, b2, rb, hb2, k2⟩ := datAll_repr ok nd ts rs hi'.2 (fun q hq => hz q (by simp only [PyData.shownAll]; exact List.mem_cons_of_mem _ hq))
    refine ⟨as ++ cs, b1 ++ b2, .cons ra rb, ?_, ?_⟩
    · simp only [PyData.depthAll]
      exact (hb1.mono (Nat.le_max_left _ _)).append (hb2.mono (Nat.le_max_right _ _))
    · simp only [PyData.depthAll, PyData.shownAll]
      refine .cons ((k1.more fun b hb => List.mem_append_left _ hb).level_le (Nat.le_max_left _ _)) ?_
      exact k2.more_le (fun b hb => List.mem_append_right _ hb) (Nat.le_max_right _ _)
end
end
section
variable {X : Cx}
theorem nodig {K : PySem.W.Frag} {mg : Str → Option Value} {h : Heap} (M : L2.Mod K mg h) (e : PySem.W.nsIn K cStatics "sys.int_max_str_digits" = some none) : h.NoDigits := by
  obtain ⟨mc, h1, _⟩ := M.nolimit
  exact ⟨mc, h1, PySem.W.ns_none_of M.kin h1 e⟩
def rReprD : List V → Hp → VK → Prop := fun xs H Q => ∃ v d, xs = [v] ∧ Dat H v d ∧ okInt d ∧ d.depth ≤ 64 ∧ d.shown.length ≤ sizeLine ∧ Q (.str d.shown) H
theorem call_reprD (hg : X.A.guards = some []) (hu : X.A.units + 128 < cLine) (e : PySem.W.nsIn X.K cStatics "sys.int_max_str_digits" = some none) : CallR X (.builtin "repr") rReprD := by
  intro pins s σ H xs us Q I r hh
  obtain ⟨v, d, rfl, th, hi, hd, hz, q⟩ := hh
  obtain ⟨u, rfl, ru⟩ := vals1 r
  have nd : s.heap.NoDigits := (nodig I.ok.mod e).keeps I.bk
  have done : ∀ (h' : Heap) (u tk : Nat), (∀ b o, s.heap.get? b = some o → h'.get? b = some o) → EP X pins σ Q (.str d.shown u) { s with heap := h', toks := tk } := fun h' u tk k => ⟨.str _, H, I.kept (t' := tk) k, ⟨_, rfl⟩, q⟩
  cases th with
  | non =>
    cases ru
    exact PySem.P.repr_of_none (by simpa only [PyData.shown] using done s.heap _ _ fun _ _ e => e)
  | bl b =>
    cases ru
    exact PySem.P.repr_of_bool (by simpa only [PyData.shown] using done s.heap _ _ fun _ _ e => e)
  | str x _ =>
    obtain ⟨t, rfl⟩ := ru
    exact PySem.P.repr_of_str (by simpa only [PyData.shown] using done s.heap _ _ fun _ _ e => e) (by simpa only [PyData.shown] using hz)
  | int i =>
    obtain ⟨t, rfl⟩ := ru
    refine call_repr_slot (by omega) (typeIs_int s i t) F.slot_int_repr.toG (call_int_reprS nd (by simpa only [okInt] using hi) ⟨_, _, rfl, ?_⟩)
    simpa only [PyData.shown] using done s.heap _ _ fun _ _ e => e
  | @lst a vs ds e1 t =>
    cases ru
    obtain ⟨_, its, m, rv, ho⟩ := (show ObjOk X.prog X.w H s.heap a (.lst vs) from I.hok a _ e1)
    have hz' : (listText (PyData.shownAll ds)).length ≤ sizeLine := by simpa only [PyData.shown] using hz
    obtain ⟨as, bs, ra, hb, hk⟩ := datAll_repr I.hok nd t rv (by simpa only [okInt] using hi) (fun q hq => Nat.le_trans (listText_mem_le hq) hz')
    have rl : Reads s.heap (.ref a) (.list ds) _ := .list ho rfl rfl ra
    have hna : a ∉ bs := not_mem_of_deeper rl (by simp only [PyData.depth]; omega) hb
    simp only [PyData.depth] at hd
    simp only [PyData.shown] at done
    refine call_repr_slot (by omega) ⟨_, ho, rfl⟩ F.slot_list_repr.toG ?_
    cases its with
    | nil =>
      cases ra
      simp only [PyData.shownAll, listText_nil] at done
      exact call_list_repr_empty ⟨_, ho, rfl⟩ ho rfl ⟨_, _, rfl, done s.heap _ _ fun _ _ e => e⟩
    | cons x l => exact call_list_reprK (h₀ := s.heap) ho rfl rfl hna (by simpa using hk.length_eq) (fun i y e => hk.item i y (by simpa using e)) (A := X.A.in1) (g := []) hg (fun b _ => Clear.nil b) (by show X.A.units + 1 + (PyData.depthAll ds + 1) < cLine; omega) (fun _ _ e => e) (fun h' u tk k => ⟨_, _, rfl, done h' u tk k⟩) hz'
  | @tup a vs ds e1 t =>
    cases ru
    obtain ⟨_, its, rv, o, ho, hc, m, hdd⟩ := (show ObjOk X.prog X.w H s.heap a (.tup vs) from I.hok a _ e1)
    have hz' : (tupleText (PyData.shownAll ds)).length ≤ sizeLine := by simpa only [PyData.shown] using hz
    obtain ⟨as, bs, ra, hb, hk⟩ := datAll_repr I.hok nd t rv (by simpa only [okInt] using hi) (fun q hq => Nat.le_trans (tupleText_mem_le hq) hz')
    have rl : Reads s.heap (.ref a) (.tuple ds) _ := .tuple ho hc hdd ra
    have hna : a ∉ bs := not_mem_of_deeper rl (by simp only [PyData.depth]; omega) hb
    simp only [PyData.depth] at hd
    simp only [PyData.shown] at done
    refine call_repr_slot (by omega) ⟨_, ho, hc⟩ F.slot_tuple_repr ?_
    exact call_tuple_reprK (h₀ := s.heap) ho hc hdd hna hk (A := X.A.in1) (g := []) hg (fun b _ => Clear.nil b) (by show X.A.units + 1 + (PyData.depthAll ds + 1) < cLine; omega) (fun _ _ e => e) (fun h' u tk k => ⟨_, _, rfl, done h' u tk k⟩) hz'
  | @d0 a e1 =>
    cases ru
    obtain ⟨_, ns, vs, kv, o, es, ep, ho, hx, hdd, hk, hp, _⟩ := (show ObjOk X.prog X.w H s.heap a (.dK []) from I.hok a _ e1)
    cases kv
    have e0 : es.toList = [] := by
      generalize es.toList = l at hp
      cases hp
      rfl
    have hsys : (a == sysModules) = false := beq_eq_false_iff_ne.mpr fun z => by
      rw [z] at ns
      simp at ns
    simp only [PyData.shown, PyData.shownKv] at done
    refine call_repr_slot (by omega) ⟨_, ho, hx.1⟩ F.slot_dict_repr ?_
    exact call_dict_reprK (h₀ := s.heap) (as := []) (d := 0) (ps := []) ho hx.1 hdd hsys (by simp) (by rw [e0]; exact .nil) (A := X.A.in1) (g := []) hg (fun b _ => Clear.nil b) (by show X.A.units + 1 + 1 < cLine; omega) (fun _ _ e => e) (fun h' u tk k => ⟨_, _, rfl, done h' u tk k⟩)
end
end KA
namespace L2
open PySem PySem.Spec PyProof.Rows
/-! ### a def that is called where no repr runs -/
structure FnG (P : Program) (w : World) (K : PySem.W.Frag) (mg : Str → Option Value) (base : Heap) (k : Nat) (f : Addr) (fd : FuncData) (ps : List Str) (sp : Sp) : Prop where
  len : ∀ vs H Q E, sp vs H Q E → vs.length = ps.length
  run : ∀ (A : Around) (outer : List Env) (s : Shared) (H : Hp) (args : Args) (us : List Value) (vs : List V) (Q : VK) (E : XK), A.guards = some [] → Room k A → Env0 P w K mg base A outer s H → BindsTo s fd args (ps.zip us) → Vals vs us → sp vs H Q E →
    codeAny (model P w) A (.call (.ref f) args) (CR CX0 outer P w H s Q E) s
section
variable {P : Program} {w : World} {K : PySem.W.Frag} {mg : Str → Option Value} {base : Heap}
theorem Fun.okG {x qual : Str} {st : Stmt} {f : Addr} {fd : FuncData} {N ps : List Str} {k : Nat} {sp : Sp} (F : Fun K x qual st f fd) (S : FnScope N ps (defScope st)) (len : ∀ vs H Q E, sp vs H Q E → vs.length = ps.length)
    (hbody : ∀ (cdv : Value) (A : Around) (outer : List Env) (s : Shared) (H : Hp) (vs : List V) (Q : VK) (E : XK), A.guards = some [] → Room k (A.deeper (envOfC qual (defScope st) s.heap.objs.size f cdv)) → sp vs H Q E →
      ∃ t, PSs (cxOf CX0 P w K mg base N qual (defScope st) f cdv A outer s H E).nox (defBody st) t ∧ t { nx := fun _ H' => Q .non H', rt := Q } (start N vs) H) : FnG P w K mg base (k + 1) f fd ps sp := by
  obtain ⟨oc, od, kV, doc, pm, an, cdv, ct, osl, rfl, lk, hcd⟩ := F.ex
  refine ⟨len, fun A outer s H args us vs Q E hg hr e0 hb r hsp => ?_⟩
  obtain ⟨t, ht, hq⟩ := hbody cdv A outer s H vs Q E hg (hr.deeper _) hsp
  have KX : K.In s.heap := e0.mod.kin.keeps fun b o z => (e0.bs b o z).1
  have inPar : ∀ y ∈ ps.zip us, (defScope st).names.lookup y.1 = some .local ∨ ((defScope st).names.lookup y.1 = some .cell ∧ ((cellsFrom (s.heap.objs.size + 1) (defScope st).names []).lookup y.1).isSome = true) := by
    intro y hy
    have hin : y.1 ∈ ps := (List.of_mem_zip (a := y.1) (b := y.2) hy).1
    rcases S.par y.1 hin with z | z
    · exact .inl z
    · exact .inr ⟨z, PySem.W.cellsFrom_some _ _ _ (.inl z)⟩
  refine codeAny_call_function hr.depth (KX _ _ lk) rfl S.co S.gen rfl (PySem.W.codeRec_of KX hcd) (hb _ _ _ _ ?_)
  refine wpAny_newFunctionEnv_cells S.kind inPar fun env he s1 ic => ?_
  subst he
  have I := inv_start (CX := CX0) (E := E) (cd := cdv) (qual := qual) (f := f) S hr.hd e0 (len _ _ _ _ hsp) r ic
  refine ⟨(e0.mod.nolimit.keeps fun b o z => (e0.bs b o z).1).keeps ic.toInCall.keep, codeAny_func ?_⟩
  refine wpAny_mono (ht.nox.run [] s1 (start N vs) H _ I hq) (fun fl s' q => ?_) fun _ _ z => z
  cases fl with
  | next =>
    obtain ⟨σ', H', J, z⟩ := q
    exact ⟨.non, H', J.os, J.bare, J.base, J.hok, rfl, z⟩
  | ret u =>
    obtain ⟨v, σ', H', J, rv, z⟩ := q
    exact ⟨v, H', J.os, J.bare, J.base, J.hok, rv, z⟩
  | brk =>
    obtain ⟨_, _, _, z⟩ := q
    exact z.elim
  | cont =>
    obtain ⟨_, _, _, z⟩ := q
    exact z.elim
end
section
variable {X : Cx} {k : Nat} {f : Addr} {fd : FuncData} {ps : List Str} {sp : Sp} {x : Str} {p pos : Pos} {e : Expr} {es : List Expr} {t : TA}
theorem pe_callG (F : FnG X.prog X.w X.K X.mg X.base k f fd ps sp) (hg : X.A.guards = some []) (hr : Room k X.A) (gl : Gl X x) (hm : X.mg x = some (.ref f)) (hk : PySem.W.keepIn X.K (.ref f) = true) (hb : Binds X.K fd ps []) (ha : PA X (e :: es) t)
    (hdb : (x == ("__debug__" : Str)) = false := by decide) (he : starEach (e :: es) X.env = (false, eval e X.env) :: starEach es X.env := by rfl) (hpl : (backTo pos (starEach es X.env)).any (·.1) = false := by rfl) :
    PE X (.Call (.Name x p) (e :: es) [] pos) (tCall sp [] E0 t) := by
  refine ⟨fun pins s σ H Q I h => ?_⟩
  refine wpAny_Call_Name_kw (ld_glob I gl hm ?_ hdb)
  refine PySem.W.callWith_K (h₀ := X.base) I.ok.mod.kin hk (thn (ha.run pos pins s σ H _ I h) fun us s1 hh => ?_) he hpl
  obtain ⟨vs, H1, I1, r, q⟩ := hh
  refine ⟨I1.kIn, ?_⟩
  have q' : sp vs H1 Q E0 := by
    have z : sp (vs ++ []) H1 Q E0 := q
    rw [List.append_nil] at z
    exact z
  have hl : us.length = ps.length := r.length.symm.trans (F.len _ _ _ _ q')
  have b := hb s1 us I1.kIn (by rw [List.append_nil]; exact hl)
  rw [List.append_nil] at b
  refine wpAny_call (codeAny_mono (F.run X.A X.stack s1 H1 ⟨us, []⟩ us vs Q E0 hg hr I1.env0 b r q') fun res s' z => ?_)
  cases res with
  | error er => exact False.elim z
  | ok fl =>
    cases fl with
    | ret u => exact I1.after z
    | next => exact False.elim z
    | brk => exact False.elim z
    | cont => exact False.elim z
end
end L2
namespace L2
open PySem PySem.Spec PyProof.Rows
section
variable {P : Program} {w : World} {K : PySem.W.Frag} {mg mb : Str → Option Value} {k : Nat} {fa a : Addr} {fd : FuncData} {x : Str} {sp : Sp} {s1 : Shared} {vs : List Value} {ns : List Int}
/-- the law's call where at most the script is tracked (at a) -/
theorem callG_at (KX : K.In s1.heap) (hns : s1.heap.Ns mainGlobals mg) (hb : s1.heap.Ns builtinsNs mb) (hbb : ∀ x : Str, x ≠ "__name__" → mb x = bootBuiltins x) (hlim : s1.heap.NoLimit) (hg : s1.gens = #[])
    (ha : s1.heap.get? a = some { cls := .type "list", data := .seq vs.toArray }) (hr : Room k callerA) (F : ∀ base : Heap, K.In base → base.Ns mainGlobals mg → FnG P w K mg base k fa fd [x] sp)
    (hbind : ∀ (s : Shared) (u : Value), BindsTo s fd ⟨[u], []⟩ [(x, u)]) (H : Hp) (hO : Only H) (hok : HOk P w H s1.heap) (hA : ∀ b, H b ≠ none → b = a) (hK : H a ≠ none → K.lookup a = none)
    (hsp : sp [.ref a] H (fun v _ => v = .bl true) fun _ _ _ => False) :
    codeAny (model P w) callerA (.call (.ref fa) ⟨[.ref a], []⟩) (fun r s' => r = .ok (.ret (.bool true)) ∧ OldK s1.heap s'.heap ∧ s'.os = s1.os ∧ AllBare s'.gens) s1 := by
  have free : ∀ {b : Addr} {o : Obj}, s1.heap.get? b = some o → o.data ≠ .seq vs.toArray → H b = none := by
    intro b o e hd
    cases q : H b with
    | none => rfl
    | some u =>
      have eb := hA b (by rw [q]; exact fun z => nomatch z)
      rw [eb, ha] at e
      cases e
      exact absurd rfl hd
  have nsB : ∀ {b : Addr} {m : Str → Option Value}, s1.heap.Ns b m → (hidT s1.heap H).Ns b m := by
    intro b m hn
    refine hn.at fun o e => hidT_get e ?_
    obtain ⟨o', es, ep, e', d, -⟩ := hn
    rw [e] at e'
    cases e'
    exact free e (by rw [d]; exact fun z => nomatch z)
  have KB : K.In (hidT s1.heap H) := fun b o e => by
    refine hidT_get (KX b o e) ?_
    cases q : H b with
    | none => rfl
    | some u =>
      have hb0 : H b ≠ none := by rw [q]; exact fun z => nomatch z
      have eb := hA b hb0
      rw [eb] at hb0 e
      rw [hK hb0] at e
      cases e
  have M : Mod K mg (hidT s1.heap H) := ⟨KB, nsB hns, ⟨mb, nsB hb, hbb⟩, by obtain ⟨mc, h1, h2⟩ := hlim; exact ⟨mc, nsB h1, h2⟩⟩
  have e0 : Env0 P w K mg (hidT s1.heap H) callerA [] s1 H := ⟨rfl, M, fun _ _ e => of_hidT e, Nat.le_of_eq (hidT_size _ _), trivial, fun b z => absurd (show b ∈ ([] : List Addr) from z) (List.not_mem_nil), hok, .of_eq hg⟩
  refine codeAny_mono ((F _ KB (nsB hns)).run callerA [] s1 H ⟨[.ref a], []⟩ [.ref a] [.ref a] _ _ rfl hr e0 (hbind s1 (.ref a)) (.cons rfl .nil) hsp) fun r s' z => ?_
  cases r with
  | error e => exact False.elim z
  | ok fl =>
    cases fl with
    | next => exact False.elim z
    | brk => exact False.elim z
    | cont => exact False.elim z
    | ret u =>
      obtain ⟨v, H', os, bare, un, hok', rv, q⟩ := z
      have q' : v = .bl true := q
      subst q'
      obtain rfl : u = Value.bool true := rv
      refine ⟨rfl, OldK.of_keep fun b o e => ?_, os, bare⟩
      cases qb : H b with
      | none => exact un.keep b o e qb (fun z => absurd (show b ∈ ([] : List Addr) from z) (List.not_mem_nil)) (List.not_mem_nil)
      | some y =>
        rcases hO b with z | ⟨ob, xs, z⟩
        · rw [qb] at z
          cases z
        · have e1 := (hok b _ z).1
          have e2 := (hok' b _ (un.frzs b ob _ z)).1
          rw [e] at e1
          cases e1
          exact e2
end
theorem walk_G {l : PySem.W.OpenLaw} {n k : Nat} {q : Program} {loose : List Str} {XP : (Str → Option Value) → Heap → Prop} {YP : World → Heap → Prop} {d : DefRec} {K : Params → PySem.W.Frag} {sp : PySem.W.Frag → Sp} {x : Str}
    (hn : l.most = some n) (hn2 : n ≤ sizeLine) (hdf : d.params.defaults = []) (hr : Room k callerA) (hY : ∀ (w : World) (h : Heap), YP w h → (K w.params).In h)
    (F : ∀ (w : World) (mg : Str → Option Value) (fa : Addr) (h : Heap), (K w.params).In h → h.Ns mainGlobals mg → mg d.name = some (.ref fa) →
      ∃ fd : FuncData, (∀ (s : Shared) (u : Value), BindsTo s fd ⟨[u], []⟩ [(x, u)]) ∧ ∀ base : Heap, (K w.params).In base → base.Ns mainGlobals mg → FnG l.prog w (K w.params) mg base k fa fd [x] (sp (K w.params)))
    (hsp : ∀ (K : PySem.W.Frag) (H : Hp) (a : Addr) (ns : List Int), ns.length ≤ n → Only H → SqL K H a (ns.map V.int) → sp K [.ref a] H (fun v _ => v = .bl true) fun _ _ _ => False) :
    PySem.W.WalkO q loose XP YP l.row.toRowW d [] (fun f vs => PySem.call f vs) := by
  refine Att.attach_call hn hdf fun w s₀ s1 mg mb fa o pm cd doc a vs ns G Y ho hd hcd hmg hobj hints hlen hg => ?_
  have KX := hY w _ Y
  obtain ⟨fd, hb, hF⟩ := F w mg fa _ KX G.T.g hmg
  have hl : ns.length ≤ sizeLine := Nat.le_trans hlen hn2
  have rv := vals_ints hints
  cases hk : (K w.params).lookup a with
  | some oa =>
    have e := KX a oa hk
    rw [hobj] at e
    cases e
    refine callG_at KX G.T.g G.T.b G.T.builtins G.T.nolimit hg hobj hr hF hb (fun _ => none) (fun _ => .inl rfl) (fun b u z => nomatch z) (fun b z => absurd rfl z) (fun z => absurd rfl z) (hsp _ _ a ns hlen (fun _ => .inl rfl) ?_)
    exact .inr ⟨_, vs.toArray, _, hk, rfl, rfl, rfl, by rw [List.size_toArray, hints.length]; exact hl, by simpa using rv⟩
  | none =>
    let H : Hp := fun b => if b = a then some (.frz { cls := .type "list", data := .seq vs.toArray } (.lst (ns.map V.int))) else none
    have Ha : H a = some (.frz { cls := .type "list", data := .seq vs.toArray } (.lst (ns.map V.int))) := if_pos rfl
    have Hn : ∀ {b : Addr}, b ≠ a → H b = none := fun h => if_neg h
    have only : Only H := fun b => by
      by_cases hb : b = a
      · exact .inr ⟨_, _, by rw [hb]; exact Ha⟩
      · exact .inl (Hn hb)
    refine callG_at KX G.T.g G.T.b G.T.builtins G.T.nolimit hg hobj hr hF hb H only (fun b u z => ?_) (fun b z => ?_) (fun _ => hk) (hsp _ H a ns hlen only (.inl (.inr ⟨_, Ha⟩)))
    · by_cases hb : b = a
      · rw [hb, Ha] at z
        cases z
        rw [hb]
        exact ⟨hobj, by rw [List.length_map]; exact hl, vs, _, rv, hobj⟩
      · rw [Hn hb] at z
        cases z
    · by_cases hb : b = a
      · exact hb
      · exact absurd (Hn hb) z
end L2
namespace L2
open PySem PySem.Spec PyProof.Rows
/-! ### f(k = v, ..), nothing by position -/
def tCallKw (sp : Sp) (gV : List V → List V → List V) (E : XK) (tk : TA) : TE := fun σ H Q => tk σ H fun zs H1 => sp (gV [] zs) H1 Q E
section
variable {X : Cx} {CX : CXT} {k : Nat} {f : Addr} {fd : FuncData} {ps ks : List Str} {sp : Sp} {E : XK} {x : Str} {p pos : Pos} {kws : List Keyword} {tk : TA} {g : List Value → List Value → List Value} {gV : List V → List V → List V}
theorem pe_callKw (F : FnOk X.prog X.w X.K X.mg X.base CX k f fd ps sp) (hr : Room k X.A) (hg : Gl X x) (hm : X.mg x = some (.ref f)) (hk : PySem.W.keepIn X.K (.ref f) = true) (hb : KBinds X.K fd ps ks g gV) (hx : Passes CX X E)
    (hkw : PK X kws tk) (hall : (backToKw pos (keywordEach kws X.env)).all (·.1.isSome) = true := by rfl) (hks : (backToKw pos (keywordEach kws X.env)).filterMap (·.1) = ks := by rfl) (hdb : (x == ("__debug__" : Str)) = false := by decide)
    (hpl : ((backTo pos (starEach [] X.env)).any (·.1) || (backToKw pos (keywordEach kws X.env)).any (·.1.isNone)) = false := by rfl) :
    PE X (.Call (.Name x p) [] kws pos) (tCallKw sp gV E tk) := by
  refine ⟨fun pins s σ H Q I h => wpAny_Call_Name_kw (ld_glob I hg hm ?_ hdb)⟩
  refine PySem.W.callWith_KW0 (h₀ := X.base) I.ok.mod.kin hk hall (thn (hkw.run pos pins s σ H _ I h) fun ws s2 hh => ?_) hpl
  obtain ⟨zs, H2, I2, rz, q2⟩ := hh
  refine ⟨I2.kIn, ?_⟩
  rw [hks]
  exact run_fnk (us := []) (vs := []) F hr hb hx I2 .nil rz q2
end
end L2
namespace KA
open PySem PySem.Spec PyProof.Rows L2
/-! ### written data: what it is, wherever it lies -/
def tDat (d : PyData) : TE := fun _ H Q => ∀ (v : V) (H' : Hp), Same H H' → Dat H' v d → Q v H'
def tDats (ds : List PyData) : TA := fun _ H Q => ∀ (vs : List V) (H' : Hp), Same H H' → DatAll H' vs ds → Q vs H'
section
variable {X : Cx} {e : Expr} {es : List Expr} {d : PyData} {ds : List PyData}
theorem pe_weak {t t' : TE} (h : PE X e t) (w : ∀ σ H Q, t' σ H Q → t σ H Q) : PE X e t' := ⟨fun pins s σ H Q I hq => h.run pins s σ H Q I (w σ H Q hq)⟩
theorem pa_weak {t t' : TA} (h : PA X es t) (w : ∀ σ H Q, t' σ H Q → t σ H Q) : PA X es t' := ⟨fun pos pins s σ H Q I hq => h.run pos pins s σ H Q I (w σ H Q hq)⟩
theorem pd_nil : PA X [] (tDats []) := pa_weak pa_nil fun σ H Q h => h [] H (Same.refl H) .nil
theorem pd_cons (a : PE X e (tDat d)) (b : PA X es (tDats ds)) (hs : starEach (e :: es) X.env = (false, eval e X.env) :: starEach es X.env := by rfl) : PA X (e :: es) (tDats (d :: ds)) :=
  pa_weak (pa_cons a b hs) fun σ H Q h v H1 S1 dv vs H2 S2 dvs => h (v :: vs) H2 (S1.trans S2) (.cons (dv.same S2) dvs)
theorem pd_tup {ctx : Nat} {pos : Pos} (hl : ds.length ≤ 1000) (a : PA X es (tDats ds)) : PE X (.Tuple es ctx pos) (tDat (.tuple ds)) :=
  pe_weak (pe_tup a) fun σ H Q h vs H1 S1 dvs => ⟨by rw [dvs.len, sizeLine_eq]; omega, fun p np => h (.ref p) _ (S1.trans (same_new np)) (.tup upd_same (dvs.same (same_new np)))⟩
theorem pd_lst {pos : Pos} (hl : ds.length ≤ 1000) (a : PA X es (tDats ds)) : PE X (.List es pos) (tDat (.list ds)) :=
  pe_weak (pe_lst a) fun σ H Q h vs H1 S1 dvs => ⟨by rw [dvs.len, sizeLine_eq]; omega, fun p np => h (.ref p) _ (S1.trans (same_new np)) (.lst upd_same (dvs.same (same_new np)))⟩
theorem pd_of {v : V} (a : PE X e (tC v)) (h : ∀ H : Hp, Dat H v d) : PE X e (tDat d) := pe_weak a fun σ H Q q => q v H (Same.refl H) (h H)
theorem pd_none (a : PE X e (tC .non)) : PE X e (tDat .none) := pd_of a fun _ => .non
theorem pd_bool {b : Bool} (a : PE X e (tC (.bl b))) : PE X e (tDat (.bool b)) := pd_of a fun _ => .bl b
theorem pd_int {i : Int} (a : PE X e (tC (.int i))) : PE X e (tDat (.int i)) := pd_of a fun _ => .int i
theorem pd_str {x : Str} (hx : x.length ≤ 1000) (a : PE X e (tC (.str x))) : PE X e (tDat (.str x)) := pd_of a fun _ => .str x hx
theorem pd_neg {i : Int} {pos : Pos} (a : PE X e (tC (.int i))) : PE X (.UnaryOp .USub e pos) (tDat (.int (-i))) := pe_weak (pe_un un_neg a) fun σ H Q q => ⟨i, rfl, q _ H (Same.refl H) (.int _)⟩
theorem pd_dict {pos : Pos} : PE X (.Dict [] [] pos) (tDat (.dict [])) := pe_weak pe_dnewK fun σ H Q q p np => q (.ref p) _ (same_new np) (.d0 upd_same)
end
end KA
set_option maxRecDepth 100000
set_option maxHeartbeats 4000000
namespace KA
open PySem PySem.Spec PyProof.Rows L2
/-! ### the spaces of this law, as data -/
inductive S10 where
  | few (i : Fin 5)
  | row (c : Bool) (xs : List S10)
  | pow (n : Nat) (x : S10)
  | dec (c : Fin 3) (xs : List S10)
def fewD : Fin 5 → PyData
  | 0 => .tuple [.str "subset", .int 2, .int 1]
  | 1 => .tuple [.str "word", .tuple [.tuple [.str "a", .int 1]]]
  | 2 => .tuple [.str "cycle", .int 2]
  | 3 => .tuple [.str "tree", .int 2]
  | 4 => .tuple [.str "matching", .int 1]
abbrev Cn : Type := List (Str × Nat)
def cnts : Fin 3 → Cn
  | 0 => [("a", 1), ("b", 2)]
  | 1 => [("ab", 2), ("b", 1)]
  | 2 => [("b", 1)]
def cntsD (cs : Cn) : PyData := .tuple (cs.map fun c => .tuple [.str c.1, .int (c.2 : Nat)])
def rowW (c : Bool) : Str := if c = true then "choice" else "product"
mutual
def dt : S10 → PyData
  | .few i => fewD i
  | .row c xs => .tuple [.str (rowW c), .tuple (dts xs)]
  | .pow n x => .tuple [.str "power", .int (n : Nat), dt x]
  | .dec c xs => .tuple [.str "decorated", cntsD (cnts c), .tuple (dts xs)]
def dts : List S10 → List PyData
  | [] => []
  | x :: xs => dt x :: dts xs
end
theorem dts_map : ∀ xs : List S10, dts xs = xs.map dt
  | [] => by rw [dts]; rfl
  | x :: xs => by rw [dts, dts_map xs]; rfl
theorem dts_len (xs : List S10) : (dts xs).length = xs.length := by rw [dts_map, List.length_map]
/-! what stands inside, by its step -/
def enumS : Nat → List S10 → List (PyData × S10)
  | _, [] => []
  | k, x :: xs => (.int (k : Nat), x) :: enumS (k + 1) xs
def decS (p : (Str × Nat) × S10) : List (PyData × S10) := (List.range p.1.2).map fun j => (.tuple [.str p.1.1, .int (j : Nat)], p.2)
def nestS : S10 → List (PyData × S10)
  | .few _ => []
  | .row _ xs => enumS 0 xs
  | .pow n x => (List.range n).map fun k => (.int (k : Nat), x)
  | .dec c xs => ((cnts c).zip xs).flatMap decS
def isS (z : Str) : PyData → Bool
  | .str y => decide (y = z)
  | _ => false
def intOf : PyData → Int
  | .int i => i
  | _ => 0
def findDec : List ((Str × Nat) × S10) → PyData → PyData → Option S10
  | [], _, _ => none
  | p :: r, l, o => if (isS p.1.1 l && btw 0 ((p.1.2 : Int) - 1) o) = true then some p.2 else findDec r l o
def nextDec (r : List ((Str × Nat) × S10)) : PyData → Option S10
  | .tuple [l, o] => findDec r l o
  | _ => none
def nextS : S10 → PyData → Option S10
  | .few _, _ => none
  | .row _ xs, d => if btw 0 ((xs.length : Int) - 1) d = true then xs[(intOf d).toNat]? else none
  | .pow n x, d => if btw 0 ((n : Int) - 1) d = true then some x else none
  | .dec c xs, d => nextDec ((cnts c).zip xs) d
theorem btw_int {lo hi : Int} {d : PyData} (h : btw lo hi d = true) : ∃ i, d = .int i ∧ lo ≤ i ∧ i ≤ hi := by
  cases d with
  | int i =>
    have h' : (decide (lo ≤ i) && decide (i ≤ hi)) = true := h
    rw [Bool.and_eq_true] at h'
    exact ⟨i, rfl, of_decide_eq_true h'.1, of_decide_eq_true h'.2⟩
  | _ => cases h
theorem btw_mk {lo hi i : Int} (h1 : lo ≤ i) (h2 : i ≤ hi) : btw lo hi (.int i) = true := by
  show (decide (lo ≤ i) && decide (i ≤ hi)) = true
  rw [decide_eq_true h1, decide_eq_true h2]
  rfl
theorem enum_get : ∀ (xs : List S10) (k : Nat) (d : PyData) (e : S10), (d, e) ∈ enumS k xs ↔ ∃ j : Nat, d = .int ((k + j : Nat) : Int) ∧ xs[j]? = some e
  | [], k, d, e => by simp [enumS]
  | x :: xs, k, d, e => by
    rw [enumS, List.mem_cons, enum_get xs (k + 1) d e]
    constructor
    · rintro (h | ⟨j, h1, h2⟩)
      · cases h
        exact ⟨0, rfl, rfl⟩
      · exact ⟨j + 1, by rw [h1]; congr 1; omega, h2⟩
    · rintro ⟨j, h1, h2⟩
      cases j with
      | zero =>
        left
        rw [h1]
        cases h2
        rfl
      | succ j => exact .inr ⟨j, by rw [h1]; congr 1; omega, h2⟩
theorem isS_iff {z : Str} {d : PyData} : isS z d = true ↔ d = .str z := by
  cases d with
  | str y =>
    show decide (y = z) = true ↔ _
    rw [decide_eq_true_iff]
    constructor
    · rintro rfl
      rfl
    · intro h
      injection h
  | _ => exact ⟨(fun h => by cases h), (fun h => by cases h)⟩
theorem dec_mem {p : (Str × Nat) × S10} {d : PyData} {e : S10} : (d, e) ∈ decS p ↔ e = p.2 ∧ ∃ j : Nat, j < p.1.2 ∧ d = .tuple [.str p.1.1, .int (j : Nat)] := by
  unfold decS
  rw [List.mem_map]
  constructor
  · rintro ⟨j, hj, h⟩
    cases h
    exact ⟨rfl, j, List.mem_range.mp hj, rfl⟩
  · rintro ⟨rfl, j, hj, rfl⟩
    exact ⟨j, List.mem_range.mpr hj, rfl⟩
/-- the names of counts differ -/
def Diff : List ((Str × Nat) × S10) → Prop
  | [] => True
  | p :: r => (∀ q ∈ r, q.1.1 ≠ p.1.1) ∧ Diff r
theorem find_iff : ∀ {l : List ((Str × Nat) × S10)}, Diff l → ∀ (x y : PyData) (e : S10), findDec l x y = some e ↔ (.tuple [x, y], e) ∈ l.flatMap decS
  | [], _, x, y, e => by simp [findDec]
  | p :: r, hd, x, y, e => by
    rw [findDec, List.flatMap_cons, List.mem_append, dec_mem, ← find_iff hd.2 x y e]
    cases h : isS p.1.1 x && btw 0 ((p.1.2 : Int) - 1) y with
    | true =>
      rw [if_pos rfl]
      rw [Bool.and_eq_true] at h
      obtain ⟨i, rfl, h0, h1⟩ := btw_int h.2
      have hx := isS_iff.mp h.1
      subst hx
      constructor
      · intro he
        cases he
        exact .inl ⟨rfl, i.toNat, by omega, by rw [Int.toNat_of_nonneg h0]⟩
      · rintro (⟨rfl, _⟩ | hf)
        · rfl
        · have hm := (find_iff hd.2 _ _ e).mp hf
          obtain ⟨q, hq, hq2⟩ := List.mem_flatMap.mp hm
          obtain ⟨_, j, _, hj⟩ := dec_mem.mp hq2
          injection hj with hj
          injection hj with hj _
          injection hj with hj
          exact absurd hj.symm (hd.1 q hq)
    | false =>
      rw [if_neg Bool.false_ne_true]
      constructor
      · exact .inr
      · rintro (⟨rfl, j, hj, hd2⟩ | hf)
        · injection hd2 with hd2
          injection hd2 with h1 h2
          injection h2 with h2 _
          subst h1 h2
          have z : (isS p.1.1 (.str p.1.1) && btw 0 ((p.1.2 : Int) - 1) (.int (j : Nat))) = true := by
            rw [isS_iff.mpr rfl, btw_mk (by omega) (by omega)]
            rfl
          rw [z] at h
          cases h
        · exact hf
theorem diff_zip (c : Fin 3) (xs : List S10) : Diff ((cnts c).zip xs) := by
  match c, xs with
  | 0, [] => trivial
  | 0, [x] => exact ⟨(fun q h => by cases h), trivial⟩
  | 0, x :: y :: l => exact ⟨(fun q h => by rw [List.mem_singleton.mp h]; exact (by decide : ("b" : Str) ≠ "a")), ⟨(fun q h => by cases h), trivial⟩⟩
  | 1, [] => trivial
  | 1, [x] => exact ⟨(fun q h => by cases h), trivial⟩
  | 1, x :: y :: l => exact ⟨(fun q h => by rw [List.mem_singleton.mp h]; exact (by decide : ("b" : Str) ≠ "ab")), ⟨(fun q h => by cases h), trivial⟩⟩
  | 2, [] => trivial
  | 2, x :: l => exact ⟨(fun q h => by cases h), trivial⟩
theorem next_iff (s : S10) (d : PyData) (e : S10) : nextS s d = some e ↔ (d, e) ∈ nestS s := by
  cases s with
  | few i => simp [nextS, nestS]
  | row c xs =>
    show (if btw 0 ((xs.length : Int) - 1) d = true then xs[(intOf d).toNat]? else none) = some e ↔ (d, e) ∈ enumS 0 xs
    rw [enum_get]
    cases h : btw 0 ((xs.length : Int) - 1) d with
    | true =>
      rw [if_pos rfl]
      obtain ⟨i, rfl, h0, h1⟩ := btw_int h
      constructor
      · intro he
        exact ⟨i.toNat, by congr 1; omega, he⟩
      · rintro ⟨j, hj, he⟩
        injection hj with hj
        have : (intOf (.int i)).toNat = j := by
          show i.toNat = j
          omega
        rw [this]
        exact he
    | false =>
      rw [if_neg Bool.false_ne_true]
      constructor
      · intro z
        cases z
      · rintro ⟨j, rfl, he⟩
        have hl := (List.getElem?_eq_some_iff.mp he).1
        rw [btw_mk (by omega) (by omega)] at h
        cases h
  | pow n x =>
    show (if btw 0 ((n : Int) - 1) d = true then some x else none) = some e ↔ (d, e) ∈ (List.range n).map fun k => (PyData.int (k : Nat), x)
    rw [List.mem_map]
    cases h : btw 0 ((n : Int) - 1) d with
    | true =>
      rw [if_pos rfl]
      obtain ⟨i, rfl, h0, h1⟩ := btw_int h
      constructor
      · intro he
        cases he
        exact ⟨i.toNat, List.mem_range.mpr (by omega), by rw [Int.toNat_of_nonneg h0]⟩
      · rintro ⟨k, _, hk⟩
        cases hk
        rfl
    | false =>
      rw [if_neg Bool.false_ne_true]
      constructor
      · intro z
        cases z
      · rintro ⟨k, hk, he⟩
        cases he
        have := List.mem_range.mp hk
        rw [btw_mk (by omega) (by omega)] at h
        cases h
  | dec c xs =>
    have shape : ∀ d e, (d, e) ∈ ((cnts c).zip xs).flatMap decS → ∃ x y, d = .tuple [x, y] := fun d e h => by
      obtain ⟨q, _, hq2⟩ := List.mem_flatMap.mp h
      obtain ⟨_, j, _, hj⟩ := dec_mem.mp hq2
      exact ⟨_, _, hj⟩
    by_cases hs : ∃ x y, d = .tuple [x, y]
    · obtain ⟨x, y, rfl⟩ := hs
      exact find_iff (diff_zip c xs) x y e
    · constructor
      · intro h
        have h' : nextDec ((cnts c).zip xs) d = some e := h
        unfold nextDec at h'
        split at h'
        · rename_i l o
          exact absurd ⟨l, o, rfl⟩ hs
        · cases h'
      · intro h
        exact absurd (shape d e h) hs
/-! ### the part at a path -/
def partAt : S10 → List PyData → Option S10
  | s, [] => some s
  | s, d :: ds => match nextS s d with
    | none => none
    | some e => partAt e ds
theorem partAt_snoc : ∀ (ds : List PyData) (s : S10) (d : PyData), partAt s (ds ++ [d]) = (partAt s ds).bind fun e => nextS e d
  | [], s, d => by
    show (match nextS s d with | none => none | some e => partAt e []) = nextS s d
    cases nextS s d <;> rfl
  | c :: ds, s, d => by
    show (match nextS s c with | none => none | some e => partAt e (ds ++ [d])) = (match nextS s c with | none => none | some e => partAt e ds).bind fun e => nextS e d
    cases nextS s c with
    | none => rfl
    | some e => exact partAt_snoc ds e d
end KA
set_option maxRecDepth 100000
set_option maxHeartbeats 4000000
namespace KA
open PySem PySem.Spec PyProof.Rows
open PySem.AutoSeq1 (wpAny_loadPart')
/-! ### a dict beside a text -/
theorem sub_str_dict : isSubtype (.type "str") (.type "dict") = pure false := by
  rw [isSubtype_type]
  kernel_rfl
theorem sub_dict_str : isSubtype (.type "dict") (.type "str") = pure false := by
  rw [isSubtype_type]
  kernel_rfl
theorem dict_no_str (l : Addr) (dd : Option Addr) (es : Array DictEntry) (ep : Nat) (sl : Array (Option Value)) (b : Str) (u : Tok) :
    Meets (Builtin.«dict.__eq__» ⟨[.ref l, .str b u], []⟩) (fun _ R s => s.heap.get? l = some { cls := .type "dict", dict := dd, data := .dict es ep, slots := sl } ∧ R (.ok (.ret .notImplemented)) s) :=
  .of_wp fun prog w A R s h => by
    obtain ⟨hp, g, d, tk, os⟩ := s
    obtain ⟨hl, h⟩ := h
    have f1 := sub_str_dict
    wp_walk using wpAny_loadPart' hl
    exact ⟨_, rfl, h⟩
theorem str_no_dict (l : Addr) (dd : Option Addr) (es : Array DictEntry) (ep : Nat) (sl : Array (Option Value)) (b : Str) (u : Tok) :
    Meets (Builtin.«str.__eq__» ⟨[.str b u, .ref l], []⟩) (fun _ R s => s.heap.get? l = some { cls := .type "dict", dict := dd, data := .dict es ep, slots := sl } ∧ R (.ok (.ret .notImplemented)) s) :=
  .of_wp fun prog w A R s h => by
    obtain ⟨hp, g, d, tk, os⟩ := s
    obtain ⟨hl, h⟩ := h
    wp_walk using wpAny_loadPart' hl, wpAny_load hl
    exact ⟨_, rfl, h⟩
end KA
namespace PySem.SeqAt
open PySem PyProof.Rows
theorem k2_dict_str {A : Around} {s : Shared} {l : Addr} {dd : Option Addr} {es : Array DictEntry} {ep : Nat} {sl : Array (Option Value)} (b : Str) (u : Tok) (hl : s.heap.get? l = some { cls := .type "dict", dict := dd, data := .dict es ep, slots := sl }) (hu : A.units < cLine) :
    RcAt A s (.ref l) (.str b u) false := fun prog w E Q h =>
  rc_eq_decline_or (k := false) ⟨_, hl, rfl⟩ (typeIs_str s b u) (by decide) KA.sub_str_dict PySem.F.slot_dict_eq F.slot_str_eq_refl
    (fun _ hq => call_meets PySem.F.slot_dict_eq ⟨_, hl, rfl⟩ PySem.F.entry_dict_eq (PySem.F.args_dict_eq_2 _ _) (KA.dict_no_str l dd es ep sl b u) ⟨hl, hq⟩)
    (fun _ hq => call_meets F.slot_str_eq_refl (typeIs_str s b u) F.entry_str_eq (F.args_str_eq_2 _ _) (KA.str_no_dict l dd es ep sl b u) ⟨hl, hq⟩)
    (fun _ hq => wpAny_of_eq (rfl : isSame (.ref l) (.str b u) = pure false) hq) (.inr hu) h
end PySem.SeqAt
namespace KA
open PySem PySem.Spec PyProof.Rows L2
/-- any value beside a text -/
def eqStr (z : Str) : PyData → Bool
  | .str x => x == z
  | _ => false
def rEqStr : R2 := fun x y H Q => ∃ d z, Dat H x d ∧ y = .str z ∧ Q (.bl (eqStr z d)) H
section
variable {X : Cx}
theorem op_eqStr (hu : X.A.units < cLine) : OpR X (compareOp .Eq) rEqStr := by
  intro pins s σ H x y v u Q I rx ry h
  obtain ⟨d, z, hd, rfl, q⟩ := h
  obtain ⟨t, rfl⟩ := ry
  have fin : ∀ k : Bool, k = eqStr z d → EP X pins σ Q (.bool k) s := fun k e => ⟨.bl k, H, I, rfl, by rw [e]; exact q⟩
  cases hd with
  | non =>
    cases rx
    exact PySem.SeqAt.RcAt.none_str z t _ _ _ _ (fin _ rfl)
  | bl b =>
    cases rx
    exact PySem.SeqAt.RcAt.bool_str b z t _ _ _ _ (fin _ rfl)
  | int i =>
    obtain ⟨t2, rfl⟩ := rx
    exact PySem.SeqAt.RcAt.int_str i t2 z t _ _ _ _ (fin _ rfl)
  | str x hx =>
    obtain ⟨t2, rfl⟩ := rx
    exact PySem.SeqAt.RcAt.str_str x t2 z t _ _ _ _ (fin _ rfl)
  | @lst a xs ds ha hx =>
    cases rx
    obtain ⟨its, rv, p, _⟩ := I.list (SqL.of ha)
    exact PySem.SeqAt.RcAt.list_str z t p.isList hu _ _ _ _ (fin _ rfl)
  | @tup a xs ds ha hx =>
    cases rx
    obtain ⟨its, rv, p, _⟩ := I.tuple (SqT.of ha)
    exact PySem.SeqAt.RcAt.tuple_str z t p hu _ _ _ _ (fin _ rfl)
  | @d0 a ha =>
    cases rx
    obtain ⟨_, ns, vs, kv, o, es, ep, ho, hx, hd, hk, hp, _⟩ := (show ObjOk X.prog X.w H s.heap a (.dK []) from I.hok a _ ha)
    obtain ⟨oc, od, dt, sl⟩ := o
    have e1 : oc = .type "dict" := hx.1
    have e2 : dt = .dict es ep := hd
    subst e1 e2
    exact PySem.SeqAt.k2_dict_str z t ho hu _ _ _ _ (fin _ rfl)
end
end KA
namespace PySem.SeqAt
open PySem PyProof.Rows
theorem k2_str_dict {A : Around} {s : Shared} {l : Addr} {dd : Option Addr} {es : Array DictEntry} {ep : Nat} {sl : Array (Option Value)} (b : Str) (u : Tok) (hl : s.heap.get? l = some { cls := .type "dict", dict := dd, data := .dict es ep, slots := sl }) (hu : A.units < cLine) :
    EqAt A s (.str b u) (.ref l) false := fun prog w E Q h => by
  unfold eqBool
  refine wpAny_holding (wpAny_ite_split (fun hab => absurd (eq_of_beq hab) nofun) fun _ => wpAny_bind ?_)
  exact rc_eq_decline_or (k := false) (typeIs_str s b u) ⟨_, hl, rfl⟩ (by decide) KA.sub_dict_str F.slot_str_eq PySem.F.slot_dict_eq_refl
    (fun _ hq => call_meets F.slot_str_eq (typeIs_str s b u) F.entry_str_eq (F.args_str_eq_2 _ _) (KA.str_no_dict l dd es ep sl b u) ⟨hl, hq⟩)
    (fun _ hq => call_meets PySem.F.slot_dict_eq_refl ⟨_, hl, rfl⟩ PySem.F.entry_dict_eq (PySem.F.args_dict_eq_2 _ _) (KA.dict_no_str l dd es ep sl b u) ⟨hl, hq⟩)
    (fun _ hq => wpAny_of_eq (rfl : isSame (.str b u) (.ref l) = pure false) hq) (.inr hu) (wpAny_truthy_bool h)
end PySem.SeqAt
namespace KA
open PySem PySem.Spec PyProof.Rows L2
section
variable {X : Cx}
/-- a text among the items, held against any value -/
theorem str_eqAt {pins : List (Addr × Obj)} {σ : L2.St} {H : Hp} {s : Shared} {x : V} {v : Value} {d : PyData} (I : Inv X pins σ H s) (hd : Dat H x d) (rx : RelV x v) {A : Around} (hu : A.units < cLine) (z : Str) (t : Tok) : SeqAt.EqAt A s (.str z t) v (eqStr z d) := by
  cases hd with
  | non =>
    cases rx
    exact SeqAt.EqAt.str_none z t
  | bl b =>
    cases rx
    exact SeqAt.EqAt.str_bool z t b
  | int i =>
    obtain ⟨t2, rfl⟩ := rx
    exact SeqAt.EqAt.str_int z t i t2
  | str y hy =>
    obtain ⟨t2, rfl⟩ := rx
    have e : eqStr z (.str y) = (z == y) := by
      show (y == z) = (z == y)
      by_cases h : y = z
      · rw [h]
      · rw [beq_eq_false_iff_ne.mpr h, beq_eq_false_iff_ne.mpr (Ne.symm h)]
    rw [e]
    exact SeqAt.EqAt.str_str z t y t2
  | @lst a xs ds ha hx =>
    cases rx
    obtain ⟨its, rv, p, _⟩ := I.list (SqL.of ha)
    exact SeqAt.EqAt.str_list z t p.isList hu
  | @tup a xs ds ha hx =>
    cases rx
    obtain ⟨its, rv, p, _⟩ := I.tuple (SqT.of ha)
    exact SeqAt.EqAt.str_tuple z t p hu
  | @d0 a ha =>
    cases rx
    obtain ⟨_, ns, vs, kv, o, es, ep, ho, hx, hd, hk, hp, _⟩ := (show ObjOk X.prog X.w H s.heap a (.dK []) from I.hok a _ ha)
    obtain ⟨oc, od, dt, sl⟩ := o
    have e1 : oc = .type "dict" := hx.1
    have e2 : dt = .dict es ep := hd
    subst e1 e2
    exact SeqAt.k2_str_dict z t ho hu
/-- x in (texts), x not in (texts) -/
def rInStrs (neg : Bool) : R2 := fun x y H Q => ∃ (d : PyData) (p : Addr) (zs : List Str), Dat H x d ∧ y = .ref p ∧ H p = some (.tup (zs.map V.str)) ∧ Q (.bl (if neg then !zs.any fun z => eqStr z d else zs.any fun z => eqStr z d)) H
def eStr (d : PyData) : Value → Bool
  | .str z _ => eqStr z d
  | _ => false
theorem any_strs {d : PyData} : ∀ {zs : List Str} {its : List Value}, Vals (zs.map V.str) its → its.any (eStr d) = zs.any fun z => eqStr z d
  | [], _, .nil => rfl
  | z :: zs, _, .cons r rs => by
    obtain ⟨t, rfl⟩ := r
    rw [List.any_cons, List.any_cons, any_strs rs]
    rfl
theorem mem_strs {zs : List Str} {its : List Value} (r : Vals (zs.map V.str) its) : ∀ y ∈ its, ∃ z t, y = .str z t := by
  intro y hy
  obtain ⟨i, hi⟩ := List.mem_iff_getElem?.mp hy
  have hl := r.length
  have hlt := (List.getElem?_eq_some_iff.mp hi).1
  obtain ⟨x, hx⟩ : ∃ x, (zs.map V.str)[i]? = some x := ⟨_, List.getElem?_eq_getElem (by omega)⟩
  obtain ⟨u, hu, ru⟩ := r.get hx
  rw [hi] at hu
  cases hu
  rw [List.getElem?_map] at hx
  cases e : zs[i]? with
  | none =>
    rw [e] at hx
    cases hx
  | some z =>
    rw [e] at hx
    cases hx
    obtain ⟨t, rfl⟩ := ru
    exact ⟨z, t, rfl⟩
theorem op_notInStrs (hu : X.A.units + 1 < cLine) : OpR X (compareOp .NotIn) (rInStrs true) := by
  intro pins s σ H x y v u Q I rx ry h
  obtain ⟨d, p, zs, hd, rfl, hp, q⟩ := h
  cases ry
  obtain ⟨its, r, pl, _⟩ := I.tuple (SqT.of hp)
  refine SeqAt.notIn_tupleAt (eStr d) pl (fun w hw => ?_) ⟨.bl _, H, I, rfl, ?_⟩
  · obtain ⟨z, t, rfl⟩ := mem_strs r w (by simpa using hw)
    exact str_eqAt I hd rx hu z t
  · rw [show its.toArray.any (eStr d) = its.any (eStr d) by simp, any_strs r]
    exact q
theorem op_inStrs (hu : X.A.units + 1 < cLine) : OpR X (compareOp .In) (rInStrs false) := by
  intro pins s σ H x y v u Q I rx ry h
  obtain ⟨d, p, zs, hd, rfl, hp, q⟩ := h
  cases ry
  obtain ⟨its, r, pl, _⟩ := I.tuple (SqT.of hp)
  refine SeqAt.in_tupleAt (eStr d) pl (fun w hw => ?_) ⟨.bl _, H, I, rfl, ?_⟩
  · obtain ⟨z, t, rfl⟩ := mem_strs r w (by simpa using hw)
    exact str_eqAt I hd rx hu z t
  · rw [show its.toArray.any (eStr d) = its.any (eStr d) by simp, any_strs r]
    exact q
end
end KA
namespace KA
open PySem PySem.Spec PyProof.Rows L2
/-! ### promises -/
/-- a predicate of one value; no tracked object changes -/
def spP (f : PyData → Bool) : Sp := fun vs H Q _ => ∃ (v : V) (d : PyData), vs = [v] ∧ Dat H v d ∧ ∀ H', Same H H' → Q (.bl (f d)) H'
def spBtw : Sp := fun vs H Q _ => ∃ (v : V) (d : PyData) (lo hi : Int), vs = [v, .int lo, .int hi] ∧ Dat H v d ∧ ∀ H', Same H H' → Q (.bl (btw lo hi d)) H'
/-- a tuple of lo to hi items -/
def tupOf (lo hi : Int) : PyData → Bool
  | .tuple ds => decide (lo ≤ (ds.length : Int)) && decide ((ds.length : Int) ≤ hi)
  | _ => false
def spTup : Sp := fun vs H Q _ => ∃ (v : V) (d : PyData) (lo hi : Int), vs = [v, .int lo, .int hi] ∧ Dat H v d ∧ ∀ H', Same H H' → Q (.bl (tupOf lo hi d)) H'
abbrev sIsInt : Stmt := top 3
abbrev sBtw : Stmt := top 4
abbrev sTup : Stmt := top 6
section
variable {P : Program} {w : World} {K : PySem.W.Frag} {mg : Str → Option Value} {base : Heap}
theorem scIsInt : FnScope ["value"] ["value"] (defScope sIsInt) := ⟨rfl, rfl, rfl, by decide +kernel, rfl, by decide +kernel, by decide +kernel⟩
theorem scBtw : FnScope ["value", "low", "high"] ["value", "low", "high"] (defScope sBtw) := ⟨rfl, rfl, rfl, by decide +kernel, rfl, by decide +kernel, by decide +kernel⟩
theorem scTup : FnScope ["value", "least", "most"] ["value", "least", "most"] (defScope sTup) := ⟨rfl, rfl, rfl, by decide +kernel, rfl, by decide +kernel, by decide +kernel⟩
theorem ok_isint {f : Addr} {fd : FuncData} (F : Fun K "is_integer" "is_integer" sIsInt f fd) (T : Nm mg) : FnOk P w K mg base CX0 1 f fd ["value"] (spP isInt) := by
  refine F.ok scIsInt (fun vs H Q E h => ?_) (fun cdv A outer s H vs Q E hr h => ?_)
  · obtain ⟨v, d, rfl, _⟩ := h
    rfl
  · obtain ⟨v, d, rfl, hd, q⟩ := h
    refine ⟨_, pss_one (ps_ret (pe_and (pe_callB call_isi (by rfl) T.isinstance boot_isinstance (pa_cons (pv 0) (pa_cons (pe_bltn (v := .ty "int") rfl T.int (by decide +kernel) rfl) pa_nil)))
      (pe_one (pe_not (pe_callB call_isi (by rfl) T.isinstance boot_isinstance (pa_cons (pv 0) (pa_cons (pe_bltn (v := .ty "bool") rfl T.bool (by decide +kernel) rfl) pa_nil))))))), ?_⟩
    refine ⟨_, rfl, v, .ty "int", _, _, _, rfl, .ty _, hd.ty, kit_int _ d, _, rfl, ?_⟩
    have q' := q H fun _ _ e => e
    cases d with
    | int i => exact ⟨_, rfl, v, .ty "bool", _, _, _, rfl, .ty _, hd.ty, kit_bool _ _, _, rfl, q'⟩
    | bool b => exact ⟨_, rfl, v, .ty "bool", _, _, _, rfl, .ty _, hd.ty, kit_bool _ _, _, rfl, q'⟩
    | none => exact q'
    | str x => exact q'
    | list ds => exact q'
    | tuple ds => exact q'
    | dict kv => exact q'
theorem ok_btw {f fI : Addr} {fd fdI : FuncData} (F : Fun K "is_between" "is_between" sBtw f fd) (T : Nm mg) (I : DefOk K mg "is_integer" sIsInt ["value"] fI fdI) : FnOk P w K mg base CX0 2 f fd ["value", "low", "high"] spBtw := by
  have GI : FnOk P w K mg base CX0 1 fI fdI ["value"] (spP isInt) := ok_isint I.F T
  refine F.ok scBtw (fun vs H Q E h => ?_) (fun cdv A outer s H vs Q E hr h => ?_)
  · obtain ⟨v, d, lo, hi, rfl, _⟩ := h
    rfl
  · obtain ⟨v, d, lo, hi, rfl, hd, q⟩ := h
    refine ⟨_, pss_one (ps_ret (pe_and (pe_call GI hr rfl I.g I.F.kp I.b .nil pass0 (pa_cons (pv 0) pa_nil)) (pe_one (pe_chain op_le op_le (pv 1) (pv 0) (pv 2))))), ?_⟩
    refine ⟨_, rfl, v, d, rfl, hd, fun H' S => ⟨_, rfl, ?_⟩⟩
    have q' := q H' S
    cases d with
    | int i =>
      cases hd
      refine ⟨_, rfl, _, rfl, _, _, rfl, rfl, _, rfl, ?_⟩
      by_cases h : lo ≤ i
      · have e : btw lo hi (.int i) = decide (i ≤ hi) := by
          show (decide (lo ≤ i) && decide (i ≤ hi)) = _
          rw [decide_eq_true h, Bool.true_and]
        rw [e] at q'
        rw [if_pos (decide_eq_true h)]
        exact ⟨_, rfl, _, _, rfl, rfl, q'⟩
      · have e : btw lo hi (.int i) = false := by
          show (decide (lo ≤ i) && decide (i ≤ hi)) = _
          rw [decide_eq_false h, Bool.false_and]
        rw [e] at q'
        rw [if_neg (by rw [decide_eq_false h]; exact Bool.false_ne_true)]
        exact q'
    | bool b => exact q'
    | none => exact q'
    | str x => exact q'
    | list ds => exact q'
    | tuple ds => exact q'
    | dict kv => exact q'
theorem ok_tup {f : Addr} {fd : FuncData} (F : Fun K "is_tuple" "is_tuple" sTup f fd) (T : Nm mg) : FnOk P w K mg base CX0 1 f fd ["value", "least", "most"] spTup := by
  refine F.ok scTup (fun vs H Q E h => ?_) (fun cdv A outer s H vs Q E hr h => ?_)
  · obtain ⟨v, d, lo, hi, rfl, _⟩ := h
    rfl
  · obtain ⟨v, d, lo, hi, rfl, hd, q⟩ := h
    refine ⟨_, pss_one (ps_ret (pe_and (pe_callB call_isi (by rfl) T.isinstance boot_isinstance (pa_cons (pv 0) (pa_cons (pe_bltn (v := .ty "tuple") rfl T.tuple (by decide +kernel) rfl) pa_nil)))
      (pe_one (pe_chain op_le op_le (pv 1) (pe_callB call_len_seq (by rfl) T.len PySem.boot_len (pa_cons (pv 0) pa_nil)) (pv 2))))), ?_⟩
    have q' := q H fun _ _ e => e
    refine ⟨_, rfl, v, .ty "tuple", _, _, _, rfl, .ty _, hd.ty, kit_tuple _ d, _, rfl, ?_⟩
    cases d with
    | tuple ds =>
      cases hd with
      | @tup a xs _ ha hx =>
        have el : (xs.length : Int) = (ds.length : Int) := by rw [hx.len]
        refine ⟨_, rfl, _, rfl, a, xs, rfl, .inr (SqT.of ha), _, _, rfl, rfl, _, rfl, ?_⟩
        rw [el]
        by_cases h : lo ≤ (ds.length : Int)
        · have e : tupOf lo hi (.tuple ds) = decide ((ds.length : Int) ≤ hi) := by
            show (decide (lo ≤ (ds.length : Int)) && decide ((ds.length : Int) ≤ hi)) = _
            rw [decide_eq_true h, Bool.true_and]
          rw [e] at q'
          rw [if_pos (decide_eq_true h)]
          exact ⟨_, rfl, _, _, rfl, rfl, q'⟩
        · have e : tupOf lo hi (.tuple ds) = false := by
            show (decide (lo ≤ (ds.length : Int)) && decide ((ds.length : Int) ≤ hi)) = _
            rw [decide_eq_false h, Bool.false_and]
          rw [e] at q'
          rw [if_neg (by rw [decide_eq_false h]; exact Bool.false_ne_true)]
          exact q'
    | int i => exact q'
    | bool b => exact q'
    | none => exact q'
    | str x => exact q'
    | list ds => exact q'
    | dict kv => exact q'
end
end KA
set_option maxRecDepth 100000
set_option maxHeartbeats 4000000
namespace KA
open PySem PySem.Spec PyProof.Rows L2
/-- [f(x) for x in a tuple] -/
theorem lc_map {K : PySem.W.Frag} {H : Hp} {a : Addr} {xs : List V} {ds : List PyData} {g : TG} {te : TE} {vs : List Nat} {σ : L2.St} {D : Addr} {Qd : Hp → Prop} (f : PyData → V) (ha : H a = some (.tup xs)) (hx : DatAll H xs ds) (hz : xs.length ≤ 1000000) (nD : H D = none)
    (hs : ∀ (i : Nat) (x : V) (d : PyData) (Hx : Hp), xs[i]? = some x → ds[i]? = some d → Dat Hx x d → Same H Hx → ∀ R : VK, (∀ H', Same Hx H' → R (f d) H') → g x (wipe σ vs) Hx fun σ2 H2 => wipe σ2 vs = wipe σ vs ∧ te σ2 H2 R)
    (mono : ∀ (x : V) (Hx : Hp) (A B : L2.St → Hp → Prop), (∀ σ2 H2, A σ2 H2 → B σ2 H2) → g x (wipe σ vs) Hx A → g x (wipe σ vs) Hx B)
    (hd : ∀ Hx, Same H Hx → Hx D = some (.lst (ds.map f)) → Qd Hx) :
    ∃ W : Nat → Nat → Hp → Prop, (∃ m, W 0 m (upd H D (.lst []))) ∧ ∀ i m H, W i m H →
      ((Itt K a).stop i H ∧ Qd H) ∨ ((Itt K a).go i H ∧ ∃ Nx : Hp → Prop, (∀ H', Nx H' → ∃ m', m' < m ∧ W (i + 1) m' H') ∧ ∀ x H', (Itt K a).yld i H x H' → g x (wipe σ vs) H' fun σ2 H2 => wipe σ2 vs = wipe σ vs ∧ tYes σ2 H2 fun b H3 =>
        if b = true then te σ2 H3 fun y H4 => ∃ acc, H4 D = some (.lst acc) ∧ acc.length < sizeLine ∧ Nx (upd H4 D (.lst (acc ++ [y]))) else Nx H3) := by
  refine lc_tup (K := K) (a := a) (xs := xs) (fun j Hx => Same H Hx ∧ Hx D = some (.lst ((ds.take j).map f))) ⟨same_new nD, upd_same⟩ (fun j Hx _ ⟨S, _⟩ => SqT.of (S _ _ ha)) ?_ ?_
  · rintro i x Hx hi ⟨S, hD⟩
    obtain ⟨d, hdi, td⟩ := hx.get hi
    refine mono x Hx _ _ (fun σ2 H2 h => ⟨h.1, ?_⟩) (hs i x d Hx hi hdi (td.same S) S (fun y H4 => ∃ acc, H4 D = some (.lst acc) ∧ acc.length < sizeLine ∧ Same H (upd H4 D (.lst (acc ++ [y]))) ∧ upd H4 D (.lst (acc ++ [y])) D = some (.lst ((ds.take (i + 1)).map f))) fun H' S' => ?_)
    · dsimp only [tYes]
      first
        | exact if_t rfl h.2
        | exact h.2
    · have hi' : i < xs.length := (List.getElem?_eq_some_iff.mp hi).1
      refine ⟨_, S' _ _ hD, ?_, grow nD (S.trans S'), ?_⟩
      · rw [List.length_map, List.length_take, sizeLine_eq]
        omega
      · rw [upd_same, List.take_add_one, hdi]
        simp
  · rintro Hx ⟨S, hD⟩
    refine hd Hx S ?_
    rw [hD, hx.len, List.take_length]
theorem mono_name {i : Nat} {vs : List Nat} {σ : L2.St} : ∀ (x : V) (Hx : Hp) (A B : L2.St → Hp → Prop), (∀ σ2 H2, A σ2 H2 → B σ2 H2) → gName i x (wipe σ vs) Hx A → gName i x (wipe σ vs) Hx B := fun x Hx A B h a => h _ _ a
/-- any part of a tuple -/
theorem slAny_of {K : PySem.W.Frag} {H : Hp} {a : Addr} {xs : List V} {lo hi : Option Int} {Q : VK} (ha : H a = some (.tup xs)) (hq : ∀ (b : Addr) (Hb : Hp), Same H Hb → Hb b = some (.tup (cutV xs lo hi)) → Q (.ref b) Hb) : rSlA K (.ref a) lo hi H Q := by
  refine ⟨a, xs, rfl, SqT.of ha, fun z => hq a H (Same.refl H) ?_, fun _ p np => hq p _ (same_new np) upd_same⟩
  rw [ha]
  have e : cutV xs lo hi = xs := by
    unfold cutV
    rw [z.1, z.2, List.drop_zero, Nat.sub_zero, List.take_length]
  rw [e]
/-- two tuples, one behind the other -/
theorem catA_of {K : PySem.W.Frag} {H : Hp} {a b : Addr} {xs ys : List V} {Q : VK} (ha : H a = some (.tup xs)) (hb : H b = some (.tup ys)) (hz : xs.length + ys.length ≤ sizeLine) (hq : ∀ (c : Addr) (Hc : Hp), Same H Hc → Hc c = some (.tup (xs ++ ys)) → Q (.ref c) Hc) : rCatA K (.ref a) (.ref b) H Q := by
  refine ⟨a, b, xs, ys, rfl, rfl, SqT.of ha, SqT.of hb, hz, fun e => hq b H (Same.refl H) ?_, fun _ e => hq a H (Same.refl H) ?_, fun _ _ p np => hq p _ (same_new np) upd_same⟩
  · rw [hb, e, List.nil_append]
  · rw [ha, e, List.append_nil]
/-! ### questions of the parts -/
abbrev s_takes : Stmt := top 18
abbrev s_asubset : Stmt := top 19
abbrev s_aword : Stmt := top 20
abbrev s_acycle : Stmt := top 23
abbrev s_amatch : Stmt := top 24
abbrev s_atree : Stmt := top 26
abbrev s_achoice : Stmt := top 29
abbrev Tops : Type := List (Str × Int)
def kvT (t : Tops) : List (Key × V) := t.map fun p => (.inr p.1, .int p.2)
def takesB (t : Tops) (z : Str) (as : List PyData) : Bool := match t.lookup z, as with
  | some m, [a] => btw 0 m a
  | _, _ => false
theorem kv_get : ∀ (t : Tops) (z : Str), valV (kvT t) (.inr z) = (t.lookup z).map V.int
  | [], z => rfl
  | p :: t, z => by
    unfold kvT
    rw [List.map_cons, List.lookup]
    by_cases h : z = p.1
    · rw [show (z == p.1) = true by rw [h]; exact beq_self_eq_true _]
      exact valV_pos (by rw [h])
    · rw [beq_eq_false_iff_ne.mpr h]
      rw [valV_neg (fun e => h (by injection e with e; exact e.symm))]
      exact kv_get t z
def spTakes : Sp := fun vs H Q _ => ∃ (t a : Addr) (tp : Tops) (z : Str) (xs : List V) (as : List PyData), vs = [.ref t, .str z, .ref a] ∧ H t = some (.dK (kvT tp)) ∧ H a = some (.tup xs) ∧ DatAll H xs as ∧ ∀ H', Same H H' → Q (.bl (takesB tp z as)) H'
/-- what a question's def gets: a part, the word, the arguments -/
def spQ (ok : Hp → List V → Prop) (f : Str → List PyData → Bool) : Sp := fun vs H Q _ => ∃ (a0 a : Addr) (ps : List V) (z : Str) (xs : List V) (as : List PyData), vs = [.ref a0, .str z, .ref a] ∧ H a0 = some (.tup ps) ∧ ok H ps ∧ z.length ≤ 1000 ∧ H a = some (.tup xs) ∧ DatAll H xs as ∧ ∀ H', Same H H' → Q (.bl (f z as)) H'
def subsetB (n k : Int) (z : Str) (as : List PyData) : Bool := takesB [("contains", n - 1), ("rank", n), ("select", k - 1)] z as
def cycleB (n : Int) (z : Str) (as : List PyData) : Bool := takesB [("successor", n - 1), ("predecessor", n - 1)] z as
def matchB (n : Int) (z : Str) (as : List PyData) : Bool := takesB [("partner", 2 * n - 1)] z as
def treeB (n : Int) (z : Str) (as : List PyData) : Bool := takesB [("parent", n - 1)] z as && !decide (intOf (as.headD .none) = 0)
def choiceB (z : Str) (as : List PyData) : Bool := decide (z = "selected") && decide (as.length = 0)
def totC (cs : Cn) : Int := (cs.map fun c => (c.2 : Int)).sum
def selB (cs : Cn) (l o : PyData) : Bool := cs.any fun c => eqStr c.1 l && btw 0 ((c.2 : Int) - 1) o
def wordB (cs : Cn) (z : Str) (as : List PyData) : Bool := if (decide (z = "select") && decide (as.length = 2)) = true then selB cs (as.getD 0 .none) (as.getD 1 .none) else takesB [("letter", totC cs - 1), ("prefix", totC cs), ("entry", totC cs - 1)] z as
def okSub (n k : Int) : Hp → List V → Prop := fun _ ps => ∃ x0, ps = [x0, .int n, .int k]
def okNum (n : Int) : Hp → List V → Prop := fun _ ps => ∃ x0 r, ps = x0 :: .int n :: r
def okCnt (cs : Cn) : Hp → List V → Prop := fun H ps => ∃ x0 x1 r, ps = x0 :: x1 :: r ∧ Dat H x1 (cntsD cs)
section
variable {P : Program} {w : World} {K : PySem.W.Frag} {mg : Str → Option Value} {base : Heap}
theorem sc_takes : FnScope ["tops", "word", "arguments"] ["tops", "word", "arguments"] (defScope s_takes) := ⟨rfl, rfl, rfl, by decide +kernel, rfl, by decide +kernel, by decide +kernel⟩
theorem sc_asubset : FnScope ["part", "word", "arguments", "n", "k"] ["part", "word", "arguments"] (defScope s_asubset) := ⟨rfl, rfl, rfl, by decide +kernel, rfl, by decide +kernel, by decide +kernel⟩
theorem sc_aword : FnScope ["part", "word", "arguments", "counts", "n", "letter", "occurrence", "pair"] ["part", "word", "arguments"] (defScope s_aword) := ⟨rfl, rfl, rfl, by decide +kernel, rfl, by decide +kernel, by decide +kernel⟩
theorem sc_acycle : FnScope ["part", "word", "arguments"] ["part", "word", "arguments"] (defScope s_acycle) := ⟨rfl, rfl, rfl, by decide +kernel, rfl, by decide +kernel, by decide +kernel⟩
theorem sc_amatch : FnScope ["part", "word", "arguments"] ["part", "word", "arguments"] (defScope s_amatch) := ⟨rfl, rfl, rfl, by decide +kernel, rfl, by decide +kernel, by decide +kernel⟩
theorem sc_atree : FnScope ["part", "word", "arguments"] ["part", "word", "arguments"] (defScope s_atree) := ⟨rfl, rfl, rfl, by decide +kernel, rfl, by decide +kernel, by decide +kernel⟩
theorem sc_achoice : FnScope ["part", "word", "arguments"] ["part", "word", "arguments"] (defScope s_achoice) := ⟨rfl, rfl, rfl, by decide +kernel, rfl, by decide +kernel, by decide +kernel⟩
theorem ok_takes {f fB : Addr} {fd fdB : FuncData} (F : Fun K "takes_index" "takes_index" s_takes f fd) (T : Nm mg) (B : DefOk K mg "is_between" sBtw ["value", "low", "high"] fB fdB) (GB : FnOk P w K mg base CX0 2 fB fdB ["value", "low", "high"] spBtw) : FnOk P w K mg base CX0 3 f fd ["tops", "word", "arguments"] spTakes := by
  refine F.ok sc_takes (fun vs H Q E h => ?_) (fun cdv A outer s H vs Q E hr h => ?_)
  · obtain ⟨t, a, tp, z, xs, as, rfl, _⟩ := h
    rfl
  · obtain ⟨t, a, tp, z, xs, as, rfl, ht, ha, hx, q⟩ := h
    have hu1 := hu_of hr
    refine ⟨_, (pss_one (ps_ret (pe_and (pe_cmp (pc_din hu1 (pv 1) (pv 0)) rfl) (pe_and (pe_cmpR op_eq (pe_callB call_len_seq (by rfl) T.len PySem.boot_len (pa_cons (pv 2) pa_nil)) pe_int (nomark _)) (pe_one (pe_call GB hr rfl B.g B.F.kp B.b .nil pass0 (pa_cons (pe_ix ix_tup (pv 2) pe_int (fun _ _ => rfl)) (pa_cons pe_int (pa_cons (pe_dget hu1 (pv 0) (pv 1) (fun _ _ => rfl)) pa_nil))))))))), ?_⟩
    have q0 := q H (Same.refl H)
    refine ⟨_, rfl, _, rfl, t, _, rfl, DGet.k (k := .inr z) ht, _, rfl, ?_⟩
    rw [kv_get]
    unfold takesB at q q0
    cases e : tp.lookup z with
    | none =>
      rw [e] at q0
      exact if_f rfl q0
    | some m =>
      rw [e] at q q0
      refine if_t rfl ⟨_, rfl, a, xs, rfl, .inr (SqT.of ha), rfl, _, rfl, ?_⟩
      match as, xs, hx, q, q0 with
      | [], [], _, q, q0 => exact if_f rfl q0
      | [d], [x], .cons dx .nil, q, q0 =>
        refine if_t rfl ⟨_, rfl, a, _, _, x, rfl, rfl, SqT.of ha, atI_nat (j := 0) rfl, _, rfl, _, rfl, t, .int m, rfl, ?_, x, d, 0, m, rfl, dx, fun H' S => q H' S⟩
        have g := DGet.k (k := .inr z) ht
        rw [kv_get, e] at g
        exact g
      | d :: d2 :: ds, x :: x2 :: xs, _, q, q0 =>
        refine if_f (decide_eq_false fun y => ?_) q0
        injection y with y
        rw [List.length_cons, List.length_cons] at y
        omega
theorem ok_asubset {n k : Int} {f fT : Addr} {fd fdT : FuncData} (F : Fun K "asks_subset" "asks_subset" s_asubset f fd) (T : DefOk K mg "takes_index" s_takes ["tops", "word", "arguments"] fT fdT) (G : FnOk P w K mg base CX0 3 fT fdT ["tops", "word", "arguments"] spTakes) : FnOk P w K mg base CX0 4 f fd ["part", "word", "arguments"] (spQ (okSub n k) (subsetB n k)) := by
  refine F.ok sc_asubset (fun vs H Q E h => ?_) (fun cdv A outer s H vs Q E hr h => ?_)
  · obtain ⟨a0, a, ps, z, xs, as, rfl, _⟩ := h
    rfl
  · obtain ⟨a0, a, ps, z, xs, as, rfl, h0, ⟨x0, rfl⟩, hz, ha, hx, q⟩ := h
    refine ⟨_, (pss_cons (ps_asg (pe_slice sl_tupA (pv 0) (po_some pe_int) po_none) (pg_tup rfl (pgs_cons (pg_name (i := 3) sc_asubset.nd rfl (Or.inl rfl)) (pgs_cons (pg_name (i := 4) sc_asubset.nd rfl (Or.inl rfl)) pgs_nil))))
      (pss_one (ps_ret (pe_call G hr rfl T.g T.F.kp T.b .nil pass0 (pa_cons (pe_disp (pps_cons pe_str (pe_op op_sub (pv 3) pe_int) (pps_cons pe_str (pv 3) (pps_cons pe_str (pe_op op_sub (pv 4) pe_int) pps_nil))) (by rfl) (by rfl) (fun z => by cases z) (by decide)) (pa_cons (pv 1) (pa_cons (pv 2) pa_nil))))))), ?_⟩
    refine ⟨_, rfl, 1, rfl, ?_⟩
    dsimp only [tNoPart]
    refine slAny_of h0 fun b H1 S1 hb => ⟨b, _, rfl, SqT.of hb, rfl, _, _, rfl, _, _, rfl, rfl, ?_⟩
    refine fun p np => ⟨_, rfl, _, _, rfl, rfl, _, rfl, _, rfl, _, _, rfl, rfl, upd_same, kvT [("contains", n - 1), ("rank", n), ("select", k - 1)], rfl, (by show 3 ≤ 15; decide), ?_⟩
    have S2 := same_new (o := HO.dK []) np
    have g : upd (upd H1 p (.dK [])) p (.dK (mergeK [] (kvT [("contains", n - 1), ("rank", n), ("select", k - 1)]))) p = some (.dK (kvT [("contains", n - 1), ("rank", n), ("select", k - 1)])) := upd_same
    have S3 : Same H1 (upd (upd H1 p (.dK [])) p (.dK (mergeK [] (kvT [("contains", n - 1), ("rank", n), ("select", k - 1)])))) := fun c o e => by
      rw [upd_ne (ne_of_none e np), upd_ne (ne_of_none e np)]
      exact e
    generalize upd (upd H1 p (.dK [])) p (.dK (mergeK [] (kvT [("contains", n - 1), ("rank", n), ("select", k - 1)]))) = H2 at g S3 ⊢
    have S := S1.trans S3
    exact ⟨_, rfl, _, rfl, p, a, _, z, xs, as, rfl, g, S _ _ ha, hx.same S, fun H' S' => q H' (S.trans S')⟩
theorem disp_same {H1 : Hp} {p : Addr} {o : HO} (np : H1 p = none) : Same H1 (upd (upd H1 p (.dK [])) p o) := fun c o e => by
  rw [upd_ne (ne_of_none e np), upd_ne (ne_of_none e np)]
  exact e
theorem ok_acycle {n : Int} {f fT : Addr} {fd fdT : FuncData} (F : Fun K "asks_cycle" "asks_cycle" s_acycle f fd) (T : DefOk K mg "takes_index" s_takes ["tops", "word", "arguments"] fT fdT) (G : FnOk P w K mg base CX0 3 fT fdT ["tops", "word", "arguments"] spTakes) : FnOk P w K mg base CX0 4 f fd ["part", "word", "arguments"] (spQ (okNum n) (cycleB n)) := by
  refine F.ok sc_acycle (fun vs H Q E h => ?_) (fun cdv A outer s H vs Q E hr h => ?_)
  · obtain ⟨a0, a, ps, z, xs, as, rfl, _⟩ := h
    rfl
  · obtain ⟨a0, a, ps, z, xs, as, rfl, h0, ⟨x0, r, rfl⟩, hz, ha, hx, q⟩ := h
    refine ⟨_, (pss_one (ps_ret (pe_call G hr rfl T.g T.F.kp T.b .nil pass0 (pa_cons (pe_disp (pps_cons pe_str (pe_op op_sub (pe_ix ix_tup (pv 0) pe_int (fun _ _ => rfl)) pe_int) (pps_cons pe_str (pe_op op_sub (pe_ix ix_tup (pv 0) pe_int (fun _ _ => rfl)) pe_int) pps_nil)) (by rfl) (by rfl) (fun z => by cases z) (by decide)) (pa_cons (pv 1) (pa_cons (pv 2) pa_nil)))))), ?_⟩
    refine fun p np => ?_
    have h1 := same_new (o := HO.dK []) np _ _ h0
    refine ⟨_, rfl, a0, _, _, _, rfl, rfl, SqT.of h1, atI_nat (j := 1) rfl, _, _, rfl, rfl, _, rfl, a0, _, _, _, rfl, rfl, SqT.of h1, atI_nat (j := 1) rfl, _, _, rfl, rfl, upd_same, kvT [("successor", n - 1), ("predecessor", n - 1)], rfl, (by show 2 ≤ 15; decide), ?_⟩
    have g : upd (upd H p (.dK [])) p (.dK (mergeK [] (kvT [("successor", n - 1), ("predecessor", n - 1)]))) p = some (.dK (kvT [("successor", n - 1), ("predecessor", n - 1)])) := upd_same
    have S := disp_same (o := .dK (mergeK [] (kvT [("successor", n - 1), ("predecessor", n - 1)]))) np
    generalize upd (upd H p (.dK [])) p (.dK (mergeK [] (kvT [("successor", n - 1), ("predecessor", n - 1)]))) = H2 at g S ⊢
    exact ⟨_, rfl, _, rfl, p, a, _, z, xs, as, rfl, g, S _ _ ha, hx.same S, fun H' S' => q H' (S.trans S')⟩
theorem ok_amatch {n : Int} {f fT : Addr} {fd fdT : FuncData} (F : Fun K "asks_matching" "asks_matching" s_amatch f fd) (T : DefOk K mg "takes_index" s_takes ["tops", "word", "arguments"] fT fdT) (G : FnOk P w K mg base CX0 3 fT fdT ["tops", "word", "arguments"] spTakes) (hn : 0 ≤ n ∧ n ≤ 1000) : FnOk P w K mg base CX0 4 f fd ["part", "word", "arguments"] (spQ (okNum n) (matchB n)) := by
  refine F.ok sc_amatch (fun vs H Q E h => ?_) (fun cdv A outer s H vs Q E hr h => ?_)
  · obtain ⟨a0, a, ps, z, xs, as, rfl, _⟩ := h
    rfl
  · obtain ⟨a0, a, ps, z, xs, as, rfl, h0, ⟨x0, r, rfl⟩, hz, ha, hx, q⟩ := h
    refine ⟨_, (pss_one (ps_ret (pe_call G hr rfl T.g T.F.kp T.b .nil pass0 (pa_cons (pe_disp (pps_cons pe_str (pe_op op_sub (pe_op op_mul pe_int (pe_ix ix_tup (pv 0) pe_int (fun _ _ => rfl))) pe_int) pps_nil) (by rfl) (by rfl) (fun z => by cases z) (by decide)) (pa_cons (pv 1) (pa_cons (pv 2) pa_nil)))))), ?_⟩
    refine fun p np => ?_
    have h1 := same_new (o := HO.dK []) np _ _ h0
    refine ⟨_, rfl, a0, _, _, _, rfl, rfl, SqT.of h1, atI_nat (j := 1) rfl, _, _, rfl, rfl, .inl ⟨by decide, by decide⟩, _, _, rfl, rfl, upd_same, kvT [("partner", 2 * n - 1)], rfl, (by show 1 ≤ 15; decide), ?_⟩
    have g : upd (upd H p (.dK [])) p (.dK (mergeK [] (kvT [("partner", 2 * n - 1)]))) p = some (.dK (kvT [("partner", 2 * n - 1)])) := upd_same
    have S := disp_same (o := .dK (mergeK [] (kvT [("partner", 2 * n - 1)]))) np
    generalize upd (upd H p (.dK [])) p (.dK (mergeK [] (kvT [("partner", 2 * n - 1)]))) = H2 at g S ⊢
    exact ⟨_, rfl, _, rfl, p, a, _, z, xs, as, rfl, g, S _ _ ha, hx.same S, fun H' S' => q H' (S.trans S')⟩
theorem takes_one {t : Tops} {z : Str} {as : List PyData} (h : takesB t z as = true) : ∃ i : Int, as = [.int i] := by
  unfold takesB at h
  split at h
  · obtain ⟨i, rfl, _⟩ := btw_int h
    exact ⟨i, rfl⟩
  · cases h
theorem ok_atree {n : Int} {f fT : Addr} {fd fdT : FuncData} (F : Fun K "asks_tree" "asks_tree" s_atree f fd) (T : DefOk K mg "takes_index" s_takes ["tops", "word", "arguments"] fT fdT) (G : FnOk P w K mg base CX0 3 fT fdT ["tops", "word", "arguments"] spTakes) : FnOk P w K mg base CX0 4 f fd ["part", "word", "arguments"] (spQ (okNum n) (treeB n)) := by
  refine F.ok sc_atree (fun vs H Q E h => ?_) (fun cdv A outer s H vs Q E hr h => ?_)
  · obtain ⟨a0, a, ps, z, xs, as, rfl, _⟩ := h
    rfl
  · obtain ⟨a0, a, ps, z, xs, as, rfl, h0, ⟨x0, r, rfl⟩, hz, ha, hx, q⟩ := h
    refine ⟨_, (pss_one (ps_ret (pe_and (pe_call G hr rfl T.g T.F.kp T.b .nil pass0 (pa_cons (pe_disp (pps_cons pe_str (pe_op op_sub (pe_ix ix_tup (pv 0) pe_int (fun _ _ => rfl)) pe_int) pps_nil) (by rfl) (by rfl) (fun z => by cases z) (by decide)) (pa_cons (pv 1) (pa_cons (pv 2) pa_nil)))) (pe_one (pe_cmpR op_ne (pe_ix ix_tup (pv 2) pe_int (fun _ _ => rfl)) pe_int (nomark _)))))), ?_⟩
    refine fun p np => ?_
    have h1 := same_new (o := HO.dK []) np _ _ h0
    refine ⟨_, rfl, a0, _, _, _, rfl, rfl, SqT.of h1, atI_nat (j := 1) rfl, _, _, rfl, rfl, upd_same, kvT [("parent", n - 1)], rfl, (by show 1 ≤ 15; decide), ?_⟩
    have g : upd (upd H p (.dK [])) p (.dK (mergeK [] (kvT [("parent", n - 1)]))) p = some (.dK (kvT [("parent", n - 1)])) := upd_same
    have S := disp_same (o := .dK (mergeK [] (kvT [("parent", n - 1)]))) np
    generalize upd (upd H p (.dK [])) p (.dK (mergeK [] (kvT [("parent", n - 1)]))) = H2 at g S ⊢
    refine ⟨_, rfl, _, rfl, p, a, _, z, xs, as, rfl, g, S _ _ ha, hx.same S, fun H' S' => ⟨_, rfl, ?_⟩⟩
    have q' := q H' (S.trans S')
    unfold treeB at q'
    cases e : takesB [("parent", n - 1)] z as with
    | false =>
      rw [e] at q'
      exact if_f rfl q'
    | true =>
      rw [e] at q'
      obtain ⟨i, rfl⟩ := takes_one e
      cases hx with
      | cons d0 d1 =>
        cases d0
        cases d1
        refine if_t rfl ⟨_, rfl, a, _, _, _, rfl, rfl, SqT.of ((S.trans S') _ _ ha), atI_nat (j := 0) rfl, rfl, ?_⟩
        have e2 : decide (V.int i = V.int 0) = decide (i = 0) := by
          by_cases h : i = 0
          · rw [decide_eq_true h, decide_eq_true (by rw [h])]
          · rw [decide_eq_false h, decide_eq_false fun y => h (V.int.inj y)]
        rw [e2]
        exact q'
theorem ok_achoice {ok : Hp → List V → Prop} {f : Addr} {fd : FuncData} (F : Fun K "asks_choice" "asks_choice" s_achoice f fd) (T : Nm mg) : FnOk P w K mg base CX0 4 f fd ["part", "word", "arguments"] (spQ ok choiceB) := by
  refine F.ok sc_achoice (fun vs H Q E h => ?_) (fun cdv A outer s H vs Q E hr h => ?_)
  · obtain ⟨a0, a, ps, z, xs, as, rfl, _⟩ := h
    rfl
  · obtain ⟨a0, a, ps, z, xs, as, rfl, h0, _, hz, ha, hx, q⟩ := h
    refine ⟨_, (pss_one (ps_ret (pe_and (pe_cmpR op_eq (pv 1) pe_str (nomark _)) (pe_one (pe_cmpR op_eq (pe_callB call_len_seq (by rfl) T.len PySem.boot_len (pa_cons (pv 2) pa_nil)) pe_int (nomark _)))))), ?_⟩
    have q0 := q H (Same.refl H)
    unfold choiceB at q0
    have e1 : decide (V.str z = V.str "selected") = decide (z = "selected") := by
      by_cases h : z = "selected"
      · rw [decide_eq_true h, decide_eq_true (by rw [h])]
      · rw [decide_eq_false h, decide_eq_false fun y => h (by injection y)]
    refine ⟨_, rfl, rfl, _, rfl, ?_⟩
    rw [e1]
    cases e : decide (z = ("selected" : Str)) with
    | false =>
      rw [e] at q0
      exact if_f rfl q0
    | true =>
      rw [e] at q0
      refine if_t rfl ⟨_, rfl, a, xs, rfl, .inr (SqT.of ha), rfl, ?_⟩
      have e2 : decide (V.int ((xs.length : Nat) : Int) = V.int 0) = decide (as.length = 0) := by
        rw [hx.len]
        by_cases h : as.length = 0
        · rw [decide_eq_true h, decide_eq_true (by rw [h]; rfl)]
        · rw [decide_eq_false h, decide_eq_false fun y => h (by have := V.int.inj y; omega)]
      rw [e2]
      exact q0
end
end KA
set_option maxRecDepth 100000
set_option maxHeartbeats 4000000
namespace KA
open PySem PySem.Spec PyProof.Rows L2
/-! ### questions of words and decorated spaces -/
def cntD (c : Str × Nat) : PyData := .tuple [.str c.1, .int (c.2 : Nat)]
def cN : PyData → Int
  | .tuple [_, .int n] => n
  | _ => 0
def cS : PyData → Str
  | .tuple [.str s, _] => s
  | _ => ""
theorem cnt_at {H : Hp} {x : V} {c : Str × Nat} (h : Dat H x (cntD c)) : ∃ b : Addr, x = .ref b ∧ H b = some (.tup [.str c.1, .int (c.2 : Nat)]) := by
  unfold cntD at h
  cases h with
  | @tup b ys _ hb hy =>
    cases hy with
    | cons h0 t0 =>
      cases t0 with
      | cons h1 t1 =>
        cases h0
        cases h1
        cases t1
        exact ⟨b, rfl, hb⟩
theorem sum_len10 : ∀ cs : Cn, ((cs.map cntD).map fun d => V.int (cN d)) = (cs.map fun c => (c.2 : Int)).map V.int
  | [] => rfl
  | c :: cs => by
    rw [List.map_cons, List.map_cons, List.map_cons, List.map_cons, sum_len10 cs]
    rfl
theorem sel_any (cs : Cn) (l o : PyData) : ((cs.map cntD).map fun d => V.bl (eqStr (cS d) l && btw 0 (cN d - 1) o)) = (cs.map fun c => (eqStr c.1 l && btw 0 ((c.2 : Int) - 1) o)).map V.bl := by
  rw [List.map_map, List.map_map]
  rfl
section
variable {P : Program} {w : World} {K : PySem.W.Frag} {mg : Str → Option Value} {base : Heap}
theorem ok_aword {cs : Cn} {f fT fB : Addr} {fd fdT fdB : FuncData} (F : Fun K "asks_word" "asks_word" s_aword f fd) (N : Nm mg) (T : DefOk K mg "takes_index" s_takes ["tops", "word", "arguments"] fT fdT) (G : FnOk P w K mg base CX0 3 fT fdT ["tops", "word", "arguments"] spTakes)
    (B : DefOk K mg "is_between" sBtw ["value", "low", "high"] fB fdB) (GB : FnOk P w K mg base CX0 2 fB fdB ["value", "low", "high"] spBtw) (hc : cs.length ≤ 100) : FnOk P w K mg base CX0 4 f fd ["part", "word", "arguments"] (spQ (okCnt cs) (wordB cs)) := by
  refine F.ok sc_aword (fun vs H Q E h => ?_) (fun cdv A outer s H vs Q E hr h => ?_)
  · obtain ⟨a0, a, ps, z, xs, as, rfl, _⟩ := h
    rfl
  · obtain ⟨a0, a, ps, z, xs, as, rfl, h0, ⟨x0, x1, r, rfl, hd1⟩, hz, ha, hx, q⟩ := h
    have hu0 := hr.units0
    have hr2 : Room 2 _ := hr.mono (by decide)
    refine ⟨_, (pss_cons (ps_set (i := 3) sc_aword.nd rfl (Or.inl rfl) (pe_ix ix_tup (pv 0) pe_int (fun _ _ => rfl)))
      (pss_cons (ps_set (i := 4) sc_aword.nd rfl (Or.inl rfl) (pe_callB (cr_sum rfl) (by rfl) N.sum boot_sum (pa_cons (pe_lc (own := [("pair", 7)]) (g := (gName 7)) (tt := tYes) (te := tOp (rIxT K) (tVar 7) (tC (.int 1))) rfl sc_aword.nd (pi_tup (pv 3)) (blkOk_by (N := ["part", "word", "arguments", "counts", "n", "letter", "occurrence", "pair"]) (sc := defScope s_aword) (by decide +kernel))
          (fun _ _ _ _ _ => (pg_name (i := 7) sc_aword.nd rfl (Or.inl rfl))) (fun _ _ _ _ _ => pts_nil) (fun _ _ _ _ _ => (pe_ix ix_tup (pv 7) pe_int (fun _ _ => rfl)))) pa_nil)))
      (pss_cons (ps_if (PW.pt (pw_and (pt_cmpR op_eq (pv 1) pe_str (nomark _)) (pw_and1 (pt_cmpR op_eq (pe_callB call_len_seq (by rfl) N.len PySem.boot_len (pa_cons (pv 2) pa_nil)) pe_int (nomark _)))))
        (pss_cons (ps_asg (pv 2) (pg_tup rfl (pgs_cons (pg_name (i := 5) sc_aword.nd rfl (Or.inr rfl)) (pgs_cons (pg_name (i := 6) sc_aword.nd rfl (Or.inr rfl)) pgs_nil))))
        (pss_one (ps_ret (pe_callB (cr_any rfl) (by rfl) N.any boot_any (pa_cons (pe_lc (own := [("pair", 7)]) (g := (gName 7)) (tt := tYes) (te := tAndV (tOp rEqStr (tVar 5) (tOp (rIxT K) (tVar 7) (tC (.int 0)))) (tCall spBtw [] E0 (tCons (tVar 6) (tCons (tC (.int 0)) (tCons (tOp (rI0 fun i j => .int (i - j)) (tOp (rIxT K) (tVar 7) (tC (.int 1))) (tC (.int 1))) tNil))))) rfl sc_aword.nd (pi_tup (pv 3)) (blkOk_by (N := ["part", "word", "arguments", "counts", "n", "letter", "occurrence", "pair"]) (sc := defScope s_aword) (by decide +kernel))
          (fun _ _ _ _ _ => (pg_name (i := 7) sc_aword.nd rfl (Or.inl rfl))) (fun _ _ _ _ _ => pts_nil) (fun _ _ _ _ _ => (pe_and (pe_cmpR (op_eqStr hu0) (pv 5) (pe_ix ix_tup (pv 7) pe_int (fun _ _ => rfl)) (nomark _)) (pe_one (pe_call GB hr2 rfl B.g B.F.kp B.b .nil pass0 (pa_cons (pv 6) (pa_cons pe_int (pa_cons (pe_op op_sub (pe_ix ix_tup (pv 7) pe_int (fun _ _ => rfl)) pe_int) pa_nil)))))))) pa_nil)))))
        pss_nil)
      (pss_one (ps_ret (pe_call G hr rfl T.g T.F.kp T.b .nil pass0 (pa_cons (pe_disp (pps_cons pe_str (pe_op op_sub (pv 4) pe_int) (pps_cons pe_str (pv 4) (pps_cons pe_str (pe_op op_sub (pv 4) pe_int) pps_nil))) (by rfl) (by rfl) (fun z => by cases z) (by decide)) (pa_cons (pv 1) (pa_cons (pv 2) pa_nil))))))))), ?_⟩
    obtain ⟨bc, xc, rfl, hbc, hxc⟩ : ∃ (bc : Addr) (xc : List V), x1 = .ref bc ∧ H bc = some (.tup xc) ∧ DatAll H xc (cs.map cntD) := by
      cases hd1 with
      | @tup b ys _ hb hy => exact ⟨b, ys, rfl, hb, hy⟩
    have lc := hxc.len
    rw [List.length_map] at lc
    refine ⟨_, rfl, a0, _, _, _, rfl, rfl, SqT.of h0, atI_nat (j := 1) rfl, ?_⟩
    refine ⟨_, rfl, bc, rfl, ⟨_, SqT.of hbc⟩, fun D nD => lc_map (K := K) (fun d => .int (cN d)) hbc hxc (by omega) nD (fun i x d Hx hi hdi td S R hR => ?_) mono_name fun H1 S1 hD => ?_⟩
    · obtain ⟨c, hc', rfl⟩ := List.mem_map.mp (List.mem_of_getElem? hdi)
      obtain ⟨b, rfl, hb⟩ := cnt_at td
      exact ⟨rfl, _, rfl, b, _, _, _, rfl, rfl, SqT.of hb, atI_nat (j := 1) rfl, hR Hx (Same.refl Hx)⟩
    refine ⟨D, cs.map fun c => (c.2 : Int), rfl, by rw [← sum_len10]; exact SqL.of hD, ?_⟩
    have q1 := fun H' S' => q H' (S1.trans S')
    have e1 : decide (V.str z = V.str "select") = decide (z = "select") := by
      by_cases h : z = "select"
      · rw [decide_eq_true h, decide_eq_true (by rw [h])]
      · rw [decide_eq_false h, decide_eq_false fun y => h (by injection y)]
    have e2 : decide (V.int ((xs.length : Nat) : Int) = V.int 2) = decide (as.length = 2) := by
      rw [hx.len]
      by_cases h : as.length = 2
      · rw [decide_eq_true h, decide_eq_true (by rw [h]; rfl)]
      · rw [decide_eq_false h, decide_eq_false fun y => h (by have := V.int.inj y; omega)]
    have rest : (decide (z = "select") && decide (as.length = 2)) = false → ∀ (G' : VK), (∀ H', Same H1 H' → G' (.bl (takesB [("letter", totC cs - 1), ("prefix", totC cs), ("entry", totC cs - 1)] z as)) H') → ∀ p, H1 p = none → (kvT [("letter", totC cs - 1), ("prefix", totC cs), ("entry", totC cs - 1)]).length ≤ 15 ∧
        ∃ H2, H2 = upd (upd H1 p (.dK [])) p (.dK (mergeK [] (kvT [("letter", totC cs - 1), ("prefix", totC cs), ("entry", totC cs - 1)]))) ∧ H2 p = some (.dK (kvT [("letter", totC cs - 1), ("prefix", totC cs), ("entry", totC cs - 1)])) ∧ Same H1 H2 := fun _ G' _ p np =>
      ⟨(by show 3 ≤ 15; decide), _, rfl, upd_same, disp_same np⟩
    refine ⟨_, rfl, rfl, _, rfl, ?_⟩
    rw [e1]
    have fin : (decide (z = "select") && decide (as.length = 2)) = false → ∀ p, H1 p = none → ∃ H2, H2 = upd (upd H1 p (.dK [])) p (.dK (mergeK [] (kvT [("letter", totC cs - 1), ("prefix", totC cs), ("entry", totC cs - 1)]))) ∧ spTakes [.ref p, .str z, .ref a] H2 Q E0 := fun hb p np => by
      obtain ⟨_, H2, e, g, S⟩ := rest hb Q (fun H' S' => by
        have z1 := q1 H' S'
        unfold wordB at z1
        rw [hb] at z1
        exact z1) p np
      refine ⟨H2, e, p, a, _, z, xs, as, rfl, g, S _ _ (S1 _ _ ha), (hx.same S1).same S, fun H' S' => ?_⟩
      have z1 := q1 H' (S.trans S')
      unfold wordB at z1
      rw [hb] at z1
      exact z1
    cases ez : decide (z = ("select" : Str)) with
    | false =>
      refine if_f rfl (if_f rfl ?_)
      refine fun p np => ⟨_, rfl, _, _, rfl, rfl, _, rfl, _, rfl, _, _, rfl, rfl, upd_same, kvT [("letter", totC cs - 1), ("prefix", totC cs), ("entry", totC cs - 1)], rfl, (by show 3 ≤ 15; decide), _, rfl, _, rfl, ?_⟩
      obtain ⟨H2, e, sp⟩ := fin (by rw [ez]; rfl) p np
      rw [e] at sp
      exact sp
    | true =>
      refine if_t rfl ⟨_, rfl, a, xs, rfl, .inr (SqT.of (S1 _ _ ha)), rfl, _, rfl, ?_⟩
      rw [e2]
      cases el : decide (as.length = 2) with
      | false =>
        refine if_f rfl ?_
        refine fun p np => ⟨_, rfl, _, _, rfl, rfl, _, rfl, _, rfl, _, _, rfl, rfl, upd_same, kvT [("letter", totC cs - 1), ("prefix", totC cs), ("entry", totC cs - 1)], rfl, (by show 3 ≤ 15; decide), _, rfl, _, rfl, ?_⟩
        obtain ⟨H2, e, sp⟩ := fin (by rw [ez, el]; rfl) p np
        rw [e] at sp
        exact sp
      | true =>
        refine if_t rfl ?_
        have hl2 := of_decide_eq_true el
        match as, xs, hx, hl2, q1 with
        | [l, o], [xl, xo], .cons dl (.cons dO .nil), _, q1 =>
          refine ⟨_, rfl, a, _, rfl, SqT.of (S1 _ _ ha), rfl, _, _, rfl, _, _, rfl, rfl, ?_⟩
          refine ⟨_, rfl, bc, rfl, ⟨_, SqT.of (S1 _ _ hbc)⟩, fun D2 nD2 => lc_map (K := K) (fun d => .bl (eqStr (cS d) l && btw 0 (cN d - 1) o)) (S1 _ _ hbc) (hxc.same S1) (by omega) nD2 (fun i x d Hx hi hdi td S R hR => ?_) mono_name fun H2 S2 hD2 => ?_⟩
          · obtain ⟨c, hc', rfl⟩ := List.mem_map.mp (List.mem_of_getElem? hdi)
            obtain ⟨b, rfl, hb⟩ := cnt_at td
            refine ⟨rfl, _, rfl, _, rfl, b, _, _, _, rfl, rfl, SqT.of hb, atI_nat (j := 0) rfl, l, c.1, (dl.same S1).same S, rfl, _, rfl, ?_⟩
            have hR' : ∀ H', Same Hx H' → R (.bl (eqStr c.1 l && btw 0 ((c.2 : Int) - 1) o)) H' := hR
            cases e : eqStr c.1 l with
            | false =>
              rw [e] at hR'
              exact if_f rfl (hR' Hx (Same.refl Hx))
            | true =>
              rw [e] at hR'
              exact if_t rfl ⟨_, rfl, _, rfl, b, _, _, _, rfl, rfl, SqT.of hb, atI_nat (j := 1) rfl, _, _, rfl, rfl, xo, o, 0, _, rfl, (dO.same S1).same S, hR'⟩
          · refine ⟨D2, cs.map fun c => (eqStr c.1 l && btw 0 ((c.2 : Int) - 1) o), rfl, by rw [← sel_any]; exact SqL.of hD2, ?_⟩
            have z1 := q1 H2 S2
            unfold wordB at z1
            rw [ez] at z1
            have e3 : ((cs.map fun c => (eqStr c.1 l && btw 0 ((c.2 : Int) - 1) o)).any id) = selB cs l o := by
              unfold selB
              rw [List.any_map]
              rfl
            rw [e3]
            exact z1
end
end KA
set_option maxRecDepth 100000
set_option maxHeartbeats 4000000
namespace KA
open PySem PySem.Spec PyProof.Rows L2
/-! ### next_part, part_at -/
mutual
def okS : S10 → Bool
  | .few _ => true
  | .row _ xs => okSs xs && decide (xs.length ≤ 2)
  | .pow n x => okS x && decide (n ≤ 3)
  | .dec c xs => okSs xs && decide (xs.length = (cnts c).length)
def okSs : List S10 → Bool
  | [] => true
  | x :: xs => okS x && okSs xs
end
theorem okSs_mem : ∀ {xs : List S10} {x : S10}, okSs xs = true → x ∈ xs → okS x = true
  | [], _, _, h => by cases h
  | y :: xs, x, hb, h => by
    rw [okSs, Bool.and_eq_true] at hb
    rcases List.mem_cons.mp h with rfl | h
    · exact hb.1
    · exact okSs_mem hb.2 h
theorem next_ok {s e : S10} {d : PyData} (hs : okS s = true) (h : nextS s d = some e) : okS e = true := by
  have hm := (next_iff s d e).mp h
  cases s with
  | few i => cases hm
  | row c xs =>
    rw [okS, Bool.and_eq_true] at hs
    obtain ⟨j, _, hj⟩ := (enum_get xs 0 d e).mp hm
    exact okSs_mem hs.1 (List.mem_of_getElem? hj)
  | pow n x =>
    rw [okS, Bool.and_eq_true] at hs
    obtain ⟨k, _, hk⟩ := List.mem_map.mp hm
    cases hk
    exact hs.1
  | dec c xs =>
    rw [okS, Bool.and_eq_true] at hs
    obtain ⟨q, hq, hq2⟩ := List.mem_flatMap.mp hm
    obtain ⟨rfl, _⟩ := dec_mem.mp hq2
    exact okSs_mem hs.1 (List.of_mem_zip (a := q.1) (b := q.2) hq).2
abbrev s_next : Stmt := top 10
abbrev s_part : Stmt := top 9
def spNext : Sp := fun vs H Q _ => ∃ (v x : V) (s : S10) (d : PyData), vs = [v, x] ∧ Dat H v (dt s) ∧ Dat H x d ∧ okS s = true ∧
  (∀ H', Same H H' → nextS s d = none → Q .non H') ∧ ∀ (u : V) (e : S10) (H' : Hp), Same H H' → nextS s d = some e → Dat H' u (dt e) → Q u H'
def spPart : Sp := fun vs H Q _ => ∃ (v x : V) (s : S10) (d : PyData), vs = [v, x] ∧ Dat H v (dt s) ∧ Dat H x d ∧ okS s = true ∧
  (∀ H', Same H H' → (∀ ds, d = .tuple ds → partAt s ds = none) → Q .non H') ∧ ∀ (u : V) (e : S10) (ds : List PyData) (H' : Hp), Same H H' → d = .tuple ds → partAt s ds = some e → Dat H' u (dt e) → Q u H'
def eqK (z y : Str) : Bool := decide (V.str z = V.str y)
theorem dat3 {H : Hp} {ps : List V} {d0 d1 d2 : PyData} (h : DatAll H ps [d0, d1, d2]) : ∃ v0 v1 v2, ps = [v0, v1, v2] ∧ Dat H v0 d0 ∧ Dat H v1 d1 ∧ Dat H v2 d2 := by
  match ps, h with
  | _, .cons a (.cons b (.cons c .nil)) => exact ⟨_, _, _, rfl, a, b, c⟩
theorem dat2 {H : Hp} {ps : List V} {d0 d1 : PyData} (h : DatAll H ps [d0, d1]) : ∃ v0 v1, ps = [v0, v1] ∧ Dat H v0 d0 ∧ Dat H v1 d1 := by
  match ps, h with
  | _, .cons a (.cons b .nil) => exact ⟨_, _, rfl, a, b⟩
theorem dats_get {H : Hp} {ys : List V} {xs : List S10} (h : DatAll H ys (dts xs)) {j : Nat} {e : S10} (he : xs[j]? = some e) : ∃ y, ys[j]? = some y ∧ Dat H y (dt e) := by
  rw [dts_map] at h
  exact h.at (by rw [List.getElem?_map, he]; rfl)
section
variable {P : Program} {w : World} {K : PySem.W.Frag} {mg : Str → Option Value} {base : Heap}
theorem sc_next : FnScope ["part", "step", "kind", "letter", "occurrence", "pair", "inner"] ["part", "step"] (defScope s_next) := ⟨rfl, rfl, rfl, by decide +kernel, rfl, by decide +kernel, by decide +kernel⟩
theorem sc_part : FnScope ["space", "path", "part", "step"] ["space", "path"] (defScope s_part) := ⟨rfl, rfl, rfl, by decide +kernel, rfl, by decide +kernel, by decide +kernel⟩
theorem ok_next {f fT fB : Addr} {fd fdT fdB : FuncData} (F : Fun K "next_part" "next_part" s_next f fd) (N : Nm mg) (T : DefOk K mg "is_tuple" sTup ["value", "least", "most"] fT fdT) (B : DefOk K mg "is_between" sBtw ["value", "low", "high"] fB fdB) (GB : FnOk P w K mg base CX0 2 fB fdB ["value", "low", "high"] spBtw) : FnOk P w K mg base CX0 3 f fd ["part", "step"] spNext := by
  have GT : FnOk P w K mg base CX0 1 fT fdT ["value", "least", "most"] spTup := ok_tup T.F N
  refine F.ok sc_next (fun vs H Q E h => ?_) (fun cdv A outer s H vs Q E hr h => ?_)
  · obtain ⟨v, x, s, d, rfl, _⟩ := h
    rfl
  · obtain ⟨v, x, sp, d, rfl, hv, hx, hok, q0, q1⟩ := h
    have hu0 := hr.units0
    have hr1 : Room 1 _ := hr.mono (by decide)
    refine ⟨_, (pss_cons (ps_set (i := 2) sc_next.nd rfl (Or.inl rfl) (pe_ix ix_tup (pv 0) pe_int (fun _ _ => rfl)))
      (pss_cons (ps_if (PW.pt (pw_and (pt_cmpR op_in_seq (pv 2) (pe_tup (pa_cons pe_str (pa_cons pe_str pa_nil))) rfl) (pw_and1 (pt_val (pe_call GB hr rfl B.g B.F.kp B.b .nil pass0 (pa_cons (pv 1) (pa_cons pe_int (pa_cons (pe_op op_sub (pe_callB call_len_seq (by rfl) N.len PySem.boot_len (pa_cons (pe_ix ix_tup (pv 0) pe_int (fun _ _ => rfl)) pa_nil)) pe_int) pa_nil))))))))
        (pss_one (ps_ret (pe_ix ix_tup (pe_ix ix_tup (pv 0) pe_int (fun _ _ => rfl)) (pv 1) (fun _ _ => rfl))))
        pss_nil)
      (pss_cons (ps_if (PW.pt (pw_and (pt_cmpR op_eq (pv 2) pe_str (nomark _)) (pw_and1 (pt_val (pe_call GB hr rfl B.g B.F.kp B.b .nil pass0 (pa_cons (pv 1) (pa_cons pe_int (pa_cons (pe_op op_sub (pe_ix ix_tup (pv 0) pe_int (fun _ _ => rfl)) pe_int) pa_nil))))))))
        (pss_one (ps_ret (pe_ix ix_tup (pv 0) pe_int (fun _ _ => rfl))))
        pss_nil)
      (pss_cons (ps_if (PW.pt (pw_and (pt_cmpR op_eq (pv 2) pe_str (nomark _)) (pw_and1 (pt_val (pe_call GT hr1 rfl T.g T.F.kp T.b .nil pass0 (pa_cons (pv 1) (pa_cons pe_int (pa_cons pe_int pa_nil))))))))
        (pss_cons (ps_asg (pv 1) (pg_tup rfl (pgs_cons (pg_name (i := 3) sc_next.nd rfl (Or.inl rfl)) (pgs_cons (pg_name (i := 4) sc_next.nd rfl (Or.inl rfl)) pgs_nil))))
        (pss_one (ps_for PassesOwn.never rfl (RZ.pi_zipA rfl N.zip (pa_cons (pe_ix ix_tup (pv 0) pe_int (fun _ _ => rfl)) (pa_cons (pe_ix ix_tup (pv 0) pe_int (fun _ _ => rfl)) pa_nil))) (pg_tup rfl (pgs_cons (pg_name (i := 5) sc_next.nd rfl (Or.inl rfl)) (pgs_cons (pg_name (i := 6) sc_next.nd rfl (Or.inl rfl)) pgs_nil)))
          (pss_one (ps_if (PW.pt (pw_and (pt_cmpR (op_eqStr hu0) (pv 3) (pe_ix ix_tup (pv 5) pe_int (fun _ _ => rfl)) (nomark _)) (pw_and1 (pt_val (pe_call GB hr rfl B.g B.F.kp B.b .nil pass0 (pa_cons (pv 4) (pa_cons pe_int (pa_cons (pe_op op_sub (pe_ix ix_tup (pv 5) pe_int (fun _ _ => rfl)) pe_int) pa_nil))))))))
            (pss_one (ps_ret (pv 6)))
            pss_nil)))))
        pss_nil)
      (pss_one (ps_ret pe_non)))))), ?_⟩
    -- the ways that ask for nothing
    have none_of : ∀ (a0 : Addr) (z : Str) (ps : List V), v = .ref a0 → H a0 = some (.tup (.str z :: ps)) → inV (.str z) [.str "product", .str "choice"] = false → decide (V.str z = V.str "power") = false → decide (V.str z = V.str "decorated") = false → nextS sp d = none →
        True := fun _ _ _ _ _ _ _ _ _ => trivial
    cases sp with
    | few i =>
      obtain ⟨a0, z, ps, rfl, h0, e1, e2, e3⟩ : ∃ (a0 : Addr) (z : Str) (ps : List V), v = .ref a0 ∧ H a0 = some (.tup (.str z :: ps)) ∧ inV (.str z) [.str "product", .str "choice"] = false ∧ decide (V.str z = V.str "power") = false ∧ decide (V.str z = V.str "decorated") = false := by
        rw [dt] at hv
        match i, hv with
        | 0, .tup h0 (.cons (.str _ _) _) => exact ⟨_, _, _, rfl, h0, by decide +kernel, by decide +kernel, by decide +kernel⟩
        | 1, .tup h0 (.cons (.str _ _) _) => exact ⟨_, _, _, rfl, h0, by decide +kernel, by decide +kernel, by decide +kernel⟩
        | 2, .tup h0 (.cons (.str _ _) _) => exact ⟨_, _, _, rfl, h0, by decide +kernel, by decide +kernel, by decide +kernel⟩
        | 3, .tup h0 (.cons (.str _ _) _) => exact ⟨_, _, _, rfl, h0, by decide +kernel, by decide +kernel, by decide +kernel⟩
        | 4, .tup h0 (.cons (.str _ _) _) => exact ⟨_, _, _, rfl, h0, by decide +kernel, by decide +kernel, by decide +kernel⟩
      refine ⟨_, rfl, a0, _, _, _, rfl, rfl, SqT.of h0, atI_nat (j := 0) rfl, ?_⟩
      refine ⟨_, rfl, (by show 2 ≤ sizeLine; decide), fun tp ntp => ⟨tp, _, rfl, .inr (SqT.of upd_same), rfl, rfl, _, rfl, ?_⟩⟩
      refine if_f e1 (if_f rfl ?_)
      refine ⟨_, rfl, rfl, _, rfl, if_f e2 (if_f rfl ?_)⟩
      refine ⟨_, rfl, rfl, _, rfl, if_f e3 (if_f rfl ?_)⟩
      exact q0 _ (same_new ntp) rfl
    | row c xs =>
      rw [dt] at hv
      cases hv with
      | @tup a0 ps _ h0 hps =>
        cases hps with
        | cons e0 t0 =>
          cases e0
          cases t0 with
          | @cons y1 r1 _ _ e1 t1 =>
            cases t1
            cases e1 with
            | @tup b ys _ hb hys =>
              have hl := hys.len
              rw [dts_len] at hl
              refine ⟨_, rfl, a0, _, _, _, rfl, rfl, SqT.of h0, atI_nat (j := 0) rfl, ?_⟩
              refine ⟨_, rfl, (by show 2 ≤ sizeLine; decide), fun tp ntp => ⟨tp, _, rfl, .inr (SqT.of upd_same), rfl, rfl, _, rfl, ?_⟩⟩
              have S1 := same_new (o := HO.tup [.str "product", .str "choice"]) ntp
              have ein : inV (.str (rowW c)) [.str "product", .str "choice"] = true := by cases c <;> decide +kernel
              have ep : decide (V.str (rowW c) = V.str "power") = false := by cases c <;> decide +kernel
              have ed : decide (V.str (rowW c) = V.str "decorated") = false := by cases c <;> decide +kernel
              generalize upd H tp (.tup [.str "product", .str "choice"]) = H1 at S1 ⊢
              refine if_t ein ?_
              refine ⟨_, rfl, _, rfl, a0, _, _, _, rfl, rfl, SqT.of (S1 _ _ h0), atI_nat (j := 1) rfl, b, ys, rfl, .inr (SqT.of (S1 _ _ hb)), _, _, rfl, rfl, x, d, 0, _, rfl, hx.same S1, fun H2 S2 => ⟨_, rfl, ?_⟩⟩
              have S := S1.trans S2
              rw [hl]
              have nx : nextS (.row c xs) d = if btw 0 ((xs.length : Int) - 1) d = true then xs[(intOf d).toNat]? else none := rfl
              cases hbt : btw 0 ((xs.length : Int) - 1) d with
              | true =>
                refine if_t rfl ?_
                obtain ⟨i, rfl, hi0, hi1⟩ := btw_int hbt
                cases hx
                rw [hbt, if_pos rfl] at nx
                have hi : i.toNat < xs.length := by omega
                have he : xs[i.toNat]? = some xs[i.toNat] := List.getElem?_eq_getElem hi
                obtain ⟨y, hy, dy⟩ := dats_get hys he
                have ei : (((i.toNat : Nat)) : Int) = i := Int.toNat_of_nonneg hi0
                refine ⟨_, rfl, a0, _, _, _, rfl, rfl, SqT.of (S _ _ h0), atI_nat (j := 1) rfl, _, rfl, b, ys, i, y, rfl, rfl, SqT.of (S _ _ hb), by rw [← ei]; exact atI_nat hy, ?_⟩
                refine q1 y xs[i.toNat] H2 S (nx.trans ?_) (dy.same S)
                exact he
              | false =>
                rw [hbt, if_neg Bool.false_ne_true] at nx
                refine if_f rfl ?_
                refine ⟨_, rfl, rfl, _, rfl, if_f ep (if_f rfl ?_)⟩
                refine ⟨_, rfl, rfl, _, rfl, if_f ed (if_f rfl ?_)⟩
                exact q0 H2 S nx
    | pow n y =>
      rw [dt] at hv
      cases hv with
      | @tup a0 ps _ h0 hps =>
        obtain ⟨_, _, y2, rfl, i0, i1, dy⟩ := dat3 hps
        · cases i0
          cases i1
          refine ⟨_, rfl, a0, _, _, _, rfl, rfl, SqT.of h0, atI_nat (j := 0) rfl, ?_⟩
          refine ⟨_, rfl, (by show 2 ≤ sizeLine; decide), fun tp ntp => ⟨tp, _, rfl, .inr (SqT.of upd_same), rfl, rfl, _, rfl, ?_⟩⟩
          have S1 := same_new (o := HO.tup [.str "product", .str "choice"]) ntp
          generalize upd H tp (.tup [.str "product", .str "choice"]) = H1 at S1 ⊢
          refine if_f (by decide +kernel) (if_f rfl ?_)
          refine ⟨_, rfl, rfl, _, rfl, if_t (by decide +kernel) ?_⟩
          refine ⟨_, rfl, _, rfl, a0, _, _, _, rfl, rfl, SqT.of (S1 _ _ h0), atI_nat (j := 1) rfl, _, _, rfl, rfl, x, d, 0, _, rfl, hx.same S1, fun H2 S2 => ⟨_, rfl, ?_⟩⟩
          have S := S1.trans S2
          have nx : nextS (.pow n y) d = if btw 0 ((n : Int) - 1) d = true then some y else none := rfl
          cases hbt : btw 0 ((n : Int) - 1) d with
          | true =>
            rw [hbt, if_pos rfl] at nx
            refine if_t rfl ⟨_, rfl, a0, _, _, y2, rfl, rfl, SqT.of (S _ _ h0), atI_nat (j := 2) rfl, ?_⟩
            exact q1 y2 y H2 S nx (dy.same S)
          | false =>
            rw [hbt, if_neg Bool.false_ne_true] at nx
            refine if_f rfl ?_
            refine ⟨_, rfl, rfl, _, rfl, if_f (by decide +kernel) (if_f rfl ?_)⟩
            exact q0 H2 S nx
    | dec c xs =>
      have hlx : xs.length = (cnts c).length := by
        rw [okS, Bool.and_eq_true] at hok
        exact of_decide_eq_true hok.2
      rw [dt] at hv
      cases hv with
      | @tup a0 ps _ h0 hps =>
        obtain ⟨_, v1, v2, rfl, i0, i1, i2⟩ := dat3 hps
        obtain ⟨bc, yc, rfl, hbc, hyc⟩ : ∃ bc yc, v1 = .ref bc ∧ H bc = some (.tup yc) ∧ DatAll H yc ((cnts c).map fun c => .tuple [.str c.1, .int (c.2 : Nat)]) := by
          cases i1 with
          | tup h1 h2 => exact ⟨_, _, rfl, h1, h2⟩
        obtain ⟨b, ys, rfl, hb, hys⟩ : ∃ b ys, v2 = .ref b ∧ H b = some (.tup ys) ∧ DatAll H ys (dts xs) := by
          cases i2 with
          | tup h1 h2 => exact ⟨_, _, rfl, h1, h2⟩
        · cases i0
          have hl := hys.len
          rw [dts_len] at hl
          have hlc : yc.length = (cnts c).length := by rw [hyc.len, List.length_map]
          refine ⟨_, rfl, a0, _, _, _, rfl, rfl, SqT.of h0, atI_nat (j := 0) rfl, ?_⟩
          refine ⟨_, rfl, (by show 2 ≤ sizeLine; decide), fun tp ntp => ⟨tp, _, rfl, .inr (SqT.of upd_same), rfl, rfl, _, rfl, ?_⟩⟩
          have S1 := same_new (o := HO.tup [.str "product", .str "choice"]) ntp
          generalize upd H tp (.tup [.str "product", .str "choice"]) = H1 at S1 ⊢
          refine if_f (by decide +kernel) (if_f rfl ?_)
          refine ⟨_, rfl, rfl, _, rfl, if_f (by decide +kernel) (if_f rfl ?_)⟩
          refine ⟨_, rfl, rfl, _, rfl, if_t (by decide +kernel) ?_⟩
          refine ⟨_, rfl, x, d, 2, 2, rfl, hx.same S1, fun H2 S2 => ⟨_, rfl, ?_⟩⟩
          have S := S1.trans S2
          have nx : nextS (.dec c xs) d = nextDec ((cnts c).zip xs) d := rfl
          cases ht : tupOf 2 2 d with
          | false =>
            refine if_f rfl (q0 H2 S (nx.trans ?_))
            unfold nextDec
            split
            · rename_i l o
              have : tupOf 2 2 (.tuple [l, o]) = true := rfl
              rw [this] at ht
              cases ht
            · rfl
          | true =>
            obtain ⟨l, o, rfl⟩ : ∃ l o, d = .tuple [l, o] := by
              cases d with
              | tuple ds =>
                have h' : (decide ((2 : Int) ≤ (ds.length : Int)) && decide ((ds.length : Int) ≤ 2)) = true := ht
                rw [Bool.and_eq_true] at h'
                have h1 := of_decide_eq_true h'.1
                have h2 := of_decide_eq_true h'.2
                match ds, h1, h2 with
                | [l, o], _, _ => exact ⟨l, o, rfl⟩
                | [], h1, _ => simp at h1
                | [_], h1, _ => simp at h1
                | _ :: _ :: _ :: _, _, h2 => simp at h2; omega
              | _ => cases ht
            refine if_t rfl ?_
            cases hx with
            | @tup ax zs _ hax hzs =>
              obtain ⟨xl, xo, rfl, dl, dO⟩ := dat2 hzs
              · refine ⟨_, rfl, ax, _, rfl, SqT.of (S _ _ hax), rfl, _, _, rfl, _, _, rfl, rfl, ?_⟩
                refine ⟨_, rfl, a0, _, _, _, rfl, rfl, SqT.of (S _ _ h0), atI_nat (j := 1) rfl, _, rfl, a0, _, _, _, rfl, rfl, SqT.of (S _ _ h0), atI_nat (j := 2) rfl, bc, b, yc, ys, rfl, .inr ⟨SqT.of (S _ _ hbc), SqT.of (S _ _ hb), RZ.for_zipT (K := K) (by rw [hlc, hl, hlx]) (fun i σ Hx => ∃ (w5 w6 : Option V), σ = [some (.ref a0), some (.ref ax), some (.str "decorated"), some xl, some xo, w5, w6] ∧ Same H Hx ∧ findDec ((cnts c).zip xs) l o = findDec (((cnts c).zip xs).drop i) l o)
                  ⟨none, none, rfl, S, rfl⟩ (fun i σ Hx ⟨_, _, _, Sx, _⟩ => ⟨SqT.of (Sx _ _ hbc), SqT.of (Sx _ _ hb)⟩) ?_ ?_⟩⟩
                · rintro i y1 y2 U σ Hx hi1 hi2 ⟨w5, w6, rfl, Sx, hf⟩ nU
                  have Su := Sx.trans (same_new (o := HO.tup [y1, y2]) nU)
                  refine ⟨U, _, rfl, SqT.of upd_same, rfl, _, _, rfl, _, _, rfl, rfl, ?_⟩
                  obtain ⟨d1, hd1, t1⟩ := hyc.get hi1
                  rw [List.getElem?_map] at hd1
                  obtain ⟨cc, hcc, rfl⟩ := Option.map_eq_some_iff.mp hd1
                  have t1' : Dat H y1 (cntD cc) := t1
                  obtain ⟨bp, rfl, hbp⟩ := cnt_at t1'
                  have hlt : i < xs.length := by
                    have := (List.getElem?_eq_some_iff.mp hi2).1
                    omega
                  have hxe : xs[i]? = some xs[i] := List.getElem?_eq_getElem hlt
                  obtain ⟨y', hy', dy'⟩ := dats_get hys hxe
                  rw [hi2] at hy'
                  cases hy'
                  have hz : ((cnts c).zip xs)[i]? = some (cc, xs[i]) := by
                    rw [List.getElem?_zip_eq_some]
                    exact ⟨hcc, hxe⟩
                  have hdrop : ((cnts c).zip xs).drop i = (cc, xs[i]) :: ((cnts c).zip xs).drop (i + 1) := by
                    obtain ⟨hlt2, e⟩ := List.getElem?_eq_some_iff.mp hz
                    rw [← e]
                    exact List.drop_eq_getElem_cons hlt2
                  have ff : findDec ((cnts c).zip xs) l o = if (isS cc.1 l && btw 0 ((cc.2 : Int) - 1) o) = true then some xs[i] else findDec (((cnts c).zip xs).drop (i + 1)) l o := by
                    rw [hf, hdrop, findDec]
                  have es : eqStr cc.1 l = isS cc.1 l := by
                    cases l with
                    | str y =>
                      show (y == cc.1) = decide (y = cc.1)
                      by_cases h : y = cc.1
                      · rw [decide_eq_true h, h]
                        exact beq_self_eq_true _
                      · rw [decide_eq_false h]
                        exact beq_eq_false_iff_ne.mpr h
                    | _ => rfl
                  refine ⟨_, rfl, _, rfl, bp, _, _, _, rfl, rfl, SqT.of (Su _ _ hbp), atI_nat (j := 0) rfl, l, cc.1, dl.same Su, rfl, _, rfl, ?_⟩
                  rw [es]
                  cases e1 : isS cc.1 l with
                  | false =>
                    rw [e1] at ff
                    exact if_f rfl (if_f rfl ⟨_, _, rfl, Su, ff⟩)
                  | true =>
                    rw [e1] at ff
                    refine if_t rfl ?_
                    refine ⟨_, rfl, _, rfl, bp, _, _, _, rfl, rfl, SqT.of (Su _ _ hbp), atI_nat (j := 1) rfl, _, _, rfl, rfl, xo, o, 0, _, rfl, dO.same Su, fun H3 S3 => ⟨_, rfl, ?_⟩⟩
                    have S3' := Su.trans S3
                    cases e2 : btw 0 ((cc.2 : Int) - 1) o with
                    | false =>
                      rw [e2] at ff
                      exact if_f rfl ⟨_, _, rfl, S3', ff⟩
                    | true =>
                      rw [e2] at ff
                      exact if_t rfl ⟨_, rfl, q1 _ xs[i] H3 S3' (nx.trans ff) (dy'.same S3')⟩
                · rintro σ Hx ⟨w5, w6, rfl, Sx, hf⟩
                  refine q0 Hx Sx (nx.trans (hf.trans ?_))
                  have : ((cnts c).zip xs).drop yc.length = [] := by
                    rw [List.drop_eq_nil_iff, List.length_zip, hlc]
                    omega
                  rw [this]
                  rfl
end
end KA
set_option maxRecDepth 100000
set_option maxHeartbeats 4000000
namespace L2
open PySem PySem.Spec PyProof.Rows
section
variable {X : Cx} {d : Addr} {es : Array DictEntry} {n : Nat}
/-- d[key], d a written dict of the module -/
def rIxKd (K : PySem.W.Frag) (d : Addr) : R2 := fun x y H Q => ∃ (z : Str) (u0 : Value) (v0 : V), x = .ref d ∧ y = .str z ∧ PySem.W.nsIn K d z = some (some u0) ∧ RelV v0 u0 ∧ Q v0 H
theorem ix_kd (D : KDict X.K X.w d es n) : IxR X (rIxKd X.K d) := by
  intro value slice pins s σ H x y v u Q I rx ry h hs
  have h2 := op_item_kd D pins s σ H x y v u Q I rx ry h
  obtain ⟨z, u0, v0, rfl, _⟩ := h
  cases rx
  exact tail_any (kd_type D I) PySem.F.slot_dict_getitem.lookup h2 hs
def rNotInKd (K : PySem.W.Frag) (d : Addr) : R2 := fun x y H Q => ∃ (z : Str) (r : Option Value), x = .str z ∧ y = .ref d ∧ PySem.W.nsIn K d z = some r ∧ Q (.bl (!r.isSome)) H
theorem op_notInKd (D : KDict X.K X.w d es n) : OpR X (compareOp .NotIn) (rNotInKd X.K d) := op_notIn_kd D
end
end L2
namespace KA
open PySem PySem.Spec PyProof.Rows L2
/-! ### part_at, is_question, is_query -/
abbrev s_quest : Stmt := top 17
abbrev s_query : Stmt := top 32
def askS (s : S10) (z : Str) (as : List PyData) : Bool := match s with
  | .few 0 => subsetB 2 1 z as
  | .few 1 => wordB [("a", 1)] z as
  | .few 2 => cycleB 2 z as
  | .few 3 => treeB 2 z as
  | .few 4 => matchB 1 z as
  | .row c _ => c && choiceB z as
  | .pow _ _ => false
  | .dec c _ => wordB (cnts c) z as
def askB (s : S10) : List PyData → Bool
  | .str z :: as => askS s z as
  | _ => false
def queryB (s : S10) : PyData → Bool
  | .tuple (.tuple ds :: q) => match partAt s ds with
    | some e => askB e q
    | none => false
  | _ => false
def spQuest : Sp := fun vs H Q _ => ∃ (v : V) (b : Addr) (s : S10) (xs : List V) (q : List PyData), vs = [v, .ref b] ∧ Dat H v (dt s) ∧ okS s = true ∧ H b = some (.tup xs) ∧ DatAll H xs q ∧ ∀ H', Same H H' → Q (.bl (askB s q)) H'
def spQuery : Sp := fun vs H Q _ => ∃ (v x : V) (s : S10) (d : PyData), vs = [v, x] ∧ Dat H v (dt s) ∧ okS s = true ∧ Dat H x d ∧ ∀ H', Same H H' → Q (.bl (queryB s d)) H'
def spWd : Sp := fun vs H Q E => ∃ cs : { cs : Cn // cs.length ≤ 100 }, spQ (okCnt cs.1) (wordB cs.1) vs H Q E
/-- the head word of a part -/
def hdS : S10 → Str
  | .few 0 => "subset"
  | .few 1 => "word"
  | .few 2 => "cycle"
  | .few 3 => "tree"
  | .few 4 => "matching"
  | .row c _ => rowW c
  | .pow _ _ => "power"
  | .dec _ _ => "decorated"
theorem hd_of {H : Hp} {v : V} {s : S10} (h : Dat H v (dt s)) : ∃ (a : Addr) (ps : List V), v = .ref a ∧ H a = some (.tup (.str (hdS s) :: ps)) := by
  cases s with
  | few i =>
    rw [dt] at h
    match i, h with
    | 0, .tup h0 (.cons (.str _ _) _) => exact ⟨_, _, rfl, h0⟩
    | 1, .tup h0 (.cons (.str _ _) _) => exact ⟨_, _, rfl, h0⟩
    | 2, .tup h0 (.cons (.str _ _) _) => exact ⟨_, _, rfl, h0⟩
    | 3, .tup h0 (.cons (.str _ _) _) => exact ⟨_, _, rfl, h0⟩
    | 4, .tup h0 (.cons (.str _ _) _) => exact ⟨_, _, rfl, h0⟩
  | row c xs =>
    rw [dt] at h
    cases h with
    | tup h0 h1 =>
      cases h1 with
      | cons a t =>
        cases a
        exact ⟨_, _, rfl, h0⟩
  | pow n x =>
    rw [dt] at h
    cases h with
    | tup h0 h1 =>
      cases h1 with
      | cons a t =>
        cases a
        exact ⟨_, _, rfl, h0⟩
  | dec c xs =>
    rw [dt] at h
    cases h with
    | tup h0 h1 =>
      cases h1 with
      | cons a t =>
        cases a
        exact ⟨_, _, rfl, h0⟩
theorem tup_of {H : Hp} {a : Addr} {ds : List PyData} (h : Dat H (.ref a) (.tuple ds)) : ∃ xs, H a = some (.tup xs) ∧ DatAll H xs ds := by
  cases h with
  | tup h0 h1 => exact ⟨_, h0, h1⟩
theorem path_ok : ∀ {ds : List PyData} {s e : S10}, okS s = true → partAt s ds = some e → okS e = true
  | [], s, e, hs, h => by
    cases h
    exact hs
  | d :: ds, s, e, hs, h => by
    have h' : (match nextS s d with | none => none | some e' => partAt e' ds) = some e := h
    cases hn : nextS s d with
    | none =>
      rw [hn] at h'
      cases h'
    | some e' =>
      rw [hn] at h'
      exact path_ok (next_ok hs hn) h'
/-- what is known of the checks' dict -/
structure Chk (P : Program) (w : World) (K : PySem.W.Frag) (mg : Str → Option Value) (base : Heap) (dC : Addr) (S : Addr → Option Sp) : Prop where
  g : mg "CHECKS" = some (.ref dC)
  k : ∃ es n, KDict K w dC es n
  held : ∀ f sp, S f = some sp → Held P w K mg base 4 f sp
  n1 : PySem.W.nsIn K dC "product" = some none
  n2 : PySem.W.nsIn K dC "power" = some none
  s1 : ∃ f, PySem.W.nsIn K dC "subset" = some (some (.ref f)) ∧ S f = some (spQ (okSub 2 1) (subsetB 2 1))
  s2 : ∃ f, PySem.W.nsIn K dC "word" = some (some (.ref f)) ∧ S f = some spWd
  s3 : ∃ f, PySem.W.nsIn K dC "cycle" = some (some (.ref f)) ∧ S f = some (spQ (okNum 2) (cycleB 2))
  s4 : ∃ f, PySem.W.nsIn K dC "tree" = some (some (.ref f)) ∧ S f = some (spQ (okNum 2) (treeB 2))
  s5 : ∃ f, PySem.W.nsIn K dC "matching" = some (some (.ref f)) ∧ S f = some (spQ (okNum 1) (matchB 1))
  s6 : ∃ f, PySem.W.nsIn K dC "choice" = some (some (.ref f)) ∧ S f = some (spQ (fun _ _ => True) choiceB)
  s7 : ∃ f, PySem.W.nsIn K dC "decorated" = some (some (.ref f)) ∧ S f = some spWd
section
variable {P : Program} {w : World} {K : PySem.W.Frag} {mg : Str → Option Value} {base : Heap}
theorem fn_ex {ι : Type} {k : Nat} {f : Addr} {fd : FuncData} {ps : List Str} {sp : ι → Sp} (h : ∀ i, FnOk P w K mg base CX0 k f fd ps (sp i)) : FnOk P w K mg base CX0 k f fd ps (fun vs H Q E => ∃ i, sp i vs H Q E) :=
  ⟨fun vs H Q E ⟨i, q⟩ => (h i).len vs H Q E q, fun a b c d e f g i j k l m n ⟨t, q⟩ => (h t).run a b c d e f g i j k l m n q⟩
theorem sc_quest : FnScope ["part", "question", "kind", "check"] ["part", "question"] (defScope s_quest) := ⟨rfl, rfl, rfl, by decide +kernel, rfl, by decide +kernel, by decide +kernel⟩
theorem sc_query : FnScope ["space", "value", "part"] ["space", "value"] (defScope s_query) := ⟨rfl, rfl, rfl, by decide +kernel, rfl, by decide +kernel, by decide +kernel⟩
theorem ok_part {f fN : Addr} {fd fdN : FuncData} (F : Fun K "part_at" "part_at" s_part f fd) (T : Nm mg) (D : DefOk K mg "next_part" s_next ["part", "step"] fN fdN) (G : FnOk P w K mg base CX0 3 fN fdN ["part", "step"] spNext) : FnOk P w K mg base CX0 4 f fd ["space", "path"] spPart := by
  refine F.ok sc_part (fun vs H Q E h => ?_) (fun cdv A outer s H vs Q E hr h => ?_)
  · obtain ⟨v, x, s, d, rfl, _⟩ := h
    rfl
  · obtain ⟨v, x, sp, d, rfl, hv, hx, hok, q0, q1⟩ := h
    refine ⟨_, (pss_cons (ps_if (pt_not (pt_val (pe_callB call_isi (by rfl) T.isinstance boot_isinstance (pa_cons (pv 1) (pa_cons (pe_bltn (v := .ty "tuple") rfl T.tuple (by decide +kernel) rfl) pa_nil)))))
        (pss_one (ps_ret pe_non))
        pss_nil)
      (pss_cons (ps_set (i := 2) sc_part.nd rfl (Or.inl rfl) (pv 0))
      (pss_cons (ps_for PassesOwn.never rfl (pi_tup (pv 1)) (pg_name (i := 3) sc_part.nd rfl (Or.inl rfl))
        (pss_cons (ps_set (i := 2) sc_part.nd rfl (Or.inl rfl) (pe_call G hr rfl D.g D.F.kp D.b .nil pass0 (pa_cons (pv 2) (pa_cons (pv 3) pa_nil))))
        (pss_one (ps_if (pt_cmpR op_isN (pv 2) pe_non (nomark _))
          (pss_one (ps_ret pe_non))
          pss_nil))))
      (pss_one (ps_ret (pv 2)))))), ?_⟩
    refine ⟨_, rfl, x, .ty "tuple", _, _, _, rfl, .ty _, hx.ty, kit_tuple _ d, _, rfl, ?_⟩
    cases ht : isTup d with
    | false =>
      refine if_t rfl (q0 H (Same.refl H) fun ds e => ?_)
      rw [e] at ht
      cases ht
    | true =>
      obtain ⟨ds, rfl⟩ : ∃ ds, d = .tuple ds := by
        cases d with
        | tuple ds => exact ⟨ds, rfl⟩
        | _ => cases ht
      refine if_f rfl ?_
      cases hx with
      | @tup ax xs _ hax hxs =>
        refine ⟨_, rfl, _, rfl, ax, rfl, ⟨_, SqT.of hax⟩, for_tup (K := K) (a := ax) (xs := xs) (fun j σ H' => ∃ (u : V) (e : S10) (w3 : Option V), σ = [some v, some (.ref ax), some u, w3] ∧ Same H H' ∧ Dat H' u (dt e) ∧ okS e = true ∧ partAt sp ds = partAt e (ds.drop j))
          ⟨v, sp, none, rfl, Same.refl H, hv, hok, rfl⟩ (fun j σ H' _ ⟨_, _, _, _, S, _⟩ => SqT.of (S _ _ hax)) ?_ ?_⟩
        · rintro j y σ H1 hj ⟨u, e, w3, rfl, S1, du, oe, hp⟩
          obtain ⟨c, hc, tc⟩ := hxs.get hj
          have hdrop : ds.drop j = c :: ds.drop (j + 1) := by
            obtain ⟨hlt, e⟩ := List.getElem?_eq_some_iff.mp hc
            rw [← e]
            exact List.drop_eq_getElem_cons hlt
          have step : partAt sp ds = match nextS e c with
              | none => none
              | some e' => partAt e' (ds.drop (j + 1)) := by
            rw [hp, hdrop]
            rfl
          refine ⟨_, rfl, _, rfl, u, y, e, c, rfl, du, tc.same S1, oe, fun H2 S2 hn => ?_, fun u2 e2 H2 S2 hn d2 => ?_⟩
          · refine ⟨_, rfl, rfl, _, rfl, if_t rfl ?_⟩
            rw [hn] at step
            refine q0 H2 (S1.trans S2) fun ds' e' => ?_
            injection e' with e'
            rw [← e']
            exact step
          · obtain ⟨a2, ps2, rfl, _⟩ := hd_of d2
            refine ⟨_, rfl, rfl, _, rfl, if_f rfl ?_⟩
            rw [hn] at step
            exact ⟨_, e2, _, rfl, S1.trans S2, d2, next_ok oe hn, step⟩
        · rintro σ H1 ⟨u, e, w3, rfl, S1, du, oe, hp⟩
          have hd : ds.drop xs.length = [] := by rw [hxs.len, List.drop_length]
          rw [hd] at hp
          exact ⟨_, rfl, q1 u e ds H1 S1 rfl hp du⟩
theorem ok_quest {f : Addr} {fd : FuncData} {dC : Addr} {S : Addr → Option Sp} (F : Fun K "is_question" "is_question" s_quest f fd) (T : Nm mg) (Z : Chk P w K mg base dC S) : FnOk P w K mg base CX0 5 f fd ["part", "question"] spQuest := by
  obtain ⟨esC, nC, DC⟩ := Z.k
  refine F.ok sc_quest (fun vs H Q E h => ?_) (fun cdv A outer s H vs Q E hr h => ?_)
  · obtain ⟨v, b, s, xs, q, rfl, _⟩ := h
    rfl
  · obtain ⟨v, b, sp, xs, qs, rfl, hv, hok, hb, hx, q⟩ := h
    refine ⟨_, (pss_cons (ps_set (i := 2) sc_quest.nd rfl (Or.inl rfl) (pe_ix ix_tup (pv 0) pe_int (fun _ _ => rfl)))
      (pss_cons (ps_if (PW.pt (pw_or (pt_cmpR op_eq (pe_callB call_len_seq (by rfl) T.len PySem.boot_len (pa_cons (pv 1) pa_nil)) pe_int (nomark _)) (pw_or (pt_not (pt_val (pe_callB call_isi (by rfl) T.isinstance boot_isinstance (pa_cons (pe_ix ix_tup (pv 1) pe_int (fun _ _ => rfl)) (pa_cons (pe_bltn (v := .ty "str") rfl T.str (by decide +kernel) rfl) pa_nil))))) (pw_or1 (pt_cmpR (op_notInKd (X := _) DC) (pv 2) (pe_glob (v := .ref dC) rfl Z.g rfl) rfl)))))
        (pss_one (ps_ret pe_bl))
        pss_nil)
      (pss_cons (ps_set (i := 3) sc_quest.nd rfl (Or.inl rfl) (pe_ix (ix_kd (X := _) DC) (pe_glob (v := .ref dC) rfl Z.g rfl) (pv 2) (fun _ _ => rfl)))
      (pss_one (ps_ret (pe_callA (i := 3) (S := S) Z.held hr rfl (Or.inl rfl) (pa_cons (pv 0) (pa_cons (pe_ix ix_tup (pv 1) pe_int (fun _ _ => rfl)) (pa_cons (pe_slice sl_tupA (pv 1) (po_some pe_int) po_none) pa_nil))))))))), ?_⟩
    obtain ⟨a0, ps, rfl, h0⟩ := hd_of hv
    have q0 := q H (Same.refl H)
    refine ⟨_, rfl, a0, _, _, _, rfl, rfl, SqT.of h0, atI_nat (j := 0) rfl, ?_⟩
    refine ⟨_, rfl, b, xs, rfl, .inr (SqT.of hb), rfl, _, rfl, ?_⟩
    cases hx with
    | nil => exact if_t rfl (if_t rfl q0)
    | @cons x0 xs' d0 qs' c0 cs =>
      refine if_f (decide_eq_false fun y => ?_) ?_
      · have := V.int.inj y
        rw [List.length_cons] at this
        omega
      refine ⟨_, rfl, b, _, _, x0, rfl, rfl, SqT.of hb, atI_nat (j := 0) rfl, x0, .ty "str", _, _, _, rfl, .ty _, c0.ty, kit_str _ d0, _, rfl, ?_⟩
      by_cases hs : isStr d0 = true
      case neg =>
        rw [Bool.not_eq_true] at hs
        rw [hs]
        refine if_t rfl (if_t rfl ?_)
        have : askB sp (d0 :: qs') = false := by
          cases d0 with
          | str z => cases hs
          | _ => rfl
        rw [this] at q0
        exact q0
      obtain ⟨z, rfl⟩ : ∃ z, d0 = .str z := by
        cases d0 with
        | str z => exact ⟨z, rfl⟩
        | _ => cases hs
      refine if_f rfl ?_
      cases c0 with
      | str _ hz =>
        have qz : ∀ H', Same H H' → Q (.bl (askS sp z qs')) H' := q
        have cut1 : cutV (V.str z :: xs') (some 1) none = xs' := by
          unfold cutV
          have e1 : HT.sIx (V.str z :: xs').length 0 (some ((1 : Nat) : Int)) = min 1 (V.str z :: xs').length := HT.sIx_nat _ _ 1
          have e0 : HT.sIx (V.str z :: xs').length (V.str z :: xs').length none = (V.str z :: xs').length := rfl
          rw [e0]
          have e2 : HT.sIx (V.str z :: xs').length 0 (some 1) = 1 := by
            rw [show (some 1 : Option Int) = some ((1 : Nat) : Int) from rfl, e1, List.length_cons]
            omega
          rw [e2]
          simp
        have yes : ∀ (ok : Hp → List V → Prop) (g : Str → List PyData → Bool), (∀ as, askS sp z as = g z as) → (∀ H', Same H H' → ok H' (.str (hdS sp) :: ps)) → ∀ (b2 : Addr) (H2 : Hp), Same H H2 → H2 b2 = some (.tup xs') → spQ ok g [.ref a0, .str z, .ref b2] H2 Q E0 :=
          fun ok g e3 hok b2 H2 S2 hb2 => ⟨a0, b2, _, z, xs', qs', rfl, S2 _ _ h0, hok H2 S2, hz, hb2, cs.same S2, fun H' S' => by
            rw [← e3]
            exact qz H' (S2.trans S')⟩
        have D : (PySem.W.nsIn K dC (hdS sp) = some none ∧ Q (.bl false) H) ∨ ∃ (fa : Addr) (sq : Sp), PySem.W.nsIn K dC (hdS sp) = some (some (.ref fa)) ∧ S fa = some sq ∧ ∀ (b2 : Addr) (H2 : Hp), Same H H2 → H2 b2 = some (.tup xs') → sq [.ref a0, .str z, .ref b2] H2 Q E0 := by
          cases sp with
          | few i =>
            rw [dt] at hv
            match i, hv, h0, yes with
            | 0, hv, h0, yes =>
              obtain ⟨fa, e1, e2⟩ := Z.s1
              obtain ⟨ys, hy, hd⟩ := tup_of hv
              obtain ⟨v0, v1, v2, rfl, i0, i1, i2⟩ := dat3 hd
              have e := Option.some.inj (hy.symm.trans h0)
              injection e with e
              injection e with _ e
              subst e
              cases i1
              cases i2
              exact .inr ⟨fa, _, e1, e2, yes _ _ (fun _ => rfl) fun _ _ => ⟨_, rfl⟩⟩
            | 1, hv, h0, yes =>
              obtain ⟨fa, e1, e2⟩ := Z.s2
              obtain ⟨ys, hy, hd⟩ := tup_of hv
              obtain ⟨v0, v1, rfl, i0, i1⟩ := dat2 hd
              have e := Option.some.inj (hy.symm.trans h0)
              injection e with e
              injection e with _ e
              subst e
              exact .inr ⟨fa, _, e1, e2, fun b2 H2 S2 hb2 => ⟨⟨[("a", 1)], by decide⟩, yes _ _ (fun _ => rfl) (fun H' S' => ⟨_, _, _, rfl, i1.same S'⟩) b2 H2 S2 hb2⟩⟩
            | 2, hv, h0, yes =>
              obtain ⟨fa, e1, e2⟩ := Z.s3
              obtain ⟨ys, hy, hd⟩ := tup_of hv
              obtain ⟨v0, v1, rfl, i0, i1⟩ := dat2 hd
              have e := Option.some.inj (hy.symm.trans h0)
              injection e with e
              injection e with _ e
              subst e
              cases i1
              exact .inr ⟨fa, _, e1, e2, yes _ _ (fun _ => rfl) fun _ _ => ⟨_, _, rfl⟩⟩
            | 3, hv, h0, yes =>
              obtain ⟨fa, e1, e2⟩ := Z.s4
              obtain ⟨ys, hy, hd⟩ := tup_of hv
              obtain ⟨v0, v1, rfl, i0, i1⟩ := dat2 hd
              have e := Option.some.inj (hy.symm.trans h0)
              injection e with e
              injection e with _ e
              subst e
              cases i1
              exact .inr ⟨fa, _, e1, e2, yes _ _ (fun _ => rfl) fun _ _ => ⟨_, _, rfl⟩⟩
            | 4, hv, h0, yes =>
              obtain ⟨fa, e1, e2⟩ := Z.s5
              obtain ⟨ys, hy, hd⟩ := tup_of hv
              obtain ⟨v0, v1, rfl, i0, i1⟩ := dat2 hd
              have e := Option.some.inj (hy.symm.trans h0)
              injection e with e
              injection e with _ e
              subst e
              cases i1
              exact .inr ⟨fa, _, e1, e2, yes _ _ (fun _ => rfl) fun _ _ => ⟨_, _, rfl⟩⟩
          | row c ys =>
            cases c with
            | false => exact .inl ⟨Z.n1, qz H (Same.refl H)⟩
            | true =>
              obtain ⟨fa, e1, e2⟩ := Z.s6
              exact .inr ⟨fa, _, e1, e2, yes _ _ (fun _ => rfl) fun _ _ => trivial⟩
          | pow n y => exact .inl ⟨Z.n2, qz H (Same.refl H)⟩
          | dec c ys =>
            obtain ⟨fa, e1, e2⟩ := Z.s7
            rw [dt] at hv
            obtain ⟨zs, hy, hd⟩ := tup_of hv
            obtain ⟨v0, v1, v2, rfl, i0, i1, i2⟩ := dat3 hd
            have e := Option.some.inj (hy.symm.trans h0)
            injection e with e
            injection e with _ e
            subst e
            exact .inr ⟨fa, _, e1, e2, fun b2 H2 S2 hb2 => ⟨⟨cnts c, by match c with | 0 => decide | 1 => decide | 2 => decide⟩, yes _ _ (fun _ => rfl) (fun H' S' => ⟨_, _, _, rfl, i1.same S'⟩) b2 H2 S2 hb2⟩⟩
        rcases D with ⟨hns, qf⟩ | ⟨fa, sq, hns, hS, hsp⟩
        · exact ⟨_, rfl, hdS sp, none, rfl, rfl, hns, _, rfl, if_t rfl qf⟩
        · refine ⟨_, rfl, hdS sp, _, rfl, rfl, hns, _, rfl, if_f rfl ⟨_, rfl, hdS sp, .ref fa, .ref fa, rfl, rfl, hns, rfl, fa, sq, rfl, hS, _, rfl, _, rfl, b, _, _, .str z, rfl, rfl, SqT.of hb, atI_nat (j := 0) rfl, _, rfl, 1, rfl, ?_⟩⟩
          dsimp only [tNoPart]
          refine slAny_of hb fun b2 H2 S2 hb2 => ?_
          rw [cut1] at hb2
          exact hsp b2 H2 S2 hb2
theorem ok_query {f fP fQ : Addr} {fd fdP fdQ : FuncData} (F : Fun K "is_query" "is_query" s_query f fd) (T : Nm mg) (DP : DefOk K mg "part_at" s_part ["space", "path"] fP fdP) (GP : FnOk P w K mg base CX0 4 fP fdP ["space", "path"] spPart)
    (DQ : DefOk K mg "is_question" s_quest ["part", "question"] fQ fdQ) (GQ : FnOk P w K mg base CX0 5 fQ fdQ ["part", "question"] spQuest) : FnOk P w K mg base CX0 6 f fd ["space", "value"] spQuery := by
  refine F.ok sc_query (fun vs H Q E h => ?_) (fun cdv A outer s H vs Q E hr h => ?_)
  · obtain ⟨v, x, s, d, rfl, _⟩ := h
    rfl
  · obtain ⟨v, x, sp, d, rfl, hv, hok, hx, q⟩ := h
    have hr4 : Room 4 _ := hr.mono (by decide)
    refine ⟨_, (pss_cons (ps_if (PW.pt (pw_or (pt_not (pt_val (pe_callB call_isi (by rfl) T.isinstance boot_isinstance (pa_cons (pv 1) (pa_cons (pe_bltn (v := .ty "tuple") rfl T.tuple (by decide +kernel) rfl) pa_nil))))) (pw_or1 (pt_cmpR op_eq (pe_callB call_len_seq (by rfl) T.len PySem.boot_len (pa_cons (pv 1) pa_nil)) pe_int (nomark _)))))
        (pss_one (ps_ret pe_bl))
        pss_nil)
      (pss_cons (ps_set (i := 2) sc_query.nd rfl (Or.inl rfl) (pe_call GP hr4 rfl DP.g DP.F.kp DP.b .nil pass0 (pa_cons (pv 0) (pa_cons (pe_ix ix_tup (pv 1) pe_int (fun _ _ => rfl)) pa_nil))))
      (pss_one (ps_ret (pe_and (pe_cmpR op_notN (pv 2) pe_non (nomark _)) (pe_one (pe_call GQ hr rfl DQ.g DQ.F.kp DQ.b .nil pass0 (pa_cons (pv 2) (pa_cons (pe_slice sl_tupA (pv 1) (po_some pe_int) po_none) pa_nil))))))))), ?_⟩
    have q0 := q H (Same.refl H)
    refine ⟨_, rfl, x, .ty "tuple", _, _, _, rfl, .ty _, hx.ty, kit_tuple _ d, _, rfl, ?_⟩
    by_cases ht : isTup d = true
    case neg =>
      rw [Bool.not_eq_true] at ht
      have e : queryB sp d = false := by
        cases d with
        | tuple ds => cases ht
        | _ => rfl
      rw [ht]
      rw [e] at q0
      exact if_t rfl (if_t rfl q0)
    obtain ⟨ds, rfl⟩ : ∃ ds, d = .tuple ds := by
      cases d with
      | tuple ds => exact ⟨ds, rfl⟩
      | _ => cases ht
    refine if_f rfl ?_
    cases hx with
    | @tup ax xs _ hax hxs =>
      refine ⟨_, rfl, ax, xs, rfl, .inr (SqT.of hax), rfl, _, rfl, ?_⟩
      cases hxs with
      | nil => exact if_t rfl q0
      | @cons x0 xs' d0 qs c0 cs =>
        refine if_f (decide_eq_false fun y => ?_) ?_
        · have := V.int.inj y
          rw [List.length_cons] at this
          omega
        have cut1 : cutV (x0 :: xs') (some 1) none = xs' := by
          unfold cutV
          have e1 : HT.sIx (x0 :: xs').length 0 (some ((1 : Nat) : Int)) = min 1 (x0 :: xs').length := HT.sIx_nat _ _ 1
          have e0 : HT.sIx (x0 :: xs').length (x0 :: xs').length none = (x0 :: xs').length := rfl
          rw [e0]
          have e2 : HT.sIx (x0 :: xs').length 0 (some 1) = 1 := by
            rw [show (some 1 : Option Int) = some ((1 : Nat) : Int) from rfl, e1, List.length_cons]
            omega
          rw [e2]
          simp
        refine ⟨_, rfl, _, rfl, ax, _, _, x0, rfl, rfl, SqT.of hax, atI_nat (j := 0) rfl, v, x0, sp, d0, rfl, hv, c0, hok, fun H1 S1 hn => ?_, fun u e ds H1 S1 hd0 hp du => ?_⟩
        · have z1 := q H1 S1
          have e : queryB sp (.tuple (d0 :: qs)) = false := by
            cases d0 with
            | tuple ds =>
              show (match partAt sp ds with | some e => askB e qs | none => false) = false
              rw [hn ds rfl]
            | _ => rfl
          rw [e] at z1
          exact ⟨_, rfl, rfl, _, rfl, if_f rfl z1⟩
        · subst hd0
          obtain ⟨a2, ps2, rfl, _⟩ := hd_of du
          refine ⟨_, rfl, rfl, _, rfl, if_t rfl ⟨_, rfl, _, rfl, 1, rfl, ?_⟩⟩
          dsimp only [tNoPart]
          refine slAny_of (S1 _ _ hax) fun b2 H2 S2 hb2 => ?_
          rw [cut1] at hb2
          refine ⟨_, b2, e, xs', qs, rfl, du.same S2, ?_, hb2, (cs.same S1).same S2, fun H' S' => ?_⟩
          · exact path_ok hok hp
          · have z1 := q H' ((S1.trans S2).trans S')
            have e2 : queryB sp (.tuple (.tuple ds :: qs)) = askB e qs := by
              show (match partAt sp ds with | some e => askB e qs | none => false) = askB e qs
              rw [hp]
            rw [e2] at z1
            exact z1
end
end KA
set_option maxRecDepth 100000
set_option maxHeartbeats 8000000
namespace KA
open PySem PySem.Spec PyProof.Rows L2
/-- without r -/
def noR (r : Addr) (H : Hp) : Hp := fun b => if b = r then none else H b
theorem noR_sub {r : Addr} {H : Hp} : Same (noR r H) H := fun b o e => by
  unfold noR at e
  split at e
  · cases e
  · exact e
theorem noR_upd {r : Addr} {H : Hp} {o : HO} : noR r (upd H r o) = noR r H := by
  funext b
  unfold noR
  by_cases e : b = r
  · rw [if_pos e, if_pos e]
  · rw [if_neg e, if_neg e, upd_ne e]
theorem noR_at {r b : Addr} {H : Hp} {o : HO} (h : H b = some o) (n : b ≠ r) : noR r H b = some o := by
  unfold noR
  rw [if_neg n]
  exact h
theorem noR_off {p q r : Addr} {H H' : Hp} (O : Off p q H H') : Same (hide p q (noR r H)) (hide p q (noR r H')) := fun b o e => by
  unfold hide noR at e ⊢
  split at e
  · cases e
  · rename_i h
    rw [if_neg h]
    split at e
    · cases e
    · rename_i h2
      rw [if_neg h2]
      exact O _ _ e (fun z => h (.inl z)) (fun z => h (.inr z))
theorem noR_hide {p q r : Addr} {H : Hp} : Same (hide p q (noR r H)) (hide p q H) := hide_same noR_sub
mutual
def noL : PyData → Bool
  | .list _ => false
  | .dict _ => false
  | .tuple l => noLs l
  | .none => true
  | .bool _ => true
  | .int _ => true
  | .str _ => true
def noLs : List PyData → Bool
  | [] => true
  | d :: ds => noL d && noLs ds
end
mutual
theorem dat_noR {H : Hp} {r : Addr} {zs : List V} (hr : H r = some (.lst zs)) : ∀ {v : V} {d : PyData}, Dat H v d → noL d = true → Dat (noR r H) v d
  | _, _, .non, _ => .non
  | _, _, .bl b, _ => .bl b
  | _, _, .int i, _ => .int i
  | _, _, .str x h, _ => .str x h
  | _, _, .lst _ _, h => by simp [noL] at h
  | _, _, .d0 _, h => by simp [noL] at h
  | _, _, .tup (a := a) e t, h => .tup (noR_at e fun z => by rw [z, hr] at e; cases e) (datAll_noR hr t (by simpa only [noL] using h))
theorem datAll_noR {H : Hp} {r : Addr} {zs : List V} (hr : H r = some (.lst zs)) : ∀ {vs : List V} {ds : List PyData}, DatAll H vs ds → noLs ds = true → DatAll (noR r H) vs ds
  | _, _, .nil, _ => .nil
  | _, _, .cons (d := d) (ds := ds) a t, h => by
    have h' : noL d = true ∧ noLs ds = true := by simpa only [noLs, Bool.and_eq_true] using h
    exact .cons (dat_noR hr a h'.1) (datAll_noR hr t h'.2)
end
theorem noLs_iff : ∀ {l : List PyData}, noLs l = true ↔ ∀ d ∈ l, noL d = true
  | [] => by simp [noLs]
  | a :: l => by simp [noLs, noLs_iff (l := l)]
theorem same_noR {r : Addr} {H H' : Hp} (S : Same H H') : Same (noR r H) (noR r H') := fun b o e => by
  unfold noR at e ⊢
  split at e
  · cases e
  · rename_i h
    rw [if_neg h]
    exact S _ _ e
mutual
theorem dat_hide {H : Hp} {p q : Addr} {b : Nat} (D : Dk H p q b) : ∀ {v : V} {d : PyData}, Dat H v d → noL d = true → Dat (hide p q H) v d
  | _, _, .non, _ => .non
  | _, _, .bl b, _ => .bl b
  | _, _, .int i, _ => .int i
  | _, _, .str x h, _ => .str x h
  | _, _, .lst _ _, h => by simp [noL] at h
  | _, _, .d0 _, h => by simp [noL] at h
  | _, _, .tup (a := a) e t, h => .tup (hide_at e (dk_ne D e).1 (dk_ne D e).2) (datAll_hide D t (by simpa only [noL] using h))
theorem datAll_hide {H : Hp} {p q : Addr} {b : Nat} (D : Dk H p q b) : ∀ {vs : List V} {ds : List PyData}, DatAll H vs ds → noLs ds = true → DatAll (hide p q H) vs ds
  | _, _, .nil, _ => .nil
  | _, _, .cons (d := d) (ds := ds) a t, h => by
    have h' : noL d = true ∧ noLs ds = true := by simpa only [noLs, Bool.and_eq_true] using h
    exact .cons (dat_hide D a h'.1) (datAll_hide D t h'.2)
end
/-! ### the law's spaces -/
abbrev s_few : Stmt := top 37
abbrev s_deep : Stmt := top 38
mutual
def dpS : S10 → Nat
  | .few _ => 1
  | .row _ xs => 1 + dpSs xs
  | .pow _ x => 1 + dpS x
  | .dec _ xs => 1 + dpSs xs
def dpSs : List S10 → Nat
  | [] => 0
  | x :: xs => max (dpS x) (dpSs xs)
end
def spFew : Sp := fun vs H Q _ => ∃ (p q : Addr) (b : Nat), vs = [.ref p] ∧ Dk H p q b ∧ b + 10 ≤ 100000000 ∧ ∀ (v : V) (i : Fin 5) (H' : Hp), Off p q H H' → Dk H' p q (b + 1) → Dat (hide p q H') v (dt (.few i)) → Q v H'
def spDeep (n : Nat) : Sp := fun vs H Q _ => ∃ (p q : Addr) (b : Nat), vs = [.ref p, .int ((n + 1 : Nat) : Int)] ∧ Dk H p q b ∧ b + 10 * n + 10 ≤ 100000000 ∧ ∀ (v : V) (s : S10) (H' : Hp), Off p q H H' → Dk H' p q (b + 10 * n + 5) → Dat (hide p q H') v (dt s) → okS s = true → dpS s ≤ n + 1 → Q v H'
section
variable {P : Program} {w : World} {K : PySem.W.Frag} {mg : Str → Option Value} {base : Heap}
theorem sc_few : FnScope ["_law_deck_here"] ["_law_deck_here"] (defScope s_few) := ⟨rfl, rfl, rfl, by decide +kernel, rfl, by decide +kernel, by decide +kernel⟩
theorem sc_deep : FnScope ["_law_deck_here", "_law_depth", "_law_inner", "_law_leaf", "_law_sort", "_law_counts"] ["_law_deck_here", "_law_depth"] (defScope s_deep) := ⟨rfl, rfl, rfl, by decide +kernel, rfl, by decide +kernel, by decide +kernel⟩
theorem list_of {H : Hp} {v : V} {ds : List PyData} (h : Dat H v (.list ds)) : ∃ a xs, v = .ref a ∧ H a = some (.lst xs) ∧ DatAll H xs ds := by
  cases h with
  | lst h0 h1 => exact ⟨_, _, rfl, h0, h1⟩
theorem ok_few {f fP : Addr} {fd fdP : FuncData} (F : Fun K "_law_few" "_law_few" s_few f fd) (D_pick : DefOk K mg "_law_pick" sPick ["_law_deck_here", "_law_items"] fP fdP) (G_pick : FnOk P w K mg base CX0 2 fP fdP ["_law_deck_here", "_law_items"] spPick) : FnOk P w K mg base CX0 3 f fd ["_law_deck_here"] spFew := by
  refine F.ok sc_few (fun vs H Q E h => ?_) (fun cdv A outer s H vs Q E hr h => ?_)
  · obtain ⟨p, q, b, rfl, _⟩ := h
    rfl
  · obtain ⟨p, q, b, rfl, D, hb, k⟩ := h
    refine ⟨_, (pss_one (ps_ret (pe_call G_pick hr rfl D_pick.g D_pick.F.kp D_pick.b .nil pass0 (pa_cons (pv 0) (pa_cons (pd_lst (by decide) (pd_cons (pd_tup (by decide) (pd_cons (pd_str (by decide) pe_str) (pd_cons (pd_int pe_int) (pd_cons (pd_int pe_int) pd_nil)))) (pd_cons (pd_tup (by decide) (pd_cons (pd_str (by decide) pe_str) (pd_cons (pd_tup (by decide) (pd_cons (pd_tup (by decide) (pd_cons (pd_str (by decide) pe_str) (pd_cons (pd_int pe_int) pd_nil))) pd_nil)) pd_nil))) (pd_cons (pd_tup (by decide) (pd_cons (pd_str (by decide) pe_str) (pd_cons (pd_int pe_int) pd_nil))) (pd_cons (pd_tup (by decide) (pd_cons (pd_str (by decide) pe_str) (pd_cons (pd_int pe_int) pd_nil))) (pd_cons (pd_tup (by decide) (pd_cons (pd_str (by decide) pe_str) (pd_cons (pd_int pe_int) pd_nil))) pd_nil)))))) pa_nil))))), ?_⟩
    refine ⟨_, rfl, fun u H1 S1 du => ?_⟩
    have D1 := D.same S1
    have du' : Dat H1 u (.list [fewD 0, fewD 1, fewD 2, fewD 3, fewD 4]) := du
    obtain ⟨l, xs, rfl, hl, hxs⟩ := list_of du'
    have lp : l ≠ p ∧ l ≠ q := by
      obtain ⟨ns, m, c, D0, _⟩ := D1
      refine ⟨fun e => ?_, fun e => ?_⟩
      · rw [e, D0.ob] at hl
        injection hl with hl
        injection hl with hl
        rw [← hl] at hxs
        cases hxs with
        | cons _ t =>
          cases t with
          | cons a _ => cases a
      · rw [e, D0.ce] at hl
        injection hl with hl
        injection hl with hl
        rw [← hl] at hxs
        cases ns with
        | nil => cases hxs
        | cons y ys =>
          cases hxs with
          | cons a _ => cases a
    have xl := hxs.len
    -- what the list holds lies apart from the deck
    have apart : ∀ {v : V} {d : PyData}, Dat H1 v d → noL d = true → Dat (hide p q H1) v d := fun {v d} h n => dat_hide D1 h n
    refine pick_of (E := E0) D1 hl lp.1 lp.2 (by rw [xl]; decide) (by rw [xl]; decide) (by omega) fun j x H' hx off D' => ?_
    obtain ⟨d, hd, td⟩ := hxs.get hx
    have hj : j < 5 := by
      have := (List.getElem?_eq_some_iff.mp hx).1
      rw [xl] at this
      exact this
    have hd' : d = dt (.few ⟨j, hj⟩) := by
      rw [dt]
      match j, hj, hd with
      | 0, _, hd => exact (Option.some.inj hd).symm
      | 1, _, hd => exact (Option.some.inj hd).symm
      | 2, _, hd => exact (Option.some.inj hd).symm
      | 3, _, hd => exact (Option.some.inj hd).symm
      | 4, _, hd => exact (Option.some.inj hd).symm
    subst hd'
    refine k x ⟨j, hj⟩ H' ((Off.of_same S1).trans off) D' ((apart td ?_).same (hide_off off))
    rw [dt]
    match j, hj with
    | 0, _ => rfl
    | 1, _ => rfl
    | 2, _ => rfl
    | 3, _ => rfl
    | 4, _ => rfl
end
end KA
set_option maxRecDepth 100000
set_option maxHeartbeats 8000000
namespace KA
open PySem PySem.Spec PyProof.Rows L2
theorem dt_row (c : Bool) (xs : List S10) : dt (.row c xs) = .tuple [.str (rowW c), .tuple (dts xs)] := by rw [dt]
theorem dt_pow (n : Nat) (x : S10) : dt (.pow n x) = .tuple [.str "power", .int (n : Nat), dt x] := by rw [dt]
theorem dt_dec (c : Fin 3) (xs : List S10) : dt (.dec c xs) = .tuple [.str "decorated", cntsD (cnts c), .tuple (dts xs)] := by rw [dt]
theorem dts2 (x y : S10) : dts [x, y] = [dt x, dt y] := by rw [dts, dts, dts]
theorem dts1 (x : S10) : dts [x] = [dt x] := by rw [dts, dts]
theorem ok2 {x y : S10} (hx : okS x = true) (hy : okS y = true) : okSs [x, y] = true := by rw [okSs, okSs, okSs, hx, hy]; rfl
theorem ok1 {x : S10} (hx : okS x = true) : okSs [x] = true := by rw [okSs, okSs, hx]; rfl
theorem okfew (i : Fin 5) : okS (.few i) = true := by rw [okS]
theorem dpfew (i : Fin 5) : dpS (.few i) = 1 := by rw [dpS]
theorem dp2 (x y : S10) : dpSs [x, y] = max (dpS x) (max (dpS y) 0) := by rw [dpSs, dpSs, dpSs]
theorem dp1 (x : S10) : dpSs [x] = max (dpS x) 0 := by rw [dpSs, dpSs]
theorem cnts_noL (c : Fin 3) : noL (cntsD (cnts c)) = true := by
  match c with
  | 0 => rfl
  | 1 => rfl
  | 2 => rfl
section
variable {P : Program} {w : World} {K : PySem.W.Frag} {mg : Str → Option Value} {base : Heap}
theorem deep_body {f fF fD : Addr} {fd fdF fdD : FuncData} {sp : Sp} (n : Nat) (F : Fun K "_law_deep" "_law_deep" s_deep f fd) (bb : L2.Binds K fd ["_law_deck_here", "_law_depth"] []) (g : mg "_law_deep" = some (.ref f)) (G : FnOk P w K mg base CX0 (3 + n) f fd ["_law_deck_here", "_law_depth"] sp) (T : Nm mg)
    (D_few : DefOk K mg "_law_few" s_few ["_law_deck_here"] fF fdF) (G_few : FnOk P w K mg base CX0 3 fF fdF ["_law_deck_here"] spFew) (D_draw : DefOk K mg "_law_draw" sDraw ["_law_deck_here", "_law_bound"] fD fdD)
    (hn : ∀ m, n = m + 1 → ∀ (p q : Addr) (b : Nat) (H : Hp) (R : VK), Dk H p q b → b + 10 * m + 10 ≤ 100000000 → (∀ (v : V) (s : S10) (H' : Hp), Off p q H H' → Dk H' p q (b + 10 * m + 5) → Dat (hide p q H') v (dt s) → okS s = true → dpS s ≤ m + 1 → R v H') → sp [.ref p, .int (((m + 1 + 1 : Nat) : Int) - 1)] H R E0) :
    FnOk P w K mg base CX0 (4 + n) f fd ["_law_deck_here", "_law_depth"] (spDeep n) := by
  have G_draw : FnOk P w K mg base CX0 1 fD fdD ["_law_deck_here", "_law_bound"] spDraw := ok_draw D_draw.F
  rw [show 4 + n = (3 + n) + 1 by omega]
  refine F.ok sc_deep (fun vs H Q E h => ?_) (fun cdv A outer s H vs Q E hr h => ?_)
  · obtain ⟨p, q, b, rfl, _⟩ := h
    rfl
  · obtain ⟨p, q, b, rfl, D, hb, k⟩ := h
    have hr1 : Room 1 _ := hr.mono (by omega)
    have hr3 : Room 3 _ := hr.mono (by omega)
    refine ⟨_, (pss_cons (ps_if (pt_cmpR op_eq (pv 1) pe_int (nomark _))
        (pss_one (ps_ret (pe_call G_few hr3 rfl D_few.g D_few.F.kp D_few.b .nil pass0 (pa_cons (pv 0) pa_nil))))
        pss_nil)
      (pss_cons (ps_par3 (i := 2) (j := 3) (l := 4) rfl sc_deep.nd rfl rfl rfl (by decide) (by decide) (by decide) rfl rfl rfl (pa_cons (pe_call G hr rfl g F.kp bb .nil pass0 (pa_cons (pv 0) (pa_cons (pe_op op_sub (pv 1) pe_int) pa_nil))) (pa_cons (pe_call G_few hr3 rfl D_few.g D_few.F.kp D_few.b .nil pass0 (pa_cons (pv 0) pa_nil)) (pa_cons (pe_call G_draw hr1 rfl D_draw.g D_draw.F.kp D_draw.b .nil pass0 (pa_cons (pv 0) (pa_cons pe_int pa_nil))) pa_nil))) (by rfl))
      (pss_cons (ps_if (pt_cmpR op_lt (pv 4) pe_int (nomark _))
        (pss_one (ps_ret (pe_tup (pa_cons (pe_ix ix_list (pe_lst (pa_cons pe_str (pa_cons pe_str pa_nil))) (pv 4) (fun _ _ => rfl)) (pa_cons (pe_ix ix_list (pe_lst (pa_cons (pe_tup (pa_cons (pv 2) (pa_cons (pv 3) pa_nil))) (pa_cons (pe_tup (pa_cons (pv 3) (pa_cons (pv 2) pa_nil))) (pa_cons (pe_tup (pa_cons (pv 2) pa_nil)) pa_nil)))) (pe_call G_draw hr1 rfl D_draw.g D_draw.F.kp D_draw.b .nil pass0 (pa_cons (pv 0) (pa_cons pe_int pa_nil))) (fun _ _ => rfl)) pa_nil)))))
        pss_nil)
      (pss_cons (ps_if (pt_cmpR op_eq (pv 4) pe_int (nomark _))
        (pss_one (ps_ret (pe_tup (pa_cons pe_str (pa_cons (pe_ix ix_list (pe_lst (pa_cons pe_int (pa_cons pe_int (pa_cons pe_int (pa_cons pe_int pa_nil))))) (pe_call G_draw hr1 rfl D_draw.g D_draw.F.kp D_draw.b .nil pass0 (pa_cons (pv 0) (pa_cons pe_int pa_nil))) (fun _ _ => rfl)) (pa_cons (pv 2) pa_nil))))))
        pss_nil)
      (pss_cons (ps_set (i := 5) sc_deep.nd rfl (Or.inl rfl) (pe_ix ix_list (pd_lst (by decide) (pd_cons (pd_tup (by decide) (pd_cons (pd_tup (by decide) (pd_cons (pd_str (by decide) pe_str) (pd_cons (pd_int pe_int) pd_nil))) (pd_cons (pd_tup (by decide) (pd_cons (pd_str (by decide) pe_str) (pd_cons (pd_int pe_int) pd_nil))) pd_nil))) (pd_cons (pd_tup (by decide) (pd_cons (pd_tup (by decide) (pd_cons (pd_str (by decide) pe_str) (pd_cons (pd_int pe_int) pd_nil))) (pd_cons (pd_tup (by decide) (pd_cons (pd_str (by decide) pe_str) (pd_cons (pd_int pe_int) pd_nil))) pd_nil))) (pd_cons (pd_tup (by decide) (pd_cons (pd_tup (by decide) (pd_cons (pd_str (by decide) pe_str) (pd_cons (pd_int pe_int) pd_nil))) pd_nil)) pd_nil)))) (pe_call G_draw hr1 rfl D_draw.g D_draw.F.kp D_draw.b .nil pass0 (pa_cons (pv 0) (pa_cons pe_int pa_nil))) (fun _ _ => rfl)))
      (pss_one (ps_ret (pe_tup (pa_cons pe_str (pa_cons (pv 5) (pa_cons (pe_ifExp (pt_cmpR op_lt (pv 4) pe_int (nomark _)) (pe_slice sl_tupA (pe_tup (pa_cons (pv 3) (pa_cons (pv 2) pa_nil))) (po_some (pe_op op_sub pe_int (pe_callB call_len_seq (by rfl) T.len PySem.boot_len (pa_cons (pv 5) pa_nil)))) po_none) (pe_slice sl_tupA (pe_tup (pa_cons (pv 2) (pa_cons (pv 3) pa_nil))) po_none (po_some (pe_callB call_len_seq (by rfl) T.len PySem.boot_len (pa_cons (pv 5) pa_nil))))) pa_nil))))))))))), ?_⟩
    refine ⟨_, rfl, rfl, _, rfl, ?_⟩
    cases n with
    | zero =>
      refine if_t rfl ⟨_, rfl, p, q, b, rfl, D, by omega, fun v i H' O' D' d' => k v (.few i) H' O' (D'.mono (by omega)) d' (okfew i) (by rw [dpfew]; omega)⟩
    | succ m =>
      refine if_f (decide_eq_false fun z => by have := V.int.inj z; omega) ?_
      refine ⟨_, rfl, _, rfl, _, _, rfl, rfl, hn m rfl p q b H _ D (by omega) fun v1 s1 H1 O1 D1 d1 k1 p1 => ?_⟩
      refine ⟨_, rfl, p, q, _, rfl, D1, by omega, fun v2 i2 H2 O2 D2 d2 => ?_⟩
      obtain ⟨ds2, m2, c2, D2', hc2⟩ := D2
      refine ⟨_, rfl, p, q, ds2, m2, c2, 6, rfl, by decide, by decide, D2', by omega, fun so ds3 H3 so0 so1 O3 D3' => ⟨_, _, _, rfl, ?_⟩⟩
      obtain ⟨so, rfl⟩ := nat_of so0
      have D3 : Dk H3 p q (b + 10 * m + 7) := ⟨_, m2, _, D3', by omega⟩
      have O13 := (O1.trans O2).trans O3
      have e1 := (d1.same (hide_off O2)).same (hide_off O3)
      have e2 := d2.same (hide_off O3)
      clear O1 O2 O3 d1 d2 D1 D2' D3' D
      refine ⟨_, rfl, _, _, rfl, rfl, _, rfl, ?_⟩
      by_cases z2 : so < 2
      · refine if_t (decide_eq_true (by omega)) ?_
        refine ⟨(by show 2 ≤ sizeLine; decide), fun l1 nl1 => ?_⟩
        have S1 := same_new (o := HO.lst [.str "product", .str "choice"]) nl1
        have ec : atI [V.str "product", V.str "choice"] ((so : Nat) : Int) = some (.str (rowW (decide (so = 1)))) := by
          match so, z2 with
          | 0, _ => rfl
          | 1, _ => rfl
        refine ⟨_, rfl, l1, _, _, _, rfl, rfl, SqL.of upd_same, ec, ?_⟩
        have D4 := D3.same S1
        have O4 := O13.trans (.of_same S1)
        have e1 := e1.same (hide_same (p := p) (q := q) S1)
        have e2 := e2.same (hide_same (p := p) (q := q) S1)
        generalize upd H3 l1 (.lst [.str "product", .str "choice"]) = H4 at D4 O4 e1 e2 ⊢
        refine ⟨_, rfl, _, rfl, (by show 2 ≤ sizeLine; decide), fun t1 n1 => ⟨_, rfl, _, rfl, (by show 2 ≤ sizeLine; decide), fun t2 n2 => ⟨_, rfl, (by show 1 ≤ sizeLine; decide), fun t3 n3 => ⟨(by show 3 ≤ sizeLine; decide), fun l2 nl2 => ?_⟩⟩⟩⟩
        have y1 := same_new (o := HO.tup [v1, v2]) n1
        have y2 := same_new (o := HO.tup [v2, v1]) n2
        have y3 := same_new (o := HO.tup [v1]) n3
        have y4 := same_new (o := HO.lst [.ref t1, .ref t2, .ref t3]) nl2
        have w1 := hide_new (o := .tup [v1, v2]) D4 n1
        have w2 := hide_new (o := .tup [v2, v1]) (D4.same y1) n2
        have w3 := hide_new (o := .tup [v1]) ((D4.same y1).same y2) n3
        have S5 := ((y1.trans y2).trans y3).trans y4
        have w1 := hide_same (p := p) (q := q) ((y2.trans y3).trans y4) _ _ w1
        have w2 := hide_same (p := p) (q := q) (y3.trans y4) _ _ w2
        have w3 := hide_same (p := p) (q := q) y4 _ _ w3
        have w4 : upd (upd (upd (upd H4 t1 (.tup [v1, v2])) t2 (.tup [v2, v1])) t3 (.tup [v1])) l2 (.lst [.ref t1, .ref t2, .ref t3]) l2 = some (.lst [.ref t1, .ref t2, .ref t3]) := upd_same
        have np : l2 ≠ p ∧ l2 ≠ q := (((D4.same y1).same y2).same y3).new nl2
        have D5 := D4.same S5
        have O5 := O4.trans (.of_same S5)
        have e1 := e1.same (hide_same (p := p) (q := q) S5)
        have e2 := e2.same (hide_same (p := p) (q := q) S5)
        generalize upd (upd (upd (upd H4 t1 (.tup [v1, v2])) t2 (.tup [v2, v1])) t3 (.tup [v1])) l2 (.lst [.ref t1, .ref t2, .ref t3]) = H5 at w1 w2 w3 w4 D5 O5 e1 e2 ⊢
        clear y1 y2 y3 y4 S5 n1 n2 n3 nl2
        obtain ⟨ds5, m5, c5, D5', hc5⟩ := D5
        refine ⟨_, rfl, p, q, ds5, m5, c5, 3, rfl, by decide, by decide, D5', by omega, fun j ds6 H6 j0 j1 O6 D6' => ?_⟩
        obtain ⟨j, rfl⟩ := nat_of j0
        have D6 : Dk H6 p q (b + 10 * m + 8) := ⟨_, m5, _, D6', by omega⟩
        have hl6 := O6 _ _ w4 np.1 np.2
        have e1 := e1.same (hide_off O6)
        have e2 := e2.same (hide_off O6)
        have O6' := O5.trans O6
        have fin : ∀ (t : Addr) (vs : List V) (xs : List S10), hide p q H5 t = some (.tup vs) → DatAll (hide p q H6) vs (dts xs) → okSs xs = true → xs.length ≤ 2 → dpSs xs ≤ m + 1 → ∀ a, H6 a = none → Q (.ref a) (upd H6 a (.tup [.str (rowW (decide (so = 1))), .ref t])) := fun t vs xs ht hd ho hl hp a na => by
          have Sa := same_new (o := HO.tup [.str (rowW (decide (so = 1))), .ref t]) na
          refine k _ (.row (decide (so = 1)) xs) _ (O6'.trans (.of_same Sa)) ((D6.same Sa).mono (by omega)) ?_ ?_ ?_
          · rw [dt_row]
            refine .tup (hide_new D6 na) (.cons (.str _ ?_) (.cons (.tup (hide_same Sa _ _ (hide_off O6 _ _ ht)) (hd.same (hide_same Sa))) .nil))
            cases decide (so = 1) <;> decide
          · rw [okS, ho, decide_eq_true hl]
            rfl
          · rw [dpS]
            omega
        have j3 : j = 0 ∨ j = 1 ∨ j = 2 := by omega
        rcases j3 with rfl | rfl | rfl
        · refine ⟨l2, _, _, .ref t1, rfl, rfl, SqL.of hl6, rfl, (by show 2 ≤ sizeLine; decide), fun a na => fin t1 _ [s1, .few i2] w1 (by rw [dts2]; exact .cons e1 (.cons e2 .nil)) (ok2 k1 (okfew i2)) (by show 2 ≤ 2; decide) (by rw [dp2, dpfew]; omega) a na⟩
        · refine ⟨l2, _, _, .ref t2, rfl, rfl, SqL.of hl6, rfl, (by show 2 ≤ sizeLine; decide), fun a na => fin t2 _ [.few i2, s1] w2 (by rw [dts2]; exact .cons e2 (.cons e1 .nil)) (ok2 (okfew i2) k1) (by show 2 ≤ 2; decide) (by rw [dp2, dpfew]; omega) a na⟩
        · refine ⟨l2, _, _, .ref t3, rfl, rfl, SqL.of hl6, rfl, (by show 2 ≤ sizeLine; decide), fun a na => fin t3 _ [s1] w3 (by rw [dts1]; exact .cons e1 .nil) (ok1 k1) (by show 1 ≤ 2; decide) (by rw [dp1]; omega) a na⟩
      refine if_f (decide_eq_false (by omega)) ?_
      refine ⟨_, rfl, rfl, _, rfl, ?_⟩
      by_cases z3 : so = 2
      · refine if_t (decide_eq_true (by rw [z3]; rfl)) ?_
        refine ⟨(by show 4 ≤ sizeLine; decide), fun l1 nl1 => ?_⟩
        have S1 := same_new (o := HO.lst [.int 2, .int 3, .int 1, .int 0]) nl1
        have w4 : upd H3 l1 (.lst [.int 2, .int 3, .int 1, .int 0]) l1 = some (.lst [.int 2, .int 3, .int 1, .int 0]) := upd_same
        have np := D3.new nl1
        have D4 := D3.same S1
        have O4 := O13.trans (.of_same S1)
        have e1 := e1.same (hide_same (p := p) (q := q) S1)
        generalize upd H3 l1 (.lst [.int 2, .int 3, .int 1, .int 0]) = H4 at D4 O4 e1 w4 ⊢
        obtain ⟨ds5, m5, c5, D5', hc5⟩ := D4
        refine ⟨_, rfl, p, q, ds5, m5, c5, 4, rfl, by decide, by decide, D5', by omega, fun j ds6 H6 j0 j1 O6 D6' => ?_⟩
        obtain ⟨j, rfl⟩ := nat_of j0
        have D6 : Dk H6 p q (b + 10 * m + 8) := ⟨_, m5, _, D6', by omega⟩
        have hl6 := O6 _ _ w4 np.1 np.2
        have e1 := e1.same (hide_off O6)
        obtain ⟨r, hr, hr3'⟩ : ∃ r : Nat, atI [V.int 2, V.int 3, V.int 1, V.int 0] ((j : Nat) : Int) = some (.int (r : Nat)) ∧ r ≤ 3 := by
          have j4 : j = 0 ∨ j = 1 ∨ j = 2 ∨ j = 3 := by omega
          rcases j4 with rfl | rfl | rfl | rfl
          · exact ⟨2, rfl, by decide⟩
          · exact ⟨3, rfl, by decide⟩
          · exact ⟨1, rfl, by decide⟩
          · exact ⟨0, rfl, by decide⟩
        refine ⟨l1, _, _, _, rfl, rfl, SqL.of hl6, hr, _, rfl, (by show 3 ≤ sizeLine; decide), fun a na => ?_⟩
        have Sa := same_new (o := HO.tup [.str "power", .int (r : Nat), v1]) na
        refine k _ (.pow r s1) _ ((O4.trans O6).trans (.of_same Sa)) ((D6.same Sa).mono (by omega)) ?_ ?_ ?_
        · rw [dt_pow]
          exact .tup (hide_new D6 na) (.cons (.str _ (by decide)) (.cons (.int _) (.cons (e1.same (hide_same Sa)) .nil)))
        · rw [okS, k1, decide_eq_true hr3']
          rfl
        · rw [dpS]
          omega
      refine if_f (decide_eq_false fun z => z3 (by have := V.int.inj z; omega)) ?_
      refine fun u H4 S4 du => ?_
      have D4 := D3.same S4
      have O4 := O13.trans (.of_same S4)
      have e1 := e1.same (hide_same (p := p) (q := q) S4)
      have e2 := e2.same (hide_same (p := p) (q := q) S4)
      have du' : Dat H4 u (.list [cntsD (cnts 0), cntsD (cnts 1), cntsD (cnts 2)]) := du
      obtain ⟨l, xs, rfl, hl, hxs⟩ := list_of du'
      have lp : l ≠ p ∧ l ≠ q := by
        obtain ⟨ns, m, c, D0, _⟩ := D4
        refine ⟨fun e => ?_, fun e => ?_⟩
        · rw [e, D0.ob] at hl
          injection hl with hl
          injection hl with hl
          rw [← hl] at hxs
          cases hxs with
          | cons _ t =>
            cases t with
            | cons a _ => cases a
        · rw [e, D0.ce] at hl
          injection hl with hl
          injection hl with hl
          rw [← hl] at hxs
          cases ns with
          | nil => cases hxs
          | cons y ys =>
            cases hxs with
            | cons a _ => cases a
      have xl := hxs.len
      obtain ⟨ds5, m5, c5, D5', hc5⟩ := id D4
      refine ⟨_, rfl, p, q, ds5, m5, c5, 3, rfl, by decide, by decide, D5', by omega, fun j ds6 H6 j0 j1 O6 D6' => ?_⟩
      obtain ⟨j, rfl⟩ := nat_of j0
      have D6 : Dk H6 p q (b + 10 * m + 8) := ⟨_, m5, _, D6', by omega⟩
      have hl6 := O6 _ _ hl lp.1 lp.2
      have hj : j < 3 := by omega
      have hjx : j < xs.length := by rw [xl]; exact hj
      have hgx : xs[j]? = some xs[j] := List.getElem?_eq_getElem hjx
      obtain ⟨dc, hdc, tc⟩ := hxs.get hgx
      have hdc' : dc = cntsD (cnts ⟨j, hj⟩) := by
        match j, hj, hdc with
        | 0, _, hdc => exact (Option.some.inj hdc).symm
        | 1, _, hdc => exact (Option.some.inj hdc).symm
        | 2, _, hdc => exact (Option.some.inj hdc).symm
      subst hdc'
      have tc6 := (dat_hide D4 tc (cnts_noL _)).same (hide_off O6)
      have e1 := e1.same (hide_off O6)
      have e2 := e2.same (hide_off O6)
      generalize xs[j] = vc at hgx tc tc6
      refine ⟨l, xs, _, vc, rfl, rfl, SqL.of hl6, atI_nat hgx, ?_⟩
      obtain ⟨bc, yc, rfl, hbc, hyc⟩ : ∃ bc yc, vc = .ref bc ∧ hide p q H6 bc = some (.tup yc) ∧ yc.length = (cnts ⟨j, hj⟩).length := by
        cases tc6 with
        | tup h0 h1 =>
          refine ⟨_, _, rfl, h0, ?_⟩
          rw [h1.len, List.length_map]
      have hbc' := hide_sub p q H6 _ _ hbc
      have O46 := O4.trans O6
      have fin : ∀ (t : Addr) (vs : List V) (xs : List S10) (H7 : Hp), Same H6 H7 → H7 t = some (.tup vs) → DatAll (hide p q H7) vs (dts xs) → okSs xs = true → xs.length = (cnts ⟨j, hj⟩).length → dpSs xs ≤ m + 1 → ∀ a, H7 a = none → Q (.ref a) (upd H7 a (.tup [.str "decorated", .ref bc, .ref t])) := fun t vs xs H7 S7 ht hd ho hl hp a na => by
        have Sa := same_new (o := HO.tup [.str "decorated", .ref bc, .ref t]) na
        have D7 := D6.same S7
        refine k _ (.dec ⟨j, hj⟩ xs) _ ((O46.trans (.of_same S7)).trans (.of_same Sa)) ((D7.same Sa).mono (by omega)) ?_ ?_ ?_
        · rw [dt_dec]
          exact .tup (hide_new D7 na) (.cons (.str _ (by decide)) (.cons ((tc6.same (hide_same S7)).same (hide_same Sa)) (.cons (.tup (hide_same Sa _ _ (hide_at ht (dk_ne D7 ht).1 (dk_ne D7 ht).2)) (hd.same (hide_same Sa))) .nil)))
        · rw [okS, ho, decide_eq_true hl]
          rfl
        · rw [dpS]
          omega
      refine ⟨_, rfl, _, rfl, _, _, rfl, rfl, _, rfl, ?_⟩
      have cut : ∀ {x y : V}, (cutV [x, y] (some 0) none = [x, y]) ∧ (cutV [x, y] (some 1) none = [y]) ∧ (cutV [x, y] none (some 2) = [x, y]) ∧ (cutV [x, y] none (some 1) = [x]) := fun {x y} => ⟨rfl, rfl, rfl, rfl⟩
      by_cases z5 : so < 5
      · refine if_t (decide_eq_true (by omega)) ?_
        refine ⟨_, rfl, _, rfl, (by show 2 ≤ sizeLine; decide), fun t1 n1 => ?_⟩
        have y1 := same_new (o := HO.tup [v2, v1]) n1
        refine ⟨_, rfl, bc, yc, rfl, .inr (SqT.of (y1 _ _ hbc')), _, _, rfl, rfl, ?_⟩
        dsimp only [tNoPart]
        rw [hyc]
        refine ⟨_, rfl, slAny_of upd_same fun t2 H7 S7 ht => ⟨(by show 3 ≤ sizeLine; decide), fun a na => ?_⟩⟩
        have S67 := y1.trans S7
        have e1 := e1.same (hide_same (p := p) (q := q) S67)
        have e2 := e2.same (hide_same (p := p) (q := q) S67)
        match j, hj, ht, fin with
        | 0, _, ht, fin => exact fin t2 _ [.few i2, s1] H7 S67 ht (by rw [dts2]; exact .cons e2 (.cons e1 .nil)) (ok2 (okfew i2) k1) rfl (by rw [dp2, dpfew]; omega) a na
        | 1, _, ht, fin => exact fin t2 _ [.few i2, s1] H7 S67 ht (by rw [dts2]; exact .cons e2 (.cons e1 .nil)) (ok2 (okfew i2) k1) rfl (by rw [dp2, dpfew]; omega) a na
        | 2, _, ht, fin => exact fin t2 _ [s1] H7 S67 ht (by rw [dts1]; exact .cons e1 .nil) (ok1 k1) rfl (by rw [dp1]; omega) a na
      · refine if_f (decide_eq_false (by omega)) ?_
        refine ⟨_, rfl, _, rfl, (by show 2 ≤ sizeLine; decide), fun t1 n1 => ?_⟩
        have y1 := same_new (o := HO.tup [v1, v2]) n1
        refine ⟨_, rfl, bc, yc, rfl, .inr (SqT.of (y1 _ _ hbc')), _, rfl, ?_⟩
        rw [hyc]
        refine slAny_of upd_same fun t2 H7 S7 ht => ⟨(by show 3 ≤ sizeLine; decide), fun a na => ?_⟩
        have S67 := y1.trans S7
        have e1 := e1.same (hide_same (p := p) (q := q) S67)
        have e2 := e2.same (hide_same (p := p) (q := q) S67)
        match j, hj, ht, fin with
        | 0, _, ht, fin => exact fin t2 _ [s1, .few i2] H7 S67 ht (by rw [dts2]; exact .cons e1 (.cons e2 .nil)) (ok2 k1 (okfew i2)) rfl (by rw [dp2, dpfew]; omega) a na
        | 1, _, ht, fin => exact fin t2 _ [s1, .few i2] H7 S67 ht (by rw [dts2]; exact .cons e1 (.cons e2 .nil)) (ok2 k1 (okfew i2)) rfl (by rw [dp2, dpfew]; omega) a na
        | 2, _, ht, fin => exact fin t2 _ [s1] H7 S67 ht (by rw [dts1]; exact .cons e1 .nil) (ok1 k1) rfl (by rw [dp1]; omega) a na
end
end KA
set_option maxRecDepth 100000
set_option maxHeartbeats 8000000
namespace KA
open PySem PySem.Spec PyProof.Rows L2
section
variable {P : Program} {w : World} {K : PySem.W.Frag} {mg : Str → Option Value} {base : Heap}
theorem fn_none {k : Nat} {f : Addr} {fd : FuncData} {ps : List Str} : FnOk P w K mg base CX0 k f fd ps (fun _ _ _ _ => False) := ⟨fun _ _ _ _ h => h.elim, fun _ _ _ _ _ _ _ _ _ _ _ _ _ h => h.elim⟩
theorem okl_deep {f fF fD : Addr} {fd fdF fdD : FuncData} (F : Fun K "_law_deep" "_law_deep" s_deep f fd) (bb : L2.Binds K fd ["_law_deck_here", "_law_depth"] []) (g : mg "_law_deep" = some (.ref f)) (T : Nm mg)
    (D_few : DefOk K mg "_law_few" s_few ["_law_deck_here"] fF fdF) (G_few : FnOk P w K mg base CX0 3 fF fdF ["_law_deck_here"] spFew) (D_draw : DefOk K mg "_law_draw" sDraw ["_law_deck_here", "_law_bound"] fD fdD) : ∀ n : Nat, FnOk P w K mg base CX0 (4 + n) f fd ["_law_deck_here", "_law_depth"] (spDeep n)
  | 0 => deep_body (sp := fun _ _ _ _ => False) 0 F bb g fn_none T D_few G_few D_draw fun m e => by cases e
  | n + 1 => by
    have G := okl_deep F bb g T D_few G_few D_draw n
    rw [show 4 + n = 3 + (n + 1) by omega] at G
    refine deep_body (n + 1) F bb g G T D_few G_few D_draw fun m e p q b H R D hb k => ?_
    obtain rfl : n = m := Nat.succ.inj e
    exact ⟨p, q, b, by rw [show (((n + 1 + 1 : Nat) : Int) - 1) = ((n + 1 : Nat) : Int) by omega], D, hb, k⟩
end
/-! ### a dict's update by another one -/
section
variable {X : Cx}
def rUpd : V → List V → Hp → VK → Prop := fun x vs H Q => ∃ (a b : Addr) (kvs more : List (Key × V)), x = .ref a ∧ vs = [.ref b] ∧ a ≠ b ∧ H a = some (.dK kvs) ∧ H b = some (.dK more) ∧ kvs.length + more.length ≤ sizeLine ∧ Q .non (upd H a (.dK (mergeK kvs more)))
theorem mt_update : MtR X "dict.update" rUpd := by
  intro pins s σ H x vs v us Q I rx rv h
  obtain ⟨a, b, kvs, more, rfl, rfl, hab, ha, hb, hz, q⟩ := h
  cases rx
  obtain ⟨u, rfl, ru⟩ := Vals.one rv
  cases ru
  obtain ⟨_, hd, vs, rel, dd⟩ := dk_of I.hok ha
  obtain ⟨_, hd2, vs2, rel2, dd2⟩ := dk_of I.hok hb
  refine call_meetsIn PySem.F.slot_dict_update dd.typeIs PySem.F.entry_dict_update (PySem.F.args_dict_update_2 _ _) (meets_dict_update (mixKind X.prog X.w) a b hab hd2) ⟨vs, vs2, dd, dd2, by rw [← rel.length, ← rel2.length]; exact hz, fun h' dd' _ hs => ?_⟩
  have he : ∃ q, h'.get? a = some q := let ⟨q, _, _, hq, _⟩ := dd'; ⟨q, hq⟩
  exact ⟨.non, _, d_write (t' := s.toks) I (by rw [ha]; exact True.intro) hs he (dk_new (Nat.le_trans (length_mergeK more kvs) hz) hd (rel2.merge rel) dd'), rfl, q⟩
/-- a written list, with its place new -/
def tDatN (ds : List PyData) : TE := fun _ H Q => ∀ (a : Addr) (xs : List V) (H' : Hp), H a = none → Same H H' → H' a = some (.lst xs) → DatAll H' xs ds → Q (.ref a) H'
theorem pd_lstN {es : List Expr} {ds : List PyData} {pos : Pos} (hl : ds.length ≤ 1000) (a : PA X es (tDats ds)) : PE X (.List es pos) (tDatN ds) :=
  pe_weak (pe_lst a) fun σ H Q q vs H' S dv => ⟨by rw [dv.len, sizeLine_eq]; omega, fun p np => q p vs _ (by
    cases e : H p with
    | none => rfl
    | some o => rw [S _ _ e] at np; cases np) (S.trans (same_new np)) upd_same (dv.same (same_new np))⟩
end
/-! ### the words of a part -/
def wq (z : Str) (as : List PyData) : PyData := .tuple (.str z :: as)
def subW : List PyData := [wq "contains" [.int 0], wq "contains" [.int 1], wq "rank" [.int 0], wq "rank" [.int 1], wq "rank" [.int 2], wq "select" [.int 0]]
def preW (p : Nat) : List PyData := [wq "letter" [.int (p : Nat)], wq "entry" [.int (p : Nat)], wq "prefix" [.int (p : Nat)]]
def selW (c : Str × Nat) : List PyData := (List.range c.2).map fun j => wq "select" [.str c.1, .int (j : Nat)]
def totN (cs : Cn) : Nat := (cs.map (·.2)).sum
def wdW (cs : Cn) : List PyData := ((List.range (totN cs)).flatMap preW ++ cs.flatMap selW) ++ [wq "prefix" [.int (totN cs : Nat)]]
def cycW : List PyData := [wq "successor" [.int 0], wq "successor" [.int 1], wq "predecessor" [.int 0], wq "predecessor" [.int 1]]
def treeW : List PyData := [wq "parent" [.int 1]]
def matW : List PyData := [wq "partner" [.int 0], wq "partner" [.int 1]]
def choW : List PyData := [wq "selected" []]
def knownW (z : Str) : List PyData := if z = "cycle" then cycW else if z = "tree" then treeW else if z = "matching" then matW else if z = "choice" then choW else []
def wordsK (z : Str) (cs : Cn) : List PyData := if z = "subset" then subW else if z = "word" ∨ z = "decorated" then wdW cs else knownW z
def spWords : Sp := fun vs H Q _ => ∃ (v : V) (z : Str) (ds : List PyData) (cs : Cn), vs = [v] ∧ Dat H v (.tuple (.str z :: ds)) ∧ ((z = "word" ∨ z = "decorated") → ∃ r, ds = cntsD cs :: r) ∧ cs.length ≤ 3 ∧ (∀ c ∈ cs, c.2 ≤ 3) ∧
  ∀ (a : Addr) (xs : List V) (H' : Hp), H a = none → Same H H' → H' a = some (.lst xs) → DatAll H' xs (wordsK z cs) → Q (.ref a) H'
end KA
set_option maxRecDepth 100000
set_option maxHeartbeats 8000000
namespace KA
open PySem PySem.Spec PyProof.Rows L2
/-! ### a list that grows, and is new -/
def Gr (H : Hp) (L : Addr) (ds : List PyData) (Hx : Hp) : Prop := H L = none ∧ Same H Hx ∧ ∃ xs, Hx L = some (.lst xs) ∧ DatAll (noR L Hx) xs ds
theorem Gr.start {H : Hp} {L : Addr} (n : H L = none) : Gr H L [] (upd H L (.lst [])) := ⟨n, same_new n, [], upd_same, .nil⟩
theorem Gr.same {H Hx Hy : Hp} {L : Addr} {ds : List PyData} (g : Gr H L ds Hx) (S : Same Hx Hy) : Gr H L ds Hy := by
  obtain ⟨n, S0, xs, h, d⟩ := g
  exact ⟨n, S0.trans S, xs, S _ _ h, d.same (same_noR S)⟩
theorem Gr.add {H Hx Hy : Hp} {L : Addr} {ds es : List PyData} {zs : List V} (g : Gr H L ds Hx) (S : Same Hx Hy) (hz : DatAll Hy zs es) (no : noLs es = true) : ∃ xs, Hy L = some (.lst xs) ∧ xs.length = ds.length ∧ zs.length = es.length ∧ Gr H L (ds ++ es) (upd Hy L (.lst (xs ++ zs))) := by
  obtain ⟨n, S0, xs, h, d⟩ := g.same S
  refine ⟨xs, h, d.len, hz.len, n, fun b u e => ?_, xs ++ zs, upd_same, ?_⟩
  · rw [upd_ne (ne_of_none e n)]
    exact S0 b u e
  · rw [noR_upd]
    exact datAll_append d (datAll_noR h hz no)
theorem Gr.fin {H Hx : Hp} {L : Addr} {ds : List PyData} (g : Gr H L ds Hx) : ∃ xs, Hx L = some (.lst xs) ∧ xs.length = ds.length ∧ DatAll Hx xs ds := by
  obtain ⟨n, S0, xs, h, d⟩ := g
  exact ⟨xs, h, d.len, d.same noR_sub⟩
theorem mono_tup2 {K : PySem.W.Frag} {i j : Nat} {vs : List Nat} {σ : L2.St} : ∀ (x : V) (Hx : Hp) (A B : L2.St → Hp → Prop), (∀ σ2 H2, A σ2 H2 → B σ2 H2) → gTup K 2 (gCons (gName i) (gCons (gName j) gNil)) x (wipe σ vs) Hx A → gTup K 2 (gCons (gName i) (gCons (gName j) gNil)) x (wipe σ vs) Hx B :=
  fun x Hx A B h ⟨a, xs, e, hs, hl, v, r, e1, v2, r2, e2, e3, q⟩ => ⟨a, xs, e, hs, hl, v, r, e1, v2, r2, e2, e3, h _ _ q⟩
abbrev s_words : Stmt := top 39
theorem tot_int (cs : Cn) : (cs.map fun c => (c.2 : Int)).sum = ((totN cs : Nat) : Int) := by
  induction cs with
  | nil => rfl
  | cons c cs ih =>
    rw [List.map_cons, List.sum_cons, ih]
    unfold totN
    rw [List.map_cons, List.sum_cons]
    omega
theorem tot_le : ∀ (cs : Cn), (∀ c ∈ cs, c.2 ≤ 3) → totN cs ≤ 3 * cs.length
  | [], _ => Nat.le_refl _
  | c :: cs, h => by
    have := tot_le cs fun d hd => h d (List.mem_cons_of_mem _ hd)
    have h1 := h c (List.mem_cons_self)
    unfold totN at this ⊢
    rw [List.map_cons, List.sum_cons, List.length_cons]
    omega
theorem preW_noL (p : Nat) : noLs (preW p) = true := rfl
theorem selW_noL (c : Str × Nat) : noLs (selW c) = true := noLs_iff.mpr fun d hd => by
  obtain ⟨j, _, rfl⟩ := List.mem_map.mp hd
  rfl
theorem pre_len : ∀ i : Nat, ((List.range i).flatMap preW).length = 3 * i
  | 0 => rfl
  | i + 1 => by
    rw [List.range_succ, List.flatMap_append, List.length_append, pre_len i]
    show _ + 3 = _
    omega
theorem sel_len (l : Cn) (h : ∀ c ∈ l, c.2 ≤ 3) : (l.flatMap selW).length ≤ 3 * l.length := by
  induction l with
  | nil => exact Nat.le_refl _
  | cons c l ih =>
    rw [List.flatMap_cons, List.length_append, List.length_cons]
    have h1 := ih fun d hd => h d (List.mem_cons_of_mem _ hd)
    have h2 := h c List.mem_cons_self
    have h3 : (selW c).length = c.2 := by
      unfold selW
      rw [List.length_map, List.length_range]
    omega
mutual
theorem dat_updD {H : Hp} {p : Addr} {kvs : List (Key × V)} {o : HO} (hp : H p = some (.dK kvs)) : ∀ {v : V} {d : PyData}, Dat H v d → noL d = true → Dat (upd H p o) v d
  | _, _, .non, _ => .non
  | _, _, .bl b, _ => .bl b
  | _, _, .int i, _ => .int i
  | _, _, .str x h, _ => .str x h
  | _, _, .lst _ _, h => by simp [noL] at h
  | _, _, .d0 _, h => by simp [noL] at h
  | _, _, .tup (a := a) e t, h => .tup (by rw [upd_ne (fun z => by rw [z, hp] at e; cases e)]; exact e) (datAll_updD hp t (by simpa only [noL] using h))
theorem datAll_updD {H : Hp} {p : Addr} {kvs : List (Key × V)} {o : HO} (hp : H p = some (.dK kvs)) : ∀ {vs : List V} {ds : List PyData}, DatAll H vs ds → noLs ds = true → DatAll (upd H p o) vs ds
  | _, _, .nil, _ => .nil
  | _, _, .cons (d := d) (ds := ds) a t, h => by
    have h' : noL d = true ∧ noLs ds = true := by simpa only [noLs, Bool.and_eq_true] using h
    exact .cons (dat_updD hp a h'.1) (datAll_updD hp t h'.2)
end
/-- a list of such data -/
def Ls (H : Hp) (l : Addr) (ds : List PyData) : Prop := ∃ xs, H l = some (.lst xs) ∧ DatAll H xs ds
theorem Ls.same {H H' : Hp} {l : Addr} {ds : List PyData} (h : Ls H l ds) (S : Same H H') : Ls H' l ds := by
  obtain ⟨xs, a, b⟩ := h
  exact ⟨xs, S _ _ a, b.same S⟩
theorem Ls.upd {H : Hp} {l p : Addr} {ds : List PyData} {kvs : List (Key × V)} {o : HO} (h : Ls H l ds) (hp : H p = some (.dK kvs)) (n : noLs ds = true) : Ls (upd H p o) l ds := by
  obtain ⟨xs, a, b⟩ := h
  refine ⟨xs, ?_, datAll_updD hp b n⟩
  rw [upd_ne (fun z => by rw [z, hp] at a; cases a)]
  exact a
theorem put_same {H H2 : Hp} {p : Addr} {o1 o : HO} (np : H p = none) (S : Same (upd H p o1) H2) : Same H (L2.upd H2 p o) := fun b u e => by
  have bp := ne_of_none e np
  rw [upd_ne bp]
  exact S b u (by rw [upd_ne bp]; exact e)
theorem known_val (z : Str) (c t m s : V) : valV ([(.inr "cycle", c), (.inr "tree", t), (.inr "matching", m), (.inr "choice", s)] : List (Key × V)) (.inr z) = if z = "cycle" then some c else if z = "tree" then some t else if z = "matching" then some m else if z = "choice" then some s else none := by
  have step : ∀ (y : Str) (x : V) (r : List (Key × V)), valV ((Sum.inr y, x) :: r) (Sum.inr z : Key) = if z = y then some x else valV r (.inr z) := fun y x r => by
    by_cases h : z = y
    · rw [if_pos h]
      exact valV_pos (by rw [h])
    · rw [if_neg h]
      exact valV_neg (fun e => h (by injection e with e; exact e.symm))
  rw [step, step, step, step]
  rfl
theorem hu_of {k : Nat} {A : Around} (r : Room k A) : A.units + 1 < cLine := by
  have := r.un
  omega
section
variable {P : Program} {w : World} {K : PySem.W.Frag} {mg : Str → Option Value} {base : Heap}
theorem sc_words : FnScope ["_law_part", "_law_kind", "_law_n", "_law_found", "_law_p", "_law_letter", "_law_often", "_law_known", "_law_j"] ["_law_part"] (defScope s_words) := ⟨rfl, rfl, rfl, by decide +kernel, rfl, by decide +kernel, by decide +kernel⟩
theorem ok_words {f : Addr} {fd : FuncData} (F : Fun K "_law_words" "_law_words" s_words f fd) (T : Nm mg) : FnOk P w K mg base CX0 1 f fd ["_law_part"] spWords := by
  refine F.ok sc_words (fun vs H Q E h => ?_) (fun cdv A outer s H vs Q E hr h => ?_)
  · obtain ⟨v, z, ds, cs, rfl, _⟩ := h
    rfl
  · obtain ⟨v, z, ds, cs, rfl, hv, hc, hl, h3, k⟩ := h
    have hu1 := hu_of hr
    refine ⟨_, (pss_cons (ps_set (i := 1) sc_words.nd rfl (Or.inl rfl) (pe_ix ix_tup (pv 0) pe_int (fun _ _ => rfl)))
      (pss_cons (ps_if (pt_cmpR op_eq (pv 1) pe_str (nomark _))
        (pss_one (ps_ret (pd_lstN (by decide) (pd_cons (pd_tup (by decide) (pd_cons (pd_str (by decide) pe_str) (pd_cons (pd_int pe_int) pd_nil))) (pd_cons (pd_tup (by decide) (pd_cons (pd_str (by decide) pe_str) (pd_cons (pd_int pe_int) pd_nil))) (pd_cons (pd_tup (by decide) (pd_cons (pd_str (by decide) pe_str) (pd_cons (pd_int pe_int) pd_nil))) (pd_cons (pd_tup (by decide) (pd_cons (pd_str (by decide) pe_str) (pd_cons (pd_int pe_int) pd_nil))) (pd_cons (pd_tup (by decide) (pd_cons (pd_str (by decide) pe_str) (pd_cons (pd_int pe_int) pd_nil))) (pd_cons (pd_tup (by decide) (pd_cons (pd_str (by decide) pe_str) (pd_cons (pd_int pe_int) pd_nil))) pd_nil)))))))))
        pss_nil)
      (pss_cons (ps_if (pt_cmpR op_in_seq (pv 1) (pe_tup (pa_cons pe_str (pa_cons pe_str pa_nil))) rfl)
        (pss_cons (ps_par (i := 2) (j := 3) rfl sc_words.nd rfl rfl (by decide) rfl rfl (pa_cons (pe_callB (cr_sum rfl) (by rfl) T.sum boot_sum (pa_cons (pe_lc (own := [("_law_letter", 5), ("_law_often", 6)]) (g := (gTup K 2 (gCons (gName 5) (gCons (gName 6) gNil)))) (tt := tYes) (te := tVar 6) rfl sc_words.nd (pi_tup (pe_ix ix_tup (pv 0) pe_int (fun _ _ => rfl))) (blkOk_by (N := ["_law_part", "_law_kind", "_law_n", "_law_found", "_law_p", "_law_letter", "_law_often", "_law_known", "_law_j"]) (sc := defScope s_words) (by decide +kernel))
          (fun _ _ _ _ _ => (pg_tup rfl (pgs_cons (pg_name (i := 5) sc_words.nd rfl (Or.inl rfl)) (pgs_cons (pg_name (i := 6) sc_words.nd rfl (Or.inl rfl)) pgs_nil)))) (fun _ _ _ _ _ => pts_nil) (fun _ _ _ _ _ => (pv 6))) pa_nil)) (pa_cons (pe_lst pa_nil) pa_nil)) (by rfl))
        (pss_cons (ps_for PassesOwn.never rfl (pi_range1 rfl T.range (pa_cons (pv 2) pa_nil)) (pg_name (i := 4) sc_words.nd rfl (Or.inl rfl))
          (pss_one (ps_expr (pe_bm PySem.F.plainAttrs_list PySem.F.slot_list_extend PySem.F.type_list_extend mt_extend (pv 3) (pa_cons (pe_lst (pa_cons (pe_tup (pa_cons pe_str (pa_cons (pv 4) pa_nil))) (pa_cons (pe_tup (pa_cons pe_str (pa_cons (pv 4) pa_nil))) (pa_cons (pe_tup (pa_cons pe_str (pa_cons (pv 4) pa_nil))) pa_nil)))) pa_nil)))))
        (pss_cons (ps_for PassesOwn.never rfl (pi_tup (pe_ix ix_tup (pv 0) pe_int (fun _ _ => rfl))) (pg_tup rfl (pgs_cons (pg_name (i := 5) sc_words.nd rfl (Or.inr rfl)) (pgs_cons (pg_name (i := 6) sc_words.nd rfl (Or.inl rfl)) pgs_nil)))
          (pss_one (ps_expr (pe_bm PySem.F.plainAttrs_list PySem.F.slot_list_extend PySem.F.type_list_extend mt_extend (pv 3) (pa_cons (pe_lc (own := [("_law_j", 8)]) (g := (gName 8)) (tt := tYes) (te := tTup (tCons (tC (.str "select")) (tCons (tVar 5) (tCons (tVar 8) tNil)))) rfl sc_words.nd (pi_range1 rfl T.range (pa_cons (pv 6) pa_nil)) (blkOk_by (N := ["_law_part", "_law_kind", "_law_n", "_law_found", "_law_p", "_law_letter", "_law_often", "_law_known", "_law_j"]) (sc := defScope s_words) (by decide +kernel))
          (fun _ _ _ _ _ => (pg_name (i := 8) sc_words.nd rfl (Or.inl rfl))) (fun _ _ _ _ _ => pts_nil) (fun _ _ _ _ _ => (pe_tup (pa_cons pe_str (pa_cons (pv 5) (pa_cons (pv 8) pa_nil)))))) pa_nil)))))
        (pss_one (ps_ret (pe_op op_cat (pv 3) (pe_lst (pa_cons (pe_tup (pa_cons pe_str (pa_cons (pv 2) pa_nil))) pa_nil))))))))
        pss_nil)
      (pss_cons (ps_set (i := 7) sc_words.nd rfl (Or.inl rfl) (pe_disp (pps_cons pe_str (pd_lstN (by decide) (pd_cons (pd_tup (by decide) (pd_cons (pd_str (by decide) pe_str) (pd_cons (pd_int pe_int) pd_nil))) (pd_cons (pd_tup (by decide) (pd_cons (pd_str (by decide) pe_str) (pd_cons (pd_int pe_int) pd_nil))) (pd_cons (pd_tup (by decide) (pd_cons (pd_str (by decide) pe_str) (pd_cons (pd_int pe_int) pd_nil))) (pd_cons (pd_tup (by decide) (pd_cons (pd_str (by decide) pe_str) (pd_cons (pd_int pe_int) pd_nil))) pd_nil))))) pps_nil) (by rfl) (by rfl) (fun z => by cases z) (by decide)))
      (pss_cons (ps_expr (pe_bm PySem.F.plainAttrs_dict PySem.F.slot_dict_update PySem.F.type_dict_update mt_update (pv 7) (pa_cons (pe_disp (pps_cons pe_str (pd_lstN (by decide) (pd_cons (pd_tup (by decide) (pd_cons (pd_str (by decide) pe_str) (pd_cons (pd_int pe_int) pd_nil))) pd_nil)) (pps_cons pe_str (pd_lstN (by decide) (pd_cons (pd_tup (by decide) (pd_cons (pd_str (by decide) pe_str) (pd_cons (pd_int pe_int) pd_nil))) (pd_cons (pd_tup (by decide) (pd_cons (pd_str (by decide) pe_str) (pd_cons (pd_int pe_int) pd_nil))) pd_nil))) (pps_cons pe_str (pd_lstN (by decide) (pd_cons (pd_tup (by decide) (pd_cons (pd_str (by decide) pe_str) pd_nil)) pd_nil)) pps_nil))) (by rfl) (by rfl) (fun z => by cases z) (by decide)) pa_nil)))
      (pss_one (ps_ret (pe_dget2 hu1 (pv 7) (pv 1) (pd_lstN (by decide) pd_nil) ⟨rfl, rfl, rfl, rfl⟩)))))))), ?_⟩
    cases hv with
    | @tup a0 ps _ h0 hps =>
    cases hps with
    | @cons x0 r0 _ _ e0 t0 =>
    cases e0 with
    | str _ hz0 =>
    refine ⟨_, rfl, a0, _, _, _, rfl, rfl, SqT.of h0, atI_nat (j := 0) rfl, ?_⟩
    refine ⟨_, rfl, rfl, _, rfl, ?_⟩
    by_cases z1 : z = "subset"
    · refine if_t (decide_eq_true (by rw [z1])) ?_
      refine fun a xs H' na S ha hx => k a xs H' na S ha ?_
      unfold wordsK
      rw [if_pos z1]
      exact hx
    refine if_f (decide_eq_false fun y => z1 (by injection y)) ?_
    refine ⟨_, rfl, (by show 2 ≤ sizeLine; decide), fun tp ntp => ⟨tp, _, rfl, .inr (SqT.of upd_same), rfl, rfl, _, rfl, ?_⟩⟩
    have S1 := same_new (o := HO.tup [.str "word", .str "decorated"]) ntp
    generalize upd H tp (.tup [.str "word", .str "decorated"]) = H1 at S1 ⊢
    by_cases z2 : z = "word" ∨ z = "decorated"
    · refine if_t (by rcases z2 with e | e <;> (rw [e]; decide +kernel)) ?_
      obtain ⟨dr, rfl⟩ := hc z2
      cases t0 with
      | @cons x1 r1 _ _ e1 t1 =>
      cases e1 with
      | @tup bc xc _ hbc hxc0 =>
      have hxc : DatAll H xc (cs.map cntD) := hxc0
      have lc := hxc.len
      rw [List.length_map] at lc
      have tl := tot_le cs h3
      refine ⟨_, rfl, a0, _, _, _, rfl, rfl, SqT.of (S1 _ _ h0), atI_nat (j := 1) rfl, bc, rfl, ⟨_, SqT.of (S1 _ _ hbc)⟩, fun D nD => lc_map (K := K) (fun d => .int (cN d)) (S1 _ _ hbc) (hxc.same S1) (by omega) nD (fun i x d Hx hi hdi td S R hR => ?_) mono_tup2 fun H2 S2 hD => ?_⟩
      · obtain ⟨c, hc', rfl⟩ := List.mem_map.mp (List.mem_of_getElem? hdi)
        obtain ⟨b, rfl, hb⟩ := cnt_at td
        exact ⟨b, _, rfl, SqT.of hb, rfl, _, _, rfl, _, _, rfl, rfl, rfl, _, rfl, hR Hx (Same.refl Hx)⟩
      refine ⟨D, cs.map fun c => (c.2 : Int), rfl, by rw [← sum_len10]; exact SqL.of hD, ?_⟩
      rw [tot_int]
      refine ⟨(by show 0 ≤ sizeLine; decide), fun L nL => ⟨_, _, rfl, ?_⟩⟩
      have S02 := S1.trans S2
      have g0 := Gr.start nL
      generalize upd H2 L (.lst []) = H3 at g0 ⊢
      refine ⟨_, rfl, ((totN cs : Nat) : Int), rfl, by omega, by omega, for_range (n := totN cs) (fun i σ Hx => ∃ (x4 : Option V), σ = [some (.ref a0), some (.str z), some (.int (totN cs : Nat)), some (.ref L), x4, none, none, none, none] ∧ Gr H2 L ((List.range i).flatMap preW) Hx) ⟨none, rfl, g0⟩ ?_ ?_⟩
      · rintro i σ Hx hi ⟨x4, rfl, g⟩
        rw [show ((0 : Int) + (i : Nat)) = ((i : Nat) : Int) from Int.zero_add _]
        obtain ⟨xs0, hL0, _⟩ := g.fin
        refine ⟨_, rfl, .inl ⟨rfl, _, SqL.of hL0⟩, _, rfl, (by show 2 ≤ sizeLine; decide), fun t1 n1 => ⟨_, rfl, (by show 2 ≤ sizeLine; decide), fun t2 n2 => ⟨_, rfl, (by show 2 ≤ sizeLine; decide), fun t3 n3 => ⟨(by show 3 ≤ sizeLine; decide), fun l nl => ?_⟩⟩⟩⟩
        have y1 := same_new (o := HO.tup [.str "letter", .int (i : Nat)]) n1
        have y2 := same_new (o := HO.tup [.str "entry", .int (i : Nat)]) n2
        have y3 := same_new (o := HO.tup [.str "prefix", .int (i : Nat)]) n3
        have y4 := same_new (o := HO.lst [.ref t1, .ref t2, .ref t3]) nl
        have u1 : upd Hx t1 (.tup [.str "letter", .int (i : Nat)]) t1 = some (.tup [.str "letter", .int (i : Nat)]) := upd_same
        have u2 : upd (upd Hx t1 (.tup [.str "letter", .int (i : Nat)])) t2 (.tup [.str "entry", .int (i : Nat)]) t2 = some (.tup [.str "entry", .int (i : Nat)]) := upd_same
        have u3 : upd (upd (upd Hx t1 (.tup [.str "letter", .int (i : Nat)])) t2 (.tup [.str "entry", .int (i : Nat)])) t3 (.tup [.str "prefix", .int (i : Nat)]) t3 = some (.tup [.str "prefix", .int (i : Nat)]) := upd_same
        have u4 : upd (upd (upd (upd Hx t1 (.tup [.str "letter", .int (i : Nat)])) t2 (.tup [.str "entry", .int (i : Nat)])) t3 (.tup [.str "prefix", .int (i : Nat)])) l (.lst [.ref t1, .ref t2, .ref t3]) l = some (.lst [.ref t1, .ref t2, .ref t3]) := upd_same
        have u1 := y4 _ _ (y3 _ _ (y2 _ _ u1))
        have u2 := y4 _ _ (y3 _ _ u2)
        have u3 := y4 _ _ u3
        have S4 := ((y1.trans y2).trans y3).trans y4
        generalize upd (upd (upd (upd Hx t1 (.tup [.str "letter", .int (i : Nat)])) t2 (.tup [.str "entry", .int (i : Nat)])) t3 (.tup [.str "prefix", .int (i : Nat)])) l (.lst [.ref t1, .ref t2, .ref t3]) = H4 at u1 u2 u3 u4 S4 ⊢
        have dz : DatAll H4 [.ref t1, .ref t2, .ref t3] (preW i) := .cons (.tup u1 (.cons (.str _ (by decide)) (.cons (.int _) .nil))) (.cons (.tup u2 (.cons (.str _ (by decide)) (.cons (.int _) .nil))) (.cons (.tup u3 (.cons (.str _ (by decide)) (.cons (.int _) .nil))) .nil))
        obtain ⟨xs, hL, hxl, _, g'⟩ := g.add S4 dz (preW_noL i)
        rw [pre_len] at hxl
        refine ⟨L, l, xs, _, rfl, rfl, hL, u4, (by rw [sizeLine_eq]; show xs.length + 3 ≤ _; omega), ?_⟩
        refine ⟨_, rfl, ?_⟩
        rw [List.range_succ, List.flatMap_append, List.flatMap_singleton]
        exact g'
      · rintro σ Hx ⟨x4, rfl, g⟩
        have Sx := S02.trans g.2.1
        refine ⟨_, rfl, a0, _, _, _, rfl, rfl, SqT.of (Sx _ _ h0), atI_nat (j := 1) rfl, bc, rfl, ⟨_, SqT.of (Sx _ _ hbc)⟩, for_tup (K := K) (a := bc) (xs := xc) (fun i σ Hy => ∃ (y5 y6 : Option V), σ = [some (.ref a0), some (.str z), some (.int (totN cs : Nat)), some (.ref L), x4, y5, y6, none, none] ∧ Gr H2 L ((List.range (totN cs)).flatMap preW ++ (cs.take i).flatMap selW) Hy) ⟨none, none, rfl, by simpa using g⟩ (fun i σ Hy _ ⟨_, _, _, g⟩ => SqT.of ((S02.trans g.2.1) _ _ hbc)) ?_ ?_⟩
        · rintro i x σ Hy hi ⟨y5, y6, rfl, g⟩
          obtain ⟨d, hdi, td0⟩ := hxc.get hi
          obtain ⟨c, hci, rfl⟩ : ∃ c, cs[i]? = some c ∧ d = cntD c := by
            rw [List.getElem?_map] at hdi
            cases e : cs[i]? with
            | none =>
              rw [e] at hdi
              cases hdi
            | some c =>
              rw [e] at hdi
              exact ⟨c, rfl, (Option.some.inj hdi).symm⟩
          have hcm := h3 c (List.mem_of_getElem? hci)
          have hil := (List.getElem?_eq_some_iff.mp hci).1
          have td := td0.same (S02.trans g.2.1)
          have hcl : c.1.length ≤ 1000 := by
            cases td with
            | tup _ h =>
              cases h with
              | cons e _ =>
                cases e with
                | str _ h => exact h
          obtain ⟨b, rfl, hb⟩ := cnt_at td
          obtain ⟨xs0, hL0, _⟩ := g.fin
          refine ⟨b, _, rfl, SqT.of hb, rfl, _, _, rfl, _, _, rfl, rfl, ?_⟩
          refine ⟨_, rfl, .inl ⟨rfl, _, SqL.of hL0⟩, _, rfl, ((c.2 : Nat) : Int), rfl, by omega, by omega, fun M nM => lc_range (n := c.2) (fun j Hz => Gr Hy M ((List.range j).map fun j => wq "select" [.str c.1, .int (j : Nat)]) Hz) (Gr.start nM) ?_ ?_⟩
          · rintro j Hz hj gz
            rw [show ((0 : Int) + (j : Nat)) = ((j : Nat) : Int) from Int.zero_add _]
            refine ⟨rfl, ?_⟩
            dsimp only [tYes]
            refine if_t rfl ⟨_, rfl, _, rfl, (by show 3 ≤ sizeLine; decide), fun t nt => ?_⟩
            have y1 := same_new (o := HO.tup [.str "select", .str c.1, .int (j : Nat)]) nt
            have u1 : L2.upd Hz t (.tup [.str "select", .str c.1, .int (j : Nat)]) t = some (.tup [.str "select", .str c.1, .int (j : Nat)]) := upd_same
            obtain ⟨xs, hM, hxl, _, g'⟩ := gz.add y1 (zs := [.ref t]) (es := [wq "select" [.str c.1, .int (j : Nat)]]) (.cons (.tup u1 (.cons (.str _ (by decide)) (.cons (.str _ hcl) (.cons (.int _) .nil)))) .nil) rfl
            rw [List.length_map, List.length_range] at hxl
            refine ⟨xs, hM, (by rw [sizeLine_eq]; omega), ?_⟩
            rw [List.range_succ, List.map_append]
            exact g'
          · rintro Hz gz
            obtain ⟨zs, hM, hzl, dz⟩ := gz.fin
            obtain ⟨xs, hL, hxl, _, g'⟩ := g.add gz.2.1 dz (selW_noL c)
            rw [List.length_append, pre_len] at hxl
            rw [List.length_map, List.length_range] at hzl
            have hsl := sel_len (cs.take i) fun c' hc' => h3 c' (List.mem_of_mem_take hc')
            rw [List.length_take] at hsl
            refine ⟨L, M, xs, zs, rfl, rfl, hL, hM, (by rw [sizeLine_eq]; omega), ?_⟩
            refine ⟨_, _, rfl, ?_⟩
            rw [List.take_add_one, hci, List.flatMap_append, ← List.append_assoc, show (some c).toList.flatMap selW = selW c by simp]
            exact g'
        · rintro σ Hy ⟨y5, y6, rfl, g⟩
          rw [lc, List.take_length] at g
          have hsl := sel_len cs h3
          refine ⟨_, rfl, _, rfl, (by show 2 ≤ sizeLine; decide), fun t nt => ⟨(by show 1 ≤ sizeLine; decide), fun l nl => ?_⟩⟩
          have y1 := same_new (o := HO.tup [.str "prefix", .int (totN cs : Nat)]) nt
          have y2 := same_new (o := HO.lst [.ref t]) nl
          have u1 : L2.upd Hy t (.tup [.str "prefix", .int (totN cs : Nat)]) t = some (.tup [.str "prefix", .int (totN cs : Nat)]) := upd_same
          have u2 : L2.upd (L2.upd Hy t (.tup [.str "prefix", .int (totN cs : Nat)])) l (.lst [.ref t]) l = some (.lst [.ref t]) := upd_same
          have u1 := y2 _ _ u1
          have S2 := y1.trans y2
          generalize L2.upd (L2.upd Hy t (.tup [.str "prefix", .int (totN cs : Nat)])) l (.lst [.ref t]) = H5 at u1 u2 S2 ⊢
          obtain ⟨xs, hL, hxl, dx⟩ := (g.same S2).fin
          rw [List.length_append, pre_len] at hxl
          refine ⟨L, l, xs, _, rfl, rfl, hL, u2, (by rw [sizeLine_eq]; show xs.length + 1 ≤ _; omega), fun p np => ?_⟩
          have S5 := (S02.trans g.2.1).trans S2
          refine k p _ _ (S5.free np) (S5.trans (same_new np)) upd_same ?_
          unfold wordsK
          rw [if_neg z1, if_pos z2]
          unfold wdW
          exact (datAll_append dx (.cons (.tup u1 (.cons (.str _ (by decide)) (.cons (.int _) .nil))) .nil)).same (same_new np)
    have en : inV (.str z) [.str "word", .str "decorated"] = false := by
      have e1 : eqV (.str "word") (.str z) = false := by
        show decide _ = false
        exact decide_eq_false fun y => z2 (.inl y.symm)
      have e2 : eqV (.str "decorated") (.str z) = false := by
        show decide _ = false
        exact decide_eq_false fun y => z2 (.inr y.symm)
      unfold inV
      rw [List.any_cons, List.any_cons, e1, e2]
      rfl
    refine if_f en ?_
    refine fun p np l1 xs1 H2 nl1 S2 hl1 dx1 => ⟨S2 _ _ upd_same, [(.inr "cycle", .ref l1)], rfl, (by show 1 ≤ 15; decide), ?_⟩
    have hp2 := S2 _ _ (upd_same (H := H1) (a := p) (o := HO.dK []))
    have S13 := put_same (o := HO.dK (mergeK [] [(.inr "cycle", .ref l1)])) np S2
    have L1 : Ls (L2.upd H2 p (.dK (mergeK [] [(.inr "cycle", .ref l1)]))) l1 cycW := Ls.upd ⟨xs1, hl1, dx1⟩ hp2 rfl
    have hp3 : L2.upd H2 p (.dK (mergeK [] [(.inr "cycle", .ref l1)])) p = some (.dK [(.inr "cycle", .ref l1)]) := upd_same
    generalize L2.upd H2 p (.dK (mergeK [] [(.inr "cycle", .ref l1)])) = H3 at S13 L1 hp3 ⊢
    refine ⟨_, rfl, .inr (.inr (.inl ⟨rfl, .inl ⟨_, hp3⟩⟩)), ?_⟩
    refine fun q nq l2 xs2 H4 nl2 S4 hl2 dx2 l3 xs3 H5 nl3 S5 hl3 dx3 l4 xs4 H6 nl4 S6 hl4 dx4 => ?_
    have S36 := (S4.trans S5).trans S6
    have hq6 := S36 _ _ (upd_same (H := H3) (a := q) (o := HO.dK []))
    have pq : p ≠ q := fun z => by
      rw [z, nq] at hp3
      cases hp3
    refine ⟨hq6, [(.inr "tree", .ref l2), (.inr "matching", .ref l3), (.inr "choice", .ref l4)], rfl, (by show 3 ≤ 15; decide), ?_⟩
    have S37 := put_same (o := HO.dK (mergeK [] [(.inr "tree", .ref l2), (.inr "matching", .ref l3), (.inr "choice", .ref l4)])) nq S36
    have M2 : Ls (L2.upd H6 q (.dK (mergeK [] [(.inr "tree", .ref l2), (.inr "matching", .ref l3), (.inr "choice", .ref l4)]))) l2 treeW := Ls.upd (Ls.same ⟨xs2, hl2, dx2⟩ (S5.trans S6)) hq6 rfl
    have M3 : Ls (L2.upd H6 q (.dK (mergeK [] [(.inr "tree", .ref l2), (.inr "matching", .ref l3), (.inr "choice", .ref l4)]))) l3 matW := Ls.upd (Ls.same ⟨xs3, hl3, dx3⟩ S6) hq6 rfl
    have M4 : Ls (L2.upd H6 q (.dK (mergeK [] [(.inr "tree", .ref l2), (.inr "matching", .ref l3), (.inr "choice", .ref l4)]))) l4 choW := Ls.upd ⟨xs4, hl4, dx4⟩ hq6 rfl
    have hq7 : L2.upd H6 q (.dK (mergeK [] [(.inr "tree", .ref l2), (.inr "matching", .ref l3), (.inr "choice", .ref l4)])) q = some (.dK [(.inr "tree", .ref l2), (.inr "matching", .ref l3), (.inr "choice", .ref l4)]) := upd_same
    have f0 := S13.free nq
    generalize L2.upd H6 q (.dK (mergeK [] [(.inr "tree", .ref l2), (.inr "matching", .ref l3), (.inr "choice", .ref l4)])) = H7 at S37 M2 M3 M4 hq7 ⊢
    have hp7 := S37 _ _ hp3
    have M1 := L1.same S37
    refine ⟨p, q, _, _, rfl, rfl, pq, hp7, hq7, (by rw [sizeLine_eq]; show 1 + 3 ≤ _; omega), ?_⟩
    have S17 := S13.trans S37
    have M1 := M1.upd (o := .dK (mergeK [(.inr "cycle", .ref l1)] [(.inr "tree", .ref l2), (.inr "matching", .ref l3), (.inr "choice", .ref l4)])) hp7 rfl
    have M2 := M2.upd (o := .dK (mergeK [(.inr "cycle", .ref l1)] [(.inr "tree", .ref l2), (.inr "matching", .ref l3), (.inr "choice", .ref l4)])) hp7 rfl
    have M3 := M3.upd (o := .dK (mergeK [(.inr "cycle", .ref l1)] [(.inr "tree", .ref l2), (.inr "matching", .ref l3), (.inr "choice", .ref l4)])) hp7 rfl
    have M4 := M4.upd (o := .dK (mergeK [(.inr "cycle", .ref l1)] [(.inr "tree", .ref l2), (.inr "matching", .ref l3), (.inr "choice", .ref l4)])) hp7 rfl
    have hp8 : L2.upd H7 p (.dK (mergeK [(.inr "cycle", .ref l1)] [(.inr "tree", .ref l2), (.inr "matching", .ref l3), (.inr "choice", .ref l4)])) p = some (.dK [(.inr "cycle", .ref l1), (.inr "tree", .ref l2), (.inr "matching", .ref l3), (.inr "choice", .ref l4)]) := upd_same
    have S18 : Same H1 (L2.upd H7 p (.dK (mergeK [(.inr "cycle", .ref l1)] [(.inr "tree", .ref l2), (.inr "matching", .ref l3), (.inr "choice", .ref l4)]))) := fun b u e => by
      rw [upd_ne (ne_of_none e np)]
      exact S17 b u e
    generalize L2.upd H7 p (.dK (mergeK [(.inr "cycle", .ref l1)] [(.inr "tree", .ref l2), (.inr "matching", .ref l3), (.inr "choice", .ref l4)])) = H8 at S18 M1 M2 M3 M4 hp8 ⊢
    refine ⟨_, rfl, p, rfl, .inl ⟨_, .inl hp8⟩, _, rfl, fun l5 xs5 H9 nl5 S9 hl5 dx5 => ⟨_, .inl ⟨_, .inr z, .inl (S9 _ _ hp8), rfl, rfl⟩, ?_⟩⟩
    rw [known_val]
    have n1 : H l1 = none := S1.free ((same_new (o := HO.dK []) np).free nl1)
    have n2 : H l2 = none := S1.free (S13.free ((same_new (o := HO.dK []) nq).free nl2))
    have n3 : H l3 = none := S1.free (S13.free ((same_new (o := HO.dK []) nq).free (S4.free nl3)))
    have n4 : H l4 = none := S1.free (S13.free ((same_new (o := HO.dK []) nq).free ((S4.trans S5).free nl4)))
    have n5 : H l5 = none := S1.free (S18.free nl5)
    have S := (S1.trans S18).trans S9
    have fin : ∀ (l : Addr) (ws : List PyData), H l = none → Ls H9 l ws → knownW z = ws → Q (.ref l) H9 := fun l ws nl h e => by
      obtain ⟨xs, hl, dx⟩ := h
      refine k l xs H9 nl S hl ?_
      unfold wordsK
      rw [if_neg z1, if_neg z2, e]
      exact dx
    by_cases c1 : z = "cycle"
    · rw [if_pos c1]
      exact fin l1 cycW n1 (M1.same S9) (by unfold knownW; rw [if_pos c1])
    rw [if_neg c1]
    by_cases c2 : z = "tree"
    · rw [if_pos c2]
      exact fin l2 treeW n2 (M2.same S9) (by unfold knownW; rw [if_neg c1, if_pos c2])
    rw [if_neg c2]
    by_cases c3 : z = "matching"
    · rw [if_pos c3]
      exact fin l3 matW n3 (M3.same S9) (by unfold knownW; rw [if_neg c1, if_neg c2, if_pos c3])
    rw [if_neg c3]
    by_cases c4 : z = "choice"
    · rw [if_pos c4]
      exact fin l4 choW n4 (M4.same S9) (by unfold knownW; rw [if_neg c1, if_neg c2, if_neg c3, if_pos c4])
    rw [if_neg c4]
    exact fin l5 [] n5 ⟨xs5, hl5, dx5⟩ (by unfold knownW; rw [if_neg c1, if_neg c2, if_neg c3, if_neg c4])
end
end KA
set_option maxRecDepth 1000000
set_option maxHeartbeats 4000000
namespace KA
open PySem PySem.Spec PyProof.Rows L2
/-! ### list(enumerate(a tuple)) -/
section
variable {prog : Program} {w : World} {A : Around} {E : Value → Shared → Prop} {s : Shared}
theorem en_no_len : typeLookup (.type "enumerate") "__len__" = pure none := am_miss_of_fast (by decide +kernel)
theorem en_no_hint : typeLookup (.type "enumerate") "__length_hint__" = pure none := am_miss_of_fast (by decide +kernel)
/-- next, where the pair given out before still stands -/
theorem en_held {e it t T : Addr} {i : Nat} {items : Array Value} {x old : Value} {f : Bool} {oT : Obj} {Q : Value → Shared → Prop}
    (he : IsEnumHeld s.heap e it i old T f) (hT : s.heap.get? T = some oT) (hTe : T ≠ e) (hTi : T ≠ it) (hit : s.heap.IsTupleIter it t i) (ht : s.heap.IsTuple t items) (hx : items[i]? = some x) (hne : e ≠ it)
    (hQ : ∀ h', IsEnumHeld h' e it ((i : Int) + 1) old T true → h'.IsTupleIter it t (i + 1) → h'.get? s.heap.objs.size = some { cls := .type "tuple", data := .seq #[.int i s.toks, x] } →
      (∀ b o, b ≠ e → b ≠ it → s.heap.get? b = some o → h'.get? b = some o) → Q (.ref s.heap.objs.size) { s with heap := h', toks := s.toks + 1 }) :
    wpAny (model prog w) A (Builtin.«enumerate.__next__» ⟨[.ref e], []⟩) (fun fin s' => ∃ v, fin = .done (.ret v) ∧ Q v s') E s := by
  obtain ⟨hp, g, d, tk, os⟩ := s
  have hel : e < hp.objs.size := Heap.lt_size he
  show wpAny _ _ (field (.ref e) 2 >>= _) _ _ _
  refine wpAny_bind (wpAny_field he rfl (x := .ref it) rfl (wpAny_bind (wpAny_nextOf_tuple_item hit ht hx fun h1 it1 s1 => ?_)))
  have s1 : Heap.SameBut it hp h1 := s1
  have e1 : IsEnumHeld h1 e it i old T f := (s1.2 e hne).trans he
  show wpAny _ _ (field (.ref e) 3 >>= _) _ _ ⟨h1, g, d, tk, os⟩
  refine wpAny_bind (wpAny_field e1 rfl (x := rawInt i) rfl ?_)
  show wpAny _ _ (field (.ref e) 4 >>= _) _ _ ⟨h1, g, d, tk, os⟩
  refine wpAny_bind (wpAny_field e1 rfl (x := .none) rfl ?_)
  show wpAny _ _ (mkInt i >>= _) _ _ ⟨h1, g, d, tk, os⟩
  refine wpAny_bind (wpAny_mkInt ?_)
  show wpAny _ _ (setField (.ref e) 3 (rawInt ((i : Int) + 1)) >>= _) _ _ ⟨h1, g, d, tk + 1, os⟩
  refine wpAny_bind (wpAny_setField_rec e1 (by simp) fun h2 e2 s2 => ?_)
  have s2 : Heap.SameBut e h1 h2 := s2
  have e2 : IsEnumHeld h2 e it ((i : Int) + 1) old T f := e2
  show wpAny _ _ (setField (.ref e) 4 .none >>= _) _ _ ⟨h2, g, d, tk + 1, os⟩
  refine wpAny_bind (wpAny_setField_rec e2 (by simp) fun h3 e3 s3 => ?_)
  have s3 : Heap.SameBut e h2 h3 := s3
  have e3 : IsEnumHeld h3 e it ((i : Int) + 1) old T f := e3
  have z3 : h3.objs.size = hp.objs.size := by rw [s3.1, s2.1, s1.1]
  show wpAny _ _ (newTuple [.int i tk, x] >>= _) _ _ ⟨h3, g, d, tk + 1, os⟩
  refine wpAny_bind (wpAny_newTuple ?_)
  have e4 : IsEnumHeld (h3.push { cls := .type "tuple", data := .seq #[.int i tk, x] }) e it ((i : Int) + 1) old T f := Heap.get?_push_of_some _ e3
  have t4 : (h3.push { cls := .type "tuple", data := .seq #[.int i tk, x] }).get? hp.objs.size = some { cls := .type "tuple", data := .seq #[.int i tk, x] } := by
    rw [← z3]
    exact Heap.get?_push_size _ rfl
  have k4 : ∀ b o, b ≠ e → b ≠ it → hp.get? b = some o → (h3.push { cls := .type "tuple", data := .seq #[.int i tk, x] }).get? b = some o := fun b o be bi hb =>
    Heap.get?_push_of_some _ (s3.extBut b o be (s2.extBut b o be (s1.extBut b o bi hb)))
  have it4 : (h3.push { cls := .type "tuple", data := .seq #[.int i tk, x] }).IsTupleIter it t (i + 1) := it1.at fun o q => Heap.get?_push_of_some _ ((s3.2 it (Ne.symm hne)).trans ((s2.2 it (Ne.symm hne)).trans q))
  show wpAny _ _ (Builtin.SmallTypes.ownedTupleIsFree (.ref e) >>= _) _ _ ⟨_, g, d, tk + 1, os⟩
  rw [z3]
  generalize h3.push { cls := .type "tuple", data := .seq #[.int i tk, x] } = h4 at e4 t4 k4 it4 ⊢
  refine wpAny_bind (wpAny_tupleHeld_enum (s := ⟨h4, g, d, tk + 1, os⟩) e4 (k4 T oT hTe hTi hT) fun h5 e5 s5 => ?_)
  have s5 : Heap.SameBut e h4 h5 := s5
  simp only [Bool.false_eq_true, if_false]
  exact wpAny_pure ⟨_, rfl, hQ h5 e5 (it4.at fun o q => (s5.2 it (Ne.symm hne)).trans q) (s5.extBut _ _ (Nat.ne_of_gt hel) t4) fun b o be bi hb => s5.extBut b o be (k4 b o be bi hb)⟩
/-- what stands between two nexts: the pair given out last is held, or none was given out -/
def EnSt (e it t : Addr) (items : Array Value) (i : Nat) (h : Heap) : Prop := h.IsTupleIter it t i ∧ h.IsTuple t items ∧ ((∃ old, IsEnum h e it i old) ∨ ∃ old T f oT, IsEnumHeld h e it i old T f ∧ h.get? T = some oT ∧ T ≠ e ∧ T ≠ it)
theorem en_item {e it t : Addr} {items : Array Value} {i : Nat} {x : Value} {Q : Option Value → Shared → Prop} (hh : A.handled = none) (st : EnSt e it t items i s.heap) (hx : items[i]? = some x) (hne : e ≠ it) (hte : t ≠ e) (hti : t ≠ it)
    (hQ : ∀ h' tk k, EnSt e it t items (i + 1) h' → h'.get? s.heap.objs.size = some { cls := .type "tuple", data := .seq #[.int i k, x] } → (∀ b o, b ≠ e → b ≠ it → s.heap.get? b = some o → h'.get? b = some o) → Q (some (.ref s.heap.objs.size)) { s with heap := h', toks := tk }) :
    wpAny (model prog w) A (pyNext (.ref e)) Q E s := by
  obtain ⟨hit, ht, he⟩ := st
  have hil : s.heap.objs.size ≠ it := let ⟨_, q, _⟩ := hit; Nat.ne_of_gt (Heap.lt_size q)
  have ec : ((i + 1 : Nat) : Int) = (i : Int) + 1 := by omega
  have hi : i < items.size := (Array.getElem?_eq_some_iff.mp hx).1
  rcases he with ⟨old, he⟩ | ⟨old, T, f, oT, he, hT, r1, r2⟩
  · refine wpAny_pyNext_enum_itemC (Draws.tuple (prog := prog) (w := w) (A := A.in1) hh it t hti items) he ⟨hit, ht⟩ hi hne (by simp [hne, Ne.symm hte]) fun y h' tk hy ho hst hT hsz hk => ?_
    obtain rfl : x = y := Option.some.inj (hx.symm.trans hy)
    exact hQ h' _ tk ⟨hst.1, hst.2, .inr ⟨_, s.heap.objs.size, false, _, by rw [ec]; exact ho, hT, Nat.ne_of_gt (Heap.lt_size he), hil⟩⟩ hT hk
  · have hTy : s.TypeIs (.ref e) "enumerate" := ⟨_, he, rfl⟩
    unfold pyNext
    refine wpAny_bind (wpAny_attempt (wpAny_callSpecial?_slot (name := Str.ofString "__next__") hTy F.slot_enumerate_next
      (wpAny_call_entry F.slot_enumerate_next hTy F.entry_enumerate_next
        (en_held he hT r1 r2 hit ht hx hne fun h' a1 a2 a3 a4 => wpAny_pure (hQ h' _ _ ⟨a2, ht.at fun o q => a4 t o hte hti q, .inr ⟨old, T, true, oT, by rw [ec]; exact a1, a4 _ _ r1 r2 hT, r1, r2⟩⟩ a3 a4)) (F.args_enumerate_next_1 _))))
theorem en_end {e it t : Addr} {items : Array Value} {Q : Option Value → Shared → Prop} (hh : A.handled = none) (st : EnSt e it t items items.size s.heap) (hne : e ≠ it) (hte : t ≠ e) (hti : t ≠ it)
    (hQ : ∀ h', (∀ b o, b ≠ it → s.heap.get? b = some o → h'.get? b = some o) → Q none { s with heap := h' }) : wpAny (model prog w) A (pyNext (.ref e)) Q E s := by
  obtain ⟨hit, ht, he⟩ := st
  rcases he with ⟨old, he⟩ | ⟨old, T, f, oT, he, hT, r1, r2⟩
  · exact wpAny_pyNext_enum_endD (Draws.tuple (prog := prog) (w := w) (A := A.in1) hh it t hti items) he ⟨hit, ht⟩ fun h' hk => hQ h' hk
  · have hTy : s.TypeIs (.ref e) "enumerate" := ⟨_, he, rfl⟩
    unfold pyNext
    refine wpAny_bind (wpAny_attempt (wpAny_callSpecial?_slot (name := Str.ofString "__next__") hTy F.slot_enumerate_next
      (wpAny_call_entry F.slot_enumerate_next hTy F.entry_enumerate_next ?_ (F.args_enumerate_next_1 _))))
    show wpAny _ _ (field (.ref e) 2 >>= _) _ _ _
    refine wpAny_bind (wpAny_field he rfl (x := .ref it) rfl (wpAny_bind (wpAny_nextOf_tuple_end hh hit ht (by simp) fun h' x he' hx' => ?_)))
    obtain ⟨o, ho, hc⟩ := hx'
    exact wpAny_bind (wpAny_isInstance (T := "StopIteration") (b := true) ⟨o, ho, hc⟩ isSubtype_stop (wpAny_pure (hQ _ he')))
end
end KA
set_option maxRecDepth 1000000
set_option maxHeartbeats 4000000
namespace KA
open PySem PySem.Spec PyProof.Rows L2
/-! ### list(enumerate(a tuple)): the loop, the call -/
/-- the pairs that stand in the new list -/
def EnPs (N S e it : Addr) (items : Array Value) (n : Nat) (h : Heap) (acc : Array Value) : Prop := acc.size = n ∧ ∀ j x, j < n → items[j]? = some x → ∃ T k, acc[j]? = some (.ref T) ∧ T ≠ S ∧ T ≠ e ∧ T ≠ it ∧ N ≤ T ∧ h.get? T = some { cls := .type "tuple", data := .seq #[.int j k, x] }
section
variable {prog : Program} {w : World} {A : Around} {E : Value → Shared → Prop} {s : Shared} {R : Result → Shared → Prop}
theorem en_loop {N S e it t : Addr} {items : Array Value} {res : Value} (hh : A.handled = none) (hz : items.size ≤ 1000) (hne : e ≠ it) (hte : t ≠ e) (hti : t ≠ it) (hSe : S ≠ e) (hSi : S ≠ it) (hSt : S ≠ t) :
    ∀ (k i : Nat) (s : Shared) (acc : Array Value) (c : Nat), items.size - i = k → i ≤ items.size → N ≤ s.heap.objs.size → EnSt e it t items i s.heap → s.heap.get? S = some { cls := .type "list", dict := none, data := .seq acc c, slots := #[] } → EnPs N S e it items i s.heap acc →
      (∀ h' tk acc' c', (∀ b o, b ≠ S → b ≠ e → b ≠ it → s.heap.get? b = some o → h'.get? b = some o) → h'.get? S = some { cls := .type "list", dict := none, data := .seq acc' c', slots := #[] } → EnPs N S e it items items.size h' acc' → R (.ok (.ret res)) { s with heap := h', toks := tk }) →
      codeAny (model prog w) A (.builtin "list.extend.loop" ⟨[.ref S, .ref e, res], []⟩) R s := by
  intro k
  induction k with
  | zero =>
    intro i s acc c hk hi hN st hS hp hR
    obtain rfl : i = items.size := by omega
    refine codeAny_builtin F.entry_extend_loop ?_
    rw [Around.under_plainId F.plain_extend_loop _]
    show wpAny _ A.in1 (pyNext (.ref e) >>= _) _ _ s
    refine wpAny_bind (en_end (A := A.in1) hh st hne hte hti fun h' kp => wpAny_pure (hR h' s.toks acc c (fun b o _ _ bi q => kp b o bi q) (kp S _ hSi hS) ⟨hp.1, fun j x hj hx => ?_⟩))
    obtain ⟨T, k, a, b, c1, d, n0, q⟩ := hp.2 j x hj hx
    exact ⟨T, k, a, b, c1, d, n0, kp T _ d q⟩
  | succ k ih =>
    intro i s acc c hk hi hN st hS hp hR
    have hlt : i < items.size := by omega
    have hx : items[i]? = some items[i] := Array.getElem?_eq_getElem hlt
    refine codeAny_builtin F.entry_extend_loop ?_
    rw [Around.under_plainId F.plain_extend_loop _]
    show wpAny _ A.in1 (pyNext (.ref e) >>= _) _ _ s
    have sS : S < s.heap.objs.size := Heap.lt_size hS
    have se : e < s.heap.objs.size := by
      rcases st.2.2 with ⟨_, q⟩ | ⟨_, _, _, _, q, _⟩ <;> exact Heap.lt_size q
    have si : it < s.heap.objs.size := by
      obtain ⟨⟨_, q, _⟩, _⟩ := st
      exact Heap.lt_size q
    refine wpAny_bind (en_item (A := A.in1) hh st hx hne hte hti fun h1 tk kk st1 hT kp => ?_)
    have hS1 := kp S _ hSe hSi hS
    show wpAny _ A.in1 (updateSeq S (·.push (.ref s.heap.objs.size)) >>= _) _ _ _
    refine wpAny_bind ?_
    refine wpAny_updateSeq hS1 rfl (wpAny_pure ⟨plainId_quiet F.plain_extend_loop _, ?_⟩) (by rw [hp.1, sizeLine_eq]; omega) (by show (acc.push (.ref s.heap.objs.size)).size ≤ sizeLine + 1; rw [Array.size_push, hp.1, sizeLine_eq]; omega)
    have oth : ∀ b o, b ≠ S → h1.get? b = some o → (h1.update S (Obj.mapSeq (·.push (.ref s.heap.objs.size)))).get? b = some o := fun b o hb q => (Heap.get?_update_other _ _ (Ne.symm hb)).trans q
    refine ih (i + 1) _ (acc.push (.ref s.heap.objs.size)) _ (by omega) hlt (Nat.le_trans hN (Nat.le_of_lt (Heap.lt_size (oth _ _ (Nat.ne_of_gt sS) hT)))) ?_ (Heap.get?_update_self _ hS1 rfl) ⟨by rw [Array.size_push, hp.1], fun j x hj hx' => ?_⟩ fun h' tk' acc' c' kp' a1 a2 => hR h' tk' acc' c' (fun b o b1 b2 b3 q => kp' b o b1 b2 b3 (oth b o b1 (kp b o b2 b3 q))) a1 a2
    · obtain ⟨a, b, c'⟩ := st1
      refine ⟨a.at fun o q => oth it o (Ne.symm hSi) q, b.at fun o q => oth t o (Ne.symm hSt) q, ?_⟩
      rcases c' with ⟨old, q⟩ | ⟨old, T, f, oT, q, hT', r1, r2⟩
      · exact .inl ⟨old, oth e _ (Ne.symm hSe) q⟩
      · refine .inr ⟨old, T, f, ?_⟩
        by_cases hTS : T = S
        · subst hTS
          exact ⟨_, oth e _ (Ne.symm hSe) q, Heap.get?_update_self _ hS1 rfl, r1, r2⟩
        · exact ⟨oT, oth e _ (Ne.symm hSe) q, oth T _ hTS hT', r1, r2⟩
    · by_cases hji : j = i
      · subst hji
        obtain rfl : items[j] = x := Option.some.inj (hx.symm.trans hx')
        refine ⟨s.heap.objs.size, kk, ?_, Nat.ne_of_gt sS, Nat.ne_of_gt se, Nat.ne_of_gt si, hN, oth _ _ (Nat.ne_of_gt sS) hT⟩
        rw [← hp.1]
        simp
      · obtain ⟨T, k, a, b, c1, d, n0, q⟩ := hp.2 j x (by omega) hx'
        refine ⟨T, k, ?_, b, c1, d, n0, oth T _ b (kp T _ c1 d q)⟩
        rw [Array.getElem?_push_lt (by rw [hp.1]; omega)]
        rw [← a, Array.getElem?_eq_getElem (by rw [hp.1]; omega)]
theorem en_extend {N S e it t : Addr} {items : Array Value} {res : Value} {c0 : Nat} (hh : A.handled = none) (hz : items.size ≤ 1000) (hne : e ≠ it) (hte : t ≠ e) (hti : t ≠ it) (hSe : S ≠ e) (hSi : S ≠ it) (hSt : S ≠ t)
    (hN : N ≤ s.heap.objs.size) (he : IsEnum s.heap e it 0 .none) (hit : s.heap.IsTupleIter it t 0) (ht : s.heap.IsTuple t items) (hS : s.heap.get? S = some { cls := .type "list", data := .seq #[] c0 })
    (hR : ∀ h' tk acc' c', (∀ b o, b ≠ S → b ≠ e → b ≠ it → s.heap.get? b = some o → h'.get? b = some o) → h'.get? S = some { cls := .type "list", dict := none, data := .seq acc' c', slots := #[] } → EnPs N S e it items items.size h' acc' → R (.ok (.ret res)) { s with heap := h', toks := tk }) :
    wpAny (model prog w) A.in1 (Builtin.List.listExtendWith (.ref S) (.ref e) res)
      (fun fin s' => match fin with | .done f => R (.ok f) s' | .again c' => c'.quiet = true ∧ codeAny (model prog w) A c' R s') (fun e s' => R (.error e) s') s := by
  have hTy : s.TypeIs (.ref e) "enumerate" := ⟨_, he, rfl⟩
  unfold Builtin.List.listExtendWith
  refine wpAny_bind (wpAny_typeOf hTy ?_)
  have h1 : Builtin.List.listSameRef (.ref S) (.ref e) = false := by simp [Builtin.List.listSameRef, hSe]
  have h2 : (Value.type "enumerate" == Value.type "list") = false := by decide
  have h3 : (Value.type "enumerate" == Value.type "tuple") = false := by decide
  simp only [h1, h2, h3, Bool.or_false, Bool.false_eq_true, if_false]
  refine wpAny_bind (wpAny_pyIter_enum he (wpAny_bind (wpAny_holding ?_)))
  unfold Builtin.List.listLengthHint
  refine wpAny_bind (wpAny_specialOf hTy en_no_len ?_)
  show wpAny _ A.in1 (specialOf (Value.ref e) (Str.ofString "__length_hint__") >>= _) _ _ _
  refine wpAny_bind (wpAny_specialOf hTy en_no_hint (wpAny_pure ?_))
  show wpAny _ A.in1 (rule "list.extend.makes-room" >>= fun _ => Builtin.List.listTouch (.ref S) >>= fun _ =>
    again (.builtin "list.extend.loop" ⟨[.ref S, .ref e, res], []⟩)) _ _ _
  refine wpAny_bind (wpAny_rule (wpAny_bind ?_))
  show wpAny _ A.in1 (updateSeq S (·.push .none) >>= fun _ => updateSeq S (·.pop)) _ _ _
  refine wpAny_bind (wpAny_updateSeq hS rfl ?_)
  have hS2 := Heap.get?_update_self (Obj.mapSeq (·.push Value.none)) hS rfl
  refine wpAny_updateSeq (hz := by seq_fits) hS2 rfl ?_
  have hS3 := Heap.get?_update_self (Obj.mapSeq (·.pop)) hS2 rfl
  have oth : ∀ b o, b ≠ S → s.heap.get? b = some o → ((s.heap.update S (Obj.mapSeq (·.push Value.none))).update S (Obj.mapSeq (·.pop))).get? b = some o :=
    fun b o hb q => (Heap.get?_update_other _ _ (Ne.symm hb)).trans ((Heap.get?_update_other _ _ (Ne.symm hb)).trans q)
  refine wpAny_pure ⟨plainId_quiet F.plain_extend_loop _, en_loop hh hz hne hte hti hSe hSi hSt items.size 0 _ _ _ rfl (Nat.zero_le _) (Nat.le_trans hN (Nat.le_of_eq (by show s.heap.objs.size = ((s.heap.update S _).update S _).objs.size; rw [Heap.size_update, Heap.size_update]))) ⟨hit.at fun o q => oth it o (Ne.symm hSi) q, ht.at fun o q => oth t o (Ne.symm hSt) q, .inl ⟨.none, oth e _ (Ne.symm hSe) he⟩⟩ hS3 ⟨rfl, fun j x hj => by omega⟩ fun h' tk acc' c' kp a1 a2 => hR h' tk acc' c' (fun b o b1 b2 b3 q => kp b o b1 b2 b3 (oth b o b1 q)) a1 a2⟩
theorem call_list_enum {N e it t : Addr} {items : Array Value} {Q : Value → Shared → Prop} (hh : A.handled = none) (hz : items.size ≤ 1000) (hne : e ≠ it) (hte : t ≠ e) (hti : t ≠ it) (hN : N ≤ s.heap.objs.size) (he : IsEnum s.heap e it 0 .none) (hit : s.heap.IsTupleIter it t 0) (ht : s.heap.IsTuple t items)
    (hQ : ∀ h' tk acc c, (∀ b o, b ≠ e → b ≠ it → s.heap.get? b = some o → h'.get? b = some o) → h'.get? s.heap.objs.size = some { cls := .type "list", dict := none, data := .seq acc c, slots := #[] } → EnPs N s.heap.objs.size e it items items.size h' acc → Q (.ref s.heap.objs.size) { s with heap := h', toks := tk }) :
    wpAny (model prog w) A (call (.type "list") [.ref e]) Q E s := by
  refine callType_codes (Q₁ := fun obj s₁ => obj = .ref s.heap.objs.size ∧ s₁ = { s with heap := s.heap.push { cls := .type "list", data := .seq #[] } }) F.called_list (F.typeCall_list_1 _) F.entry_list_init
    (code_list_new _ ⟨rfl, rfl⟩) fun obj s1 h1 => ?_
  obtain ⟨rfl, rfl⟩ := h1
  have hS : (s.heap.push { cls := .type "list", data := .seq #[] }).get? s.heap.objs.size = some { cls := .type "list", data := .seq #[] } := Heap.get?_push_size _ rfl
  have ks : ∀ b o, s.heap.get? b = some o → (s.heap.push { cls := .type "list", data := .seq #[] }).get? b = some o := fun b o q => Heap.get?_push_of_some _ q
  have sz : ∀ b o, s.heap.get? b = some o → s.heap.objs.size ≠ b := fun b o q => Nat.ne_of_gt (Heap.lt_size q)
  have hSe := sz _ _ he
  have hSi : s.heap.objs.size ≠ it := let ⟨_, q, _⟩ := hit; sz _ _ q
  have hSt : s.heap.objs.size ≠ t := let ⟨_, q, _⟩ := ht; sz _ _ q
  have he' := ks _ _ he
  have hit' : (s.heap.push { cls := .type "list", data := .seq #[] }).IsTupleIter it t 0 := hit.at fun o q => ks it o q
  have ht' : (s.heap.push { cls := .type "list", data := .seq #[] }).IsTuple t items := ht.at fun o q => ks t o q
  refine ⟨⟨_, hS, rfl⟩, F.args_list_init_2 _ _, ?_⟩
  show wpAny _ A.in1.in1 (do let old ← Builtin.List.listItems (.ref s.heap.objs.size); Builtin.List.listUpdate (.ref s.heap.objs.size) (fun _ => #[]); letGo old.toList.reverse; Builtin.List.listExtendWith (.ref s.heap.objs.size) (.ref e) .none) _ _ _
  refine wpAny_bind ?_
  unfold Builtin.List.listItems
  refine wpAny_bind (wpAny_seqItems hS rfl (wpAny_pure ?_))
  show wpAny _ A.in1.in1 (updateSeq s.heap.objs.size (fun _ => #[]) >>= fun _ => letGo (#[] : Array Value).toList.reverse >>= fun _ => Builtin.List.listExtendWith (.ref s.heap.objs.size) (.ref e) .none) _ _ _
  refine wpAny_bind (wpAny_updateSeq hS rfl ?_)
  have hS2 := Heap.get?_update_self (Obj.mapSeq (fun _ => (#[] : Array Value))) hS rfl
  have oth : ∀ b o, b ≠ s.heap.objs.size → (s.heap.push { cls := .type "list", data := .seq #[] }).get? b = some o → ((s.heap.push { cls := .type "list", data := .seq #[] }).update s.heap.objs.size (Obj.mapSeq (fun _ => (#[] : Array Value)))).get? b = some o :=
    fun b o hb q => (Heap.get?_update_other _ _ (Ne.symm hb)).trans q
  refine wpAny_bind (wpAny_letGo ?_)
  refine en_extend (A := A.in1) (by first | exact hh | simpa using hh) hz hne hte hti hSe hSi hSt (Nat.le_trans hN (Nat.le_of_lt (Heap.lt_size hS2))) (oth e _ (Ne.symm hSe) he') (hit'.at fun o q => oth it o (Ne.symm hSi) q) (ht'.at fun o q => oth t o (Ne.symm hSt) q) hS2 fun h' tk acc c kp a1 a2 => ?_
  exact ⟨rfl, hQ h' tk acc c (fun b o b1 b2 q => kp b o (Ne.symm (sz b o q)) b1 b2 (oth b o (Ne.symm (sz b o q)) (ks b o q))) a1 a2⟩
end
end KA
set_option maxRecDepth 1000000
set_option maxHeartbeats 4000000
namespace KA
open PySem PySem.Spec PyProof.Rows L2
theorem en_new {v : Value} {o : Obj} {H : Heap → Prop} (B : Begins v o H) :
    Meets (Builtin.«enumerate.__new__» ⟨[.type "enumerate", v], []⟩) (fun _ R s => H s.heap ∧
      R (.ok (.ret (.ref (s.heap.push o).objs.size))) { s with heap := (s.heap.push o).push { cls := .type "enumerate", data := .fields #[.none, .bool false, .ref s.heap.objs.size, rawInt 0, .none, .none] } }) :=
  .of_wp fun prog w A R s h => by
    obtain ⟨hp, g, d, tk, os⟩ := s
    obtain ⟨h1, h⟩ := h
    have hsub := sub_enumerate
    have q1 : ∀ {A' : Around} {E : Value → Shared → Prop} {Q : Value → Shared → Prop}, Q (.ref hp.objs.size) ⟨hp.push o, g, d, tk, os⟩ → wpAny (model prog w) A' (pyIter v) Q E ⟨hp, g, d, tk, os⟩ :=
      fun q => B.iter prog w _ _ ⟨hp, g, d, tk, os⟩ _ h1 q
    wp_walk using q1
    refine wpAny_stack_any fun st => wpAny_pure ?_
    split
    · rename_i c _ _ _ _ _
      cases (c == Value.type "enumerate")
      · wp_walk using q1
        exact ⟨_, rfl, h⟩
      · wp_walk using q1
        exact ⟨_, rfl, h⟩
    · wp_walk using q1
      exact ⟨_, rfl, h⟩
section
variable {prog : Program} {w : World} {A : Around} {E : Value → Shared → Prop} {s : Shared}
theorem call_enum_tup {t : Addr} {items : Array Value} {Q : Value → Shared → Prop} (ht : s.heap.IsTuple t items)
    (h : ∀ h', IsEnum h' (s.heap.objs.size + 1) s.heap.objs.size 0 .none → h'.IsTupleIter s.heap.objs.size t 0 → (∀ b o, s.heap.get? b = some o → h'.get? b = some o) → Q (.ref (s.heap.objs.size + 1)) { s with heap := h' }) :
    wpAny (model prog w) A (call (.type "enumerate") [.ref t]) Q E s := by
  have B := begins_tuple t items
  refine callType_new F.called_enumerate (by decide) (F.typeCall_enumerate_1 _) (F.newCall_enumerate_1 _) (fun obj => F.args_object_init_2 obj _) F.entry_enumerate_new (en_new B) ⟨ht, ?_⟩
  have hz : (s.heap.push { cls := .type "tuple_iterator", data := .fields #[.ref t, .int 0 0] }).objs.size = s.heap.objs.size + 1 := Heap.size_push ..
  show _ ∧ _
  rw [hz]
  have he : IsEnum ((s.heap.push { cls := .type "tuple_iterator", data := .fields #[.ref t, .int 0 0] }).push { cls := .type "enumerate", data := .fields #[.none, .bool false, .ref s.heap.objs.size, rawInt 0, .none, .none] }) (s.heap.objs.size + 1) s.heap.objs.size 0 .none := by
    have := Heap.get?_push_size (s.heap.push { cls := .type "tuple_iterator", data := .fields #[.ref t, .int 0 0] }) (o := { cls := .type "enumerate", data := .fields #[.none, .bool false, .ref s.heap.objs.size, rawInt 0, .none, .none] }) rfl
    rw [hz] at this
    exact this
  exact ⟨⟨_, he, rfl⟩, h _ he ⟨_, Heap.get?_push_of_some _ (Heap.get?_push_size _ rfl), rfl, rfl⟩ fun b o x => Heap.get?_push_of_some _ (Heap.get?_push_of_some _ x)⟩
end
/-- list(enumerate(t)): the new list, its pairs new -/
def tLstEn (K : PySem.W.Frag) (te : TE) : TE := fun σ H Q => te σ H fun x H1 => ∃ a xs, x = .ref a ∧ SqT K H1 a xs ∧ xs.length ≤ 1000 ∧ ∀ (l : Addr) (ps : List V) (H' : Hp), H1 l = none → Same H1 H' → H' l = some (.lst ps) → ps.length = xs.length → (∀ (j : Nat) (x : V), xs[j]? = some x → ∃ T, ps[j]? = some (.ref T) ∧ H' T = some (.tup [.int (j : Nat), x])) → Q (.ref l) H'
def enK : Nat → List V → List (Key × V)
  | _, [] => []
  | k, x :: xs => (.inl (k : Int), x) :: enK (k + 1) xs
theorem enK_len : ∀ (xs : List V) (k : Nat), (enK k xs).length = xs.length
  | [], _ => rfl
  | _ :: xs, k => by
    show (enK (k + 1) xs).length + 1 = xs.length + 1
    rw [enK_len xs]
theorem enK_get : ∀ (xs : List V) (k j : Nat), (enK k xs)[j]? = (xs[j]?).map fun x => (.inl ((k + j : Nat) : Int), x)
  | [], _, _ => by simp [enK]
  | x :: xs, k, 0 => by simp [enK]
  | x :: xs, k, j + 1 => by
    show (enK (k + 1) xs)[j]? = _
    rw [enK_get xs (k + 1) j, show k + 1 + j = k + (j + 1) by omega]
    rfl
def adr : Value → Addr
  | .ref a => a
  | _ => 0
section
variable {X : Cx}
theorem en_laid {pins : List (Addr × Obj)} {σ : L2.St} {H : Hp} {s : Shared} {h' : Heap} {tk : Nat} {xs : List V} {its : List Value} {S e it : Addr} {acc : Array Value} {c : Nat} (I : Inv X pins σ H s) (r : Vals xs its) (hl : xs.length ≤ 1000)
    (hk : ∀ b o, s.heap.get? b = some o → h'.get? b = some o) (hS0 : s.heap.objs.size ≤ S) (hS : h'.get? S = some { cls := .type "list", dict := none, data := .seq acc c, slots := #[] }) (hp : EnPs s.heap.objs.size S e it its.toArray its.toArray.size h' acc) :
    ∃ (H' : Hp) (as : List Addr), Same H H' ∧ H S = none ∧ H' S = some (.lst (as.map V.ref)) ∧ as.length = xs.length ∧ (∀ (j : Nat) (x : V), xs[j]? = some x → ∃ T, as[j]? = some T ∧ H' T = some (.tup [.int (j : Nat), x])) ∧ Inv X pins σ H' { s with heap := h', toks := tk } := by
  have rl := r.length
  have hz : its.toArray.size = xs.length := by
    rw [List.size_toArray]
    omega
  obtain ⟨hn, hat⟩ := hp
  rw [hz] at hn hat
  -- what stands at each place
  have at1 : ∀ j, j < xs.length → ∃ (x : V) (u : Value) (T : Addr) (k : Tok), xs[j]? = some x ∧ RelV x u ∧ acc[j]? = some (.ref T) ∧ T ≠ S ∧ s.heap.objs.size ≤ T ∧ h'.get? T = some { cls := .type "tuple", data := .seq #[.int j k, u] } := fun j hj => by
    have hx : xs[j]? = some xs[j] := List.getElem?_eq_getElem hj
    obtain ⟨u, hu, ru⟩ := r.get hx
    obtain ⟨T, k, a, b, _, _, n, q⟩ := hat j u hj (by rw [List.getElem?_toArray]; exact hu)
    exact ⟨_, u, T, k, hx, ru, a, b, n, q⟩
  have la : (acc.toList.map adr).length = xs.length := by rw [List.length_map, Array.length_toList, hn]
  have at2 : ∀ j, j < xs.length → ∃ (x : V) (u : Value) (T : Addr) (k : Tok), xs[j]? = some x ∧ RelV x u ∧ (acc.toList.map adr)[j]? = some T ∧ T ≠ S ∧ s.heap.objs.size ≤ T ∧ h'.get? T = some { cls := .type "tuple", data := .seq #[.int j k, u] } := fun j hj => by
    obtain ⟨x, u, T, k, a, b, c1, d⟩ := at1 j hj
    refine ⟨x, u, T, k, a, b, ?_, d⟩
    rw [List.getElem?_map, Array.getElem?_toList, c1]
    rfl
  have eacc : acc.toList = (acc.toList.map adr).map Value.ref := by
    refine List.ext_getElem? fun j => ?_
    rw [List.getElem?_map, List.getElem?_map, Array.getElem?_toList]
    by_cases hj : j < xs.length
    · obtain ⟨x, u, T, k, a, b, c1, d⟩ := at1 j hj
      rw [c1]
      rfl
    · rw [Array.getElem?_eq_none (by omega)]
      rfl
  generalize acc.toList.map adr = as at la at2 eacc
  have nd : as.Nodup := by
    refine List.pairwise_iff_getElem.mpr fun i j hi hj hij z => ?_
    obtain ⟨_, u, T, k, _, _, c1, _, _, q⟩ := at2 i (by omega)
    obtain ⟨_, u2, T2, k2, _, _, c2, _, _, q2⟩ := at2 j (by omega)
    rw [List.getElem?_eq_getElem hi] at c1
    rw [List.getElem?_eq_getElem hj] at c2
    have e1 := Option.some.inj c1
    have e2 := Option.some.inj c2
    rw [e1, e2] at z
    rw [z, q2] at q
    injection q with q
    injection q with _ _ q
    injection q with q _
    have q := congrArg Array.toList q
    injection q with q _
    injection q with q _
    omega
  have mem : ∀ b ∈ as, ∃ (j : Nat) (x : V) (u : Value) (k : Tok), xs[j]? = some x ∧ as[j]? = some b ∧ RelV x u ∧ b ≠ S ∧ s.heap.objs.size ≤ b ∧ h'.get? b = some { cls := .type "tuple", data := .seq #[.int j k, u] } := fun b hb => by
    obtain ⟨j, hj⟩ := List.mem_iff_getElem?.mp hb
    obtain ⟨x, u, T, k, a, b1, c1, d⟩ := at2 j (by have := (List.getElem?_eq_some_iff.mp hj).1; omega)
    rw [hj] at c1
    cases c1
    exact ⟨j, x, u, k, a, hj, b1, d⟩
  have hSn : S ∉ as := fun z => by
    obtain ⟨_, _, _, _, _, _, _, n, _⟩ := mem S z
    exact n rfl
  have lk : as.length = (enK 0 xs).length := by rw [enK_len, la]
  have atP := LiI.putT_at as (enK 0 xs) (upd H S (.lst (as.map V.ref))) lk nd
  have new : ∀ b ∈ as, H b = none := fun b hb => by
    obtain ⟨_, _, _, _, _, _, _, _, n, _⟩ := mem b hb
    exact I.hok.fresh n
  have newS : H S = none := I.hok.fresh hS0
  have off : ∀ b, b ∉ as → b ≠ S → LiI.putT (upd H S (.lst (as.map V.ref))) as (enK 0 xs) b = H b := fun b h1 h2 => by rw [LiI.putT_off as _ _ h1, upd_ne h2]
  have eS : LiI.putT (upd H S (.lst (as.map V.ref))) as (enK 0 xs) S = some (.lst (as.map V.ref)) := by rw [LiI.putT_off as _ _ hSn, upd_same]
  have kp : ∀ b u, H b = some u → (LiI.putT (upd H S (.lst (as.map V.ref))) as (enK 0 xs)) b = some u := fun b u q => by
    rw [off b (fun z => by rw [new b z] at q; cases q) (fun z => by rw [z, newS] at q; cases q)]
    exact q
  have got : ∀ (j : Nat) (x : V) (T : Addr), xs[j]? = some x → as[j]? = some T → LiI.putT (upd H S (.lst (as.map V.ref))) as (enK 0 xs) T = some (.tup [.int (j : Nat), x]) := fun j x T hx hT => by
    obtain ⟨y, hy, e⟩ := LiI.paired_get atP hT
    rw [enK_get, hx, Nat.zero_add] at hy
    cases hy
    exact e
  refine ⟨LiI.putT (upd H S (.lst (as.map V.ref))) as (enK 0 xs), as, kp, newS, eS, la, fun j x hx => ?_, ?_⟩
  · obtain ⟨_, _, T, _, _, _, c1, _⟩ := at2 j (List.getElem?_eq_some_iff.mp hx).1
    exact ⟨T, c1, got j x T hx c1⟩
  refine I.call' (ch := []) rfl ⟨fun b o q _ _ _ => hk b o q, fun b o q _ _ _ => ⟨o.slots, hk b o q⟩, fun b o q n _ => ?_, fun b o q _ => ⟨o, hk b o q⟩, fun b xs q => kp b _ q, fun b o u q => kp b _ q, fun b ps q => ⟨#[], by rw [kp b _ q]; simp⟩⟩ (fun b u q => ?_) I.bare fun b z => by simp at z
  · refine (off b (fun z => ?_) (fun z => absurd (Heap.lt_size q) (by rw [z]; exact Nat.not_lt.mpr hS0))).trans n
    obtain ⟨_, _, _, _, _, _, _, _, n2, _⟩ := mem b z
    exact absurd (Heap.lt_size q) (Nat.not_lt.mpr n2)
  · by_cases hb : b ∈ as
    · obtain ⟨j, x, u', k, a, a2, ru, _, _, q2⟩ := mem b hb
      rw [got j x b a a2] at q
      cases q
      exact ⟨by show 2 ≤ sizeLine; decide, [.int j k, u'], .cons ⟨_, rfl⟩ (.cons ru .nil), ⟨_, q2, rfl, _, rfl⟩⟩
    · by_cases hb2 : b = S
      · rw [hb2] at q ⊢
        rw [eS] at q
        cases q
        refine ⟨by rw [List.length_map, la, sizeLine_eq]; omega, acc.toList, c, by rw [eacc]; exact LiI.vals_refs as, ?_⟩
        rw [Array.toArray_toList]
        exact hS
      · rw [off b hb hb2] at q
        exact (I.hok b u q).stay (fun d v _ y => hk d v y) (fun d y => kp d _ y) fun d xs y => kp d _ y
end
section
variable {X : Cx} {e : Expr} {te : TE}
theorem pe_listEn {p p2 pos pos2 : Pos} (hc : X.calm = true) (hg : Gl X "list") (hm : X.mg "list" = none) (hg2 : Gl X "enumerate") (hm2 : X.mg "enumerate" = none) (he : PE X e te)
    (na : starEach [e] X.env = [(false, eval e X.env)] := by rfl) (nb : starEach [Expr.Call (.Name "enumerate" p2) [e] [] pos2] X.env = [(false, eval (Expr.Call (.Name "enumerate" p2) [e] [] pos2) X.env)] := by rfl) :
    PE X (.Call (.Name "list" p) [.Call (.Name "enumerate" p2) [e] [] pos2] [] pos) (tLstEn X.K te) := by
  refine ⟨fun pins s σ H Q I h => ?_⟩
  refine Call_ (ld_blt I hg hm boot_list (PyProof.Rows.callWith_type1 (args_cons (Q := fun us s' => wpAny (model X.prog X.w) X.A (call (.type "list") us) (EP X pins σ Q) X.xe s') ?_ nb) nb))
  refine Call_ (ld_blt I hg2 hm2 boot_enumerate (PyProof.Rows.callWith_type1 (args_cons (thn (he.run pins s σ H _ I h) fun u s1 ⟨v, H1, I1, rx, a, xs, ex, hq, hl, q⟩ => args_nil ?_) na) na))
  subst ex
  cases rx
  obtain ⟨its, rv, pl, _⟩ := I1.tuple hq
  refine call_enum_tup pl fun h2 e2 i2 k2 => ?_
  refine args_nil ?_
  have la : a < s1.heap.objs.size := by
    obtain ⟨o, ho, _⟩ := pl
    exact Heap.lt_size ho
  have hz : its.toArray.size ≤ 1000 := by
    rw [List.size_toArray, ← rv.length]
    exact hl
  have hit : s1.heap.objs.size < h2.objs.size := by
    obtain ⟨_, q, _⟩ := i2
    exact Heap.lt_size q
  refine call_list_enum (N := s1.heap.objs.size) (I1.ok.hd hc) hz (Nat.succ_ne_self _) (Nat.ne_of_lt (Nat.lt_succ_of_lt la)) (Nat.ne_of_lt la) (Nat.le_of_lt hit) e2 i2 (by obtain ⟨o, ho, r⟩ := pl; exact ⟨o, k2 _ _ ho, r⟩) fun h' tk acc c kp hS hp => ?_
  obtain ⟨H', as, S, n0, eS, hla, hpair, J⟩ := en_laid (tk := tk) I1 rv hl (fun b o q => kp b o (Nat.ne_of_lt (Nat.lt_succ_of_lt (Heap.lt_size q))) (Nat.ne_of_lt (Heap.lt_size q)) (k2 b o q)) (Nat.le_of_lt hit) hS hp
  refine ⟨.ref h2.objs.size, H', J, rfl, q _ _ H' n0 S eS (by rw [List.length_map, hla]) fun j x hx => ?_⟩
  obtain ⟨T, hT, e⟩ := hpair j x hx
  exact ⟨T, by rw [List.getElem?_map, hT]; rfl, e⟩
end
end KA
set_option maxRecDepth 100000
set_option maxHeartbeats 8000000
namespace KA
open PySem PySem.Spec PyProof.Rows L2
/-! ### what stands directly inside a part, with its steps -/
def prD (p : PyData × S10) : PyData := .tuple [p.1, dt p.2]
def nestD (s : S10) : List PyData := (nestS s).map prD
def decW (p : (Str × Nat) × S10) : List PyData := (decS p).map prD
def spNested : Sp := fun vs H Q _ => ∃ (v : V) (s : S10), vs = [v] ∧ Dat H v (dt s) ∧ okS s = true ∧
  ∀ (a : Addr) (xs : List V) (H' : Hp), H a = none → Same H H' → H' a = some (.lst xs) → DatAll H' xs (nestD s) → Q (.ref a) H'
abbrev s_nested : Stmt := top 40
mutual
theorem dt_noL : ∀ s : S10, noL (dt s) = true
  | .few i => by
    rw [dt]
    match i with
    | 0 => rfl
    | 1 => rfl
    | 2 => rfl
    | 3 => rfl
    | 4 => rfl
  | .row c xs => by
    rw [dt, noL, noLs, noLs, noLs, noL, noL, dts_noL xs]
    rfl
  | .pow n x => by
    rw [dt, noL, noLs, noLs, noLs, noLs, noL, noL, dt_noL x]
    rfl
  | .dec c xs => by
    rw [dt, noL, noLs, noLs, noLs, noLs, noL, noL, dts_noL xs, cnts_noL c]
    rfl
theorem dts_noL : ∀ xs : List S10, noLs (dts xs) = true
  | [] => by rw [dts]; rfl
  | x :: xs => by
    rw [dts, noLs, dt_noL x, dts_noL xs]
    rfl
end
theorem datAll_at {H : Hp} : ∀ {vs : List V} {ds : List PyData}, vs.length = ds.length → (∀ (j : Nat) (d : PyData), ds[j]? = some d → ∃ v, vs[j]? = some v ∧ Dat H v d) → DatAll H vs ds
  | [], [], _, _ => .nil
  | [], _ :: _, h, _ => by cases h
  | _ :: _, [], h, _ => by cases h
  | v :: vs, d :: ds, h, k => by
    obtain ⟨u, e, t⟩ := k 0 d rfl
    cases e
    exact .cons t (datAll_at (Nat.succ.inj h) fun j d' e' => k (j + 1) d' e')
theorem enum_at : ∀ (xs : List S10) (k j : Nat), (enumS k xs)[j]? = (xs[j]?).map fun e => (.int ((k + j : Nat) : Int), e)
  | [], _, _ => by simp [enumS]
  | x :: xs, k, 0 => by simp [enumS]
  | x :: xs, k, j + 1 => by
    rw [enumS]
    show (enumS (k + 1) xs)[j]? = _
    rw [enum_at xs (k + 1) j, show k + 1 + j = k + (j + 1) by omega]
    rfl
theorem enum_len : ∀ (xs : List S10) (k : Nat), (enumS k xs).length = xs.length
  | [], _ => rfl
  | x :: xs, k => by rw [enumS, List.length_cons, List.length_cons, enum_len xs]
theorem pow_noL (n : Nat) (x : S10) : noLs ((List.range n).map fun k => prD (.int (k : Nat), x)) = true := noLs_iff.mpr fun d hd => by
  obtain ⟨k, _, rfl⟩ := List.mem_map.mp hd
  show noL (.tuple [.int (k : Nat), dt x]) = true
  rw [noL, noLs, noLs, noLs, noL, dt_noL]
  rfl
theorem decW_eq (p : (Str × Nat) × S10) : decW p = (List.range p.1.2).map fun j => prD (.tuple [.str p.1.1, .int (j : Nat)], p.2) := by
  unfold decW decS
  rw [List.map_map]
  rfl
theorem decW_noL (p : (Str × Nat) × S10) : noLs (decW p) = true := noLs_iff.mpr fun d hd => by
  rw [decW_eq] at hd
  obtain ⟨k, _, rfl⟩ := List.mem_map.mp hd
  show noL (.tuple [.tuple [.str p.1.1, .int (k : Nat)], dt p.2]) = true
  rw [noL, noLs, noLs, noLs, noL, noLs, noLs, noLs, noL, noL, dt_noL]
  rfl
theorem cnts_le (c : Fin 3) : (cnts c).length ≤ 2 ∧ ∀ q ∈ cnts c, q.2 ≤ 2 ∧ q.1.length ≤ 1000 := by
  match c with
  | 0 => exact ⟨by decide, by decide +kernel⟩
  | 1 => exact ⟨by decide, by decide +kernel⟩
  | 2 => exact ⟨by decide, by decide +kernel⟩
theorem decs_len : ∀ l : List ((Str × Nat) × S10), (∀ p ∈ l, p.1.2 ≤ 2) → (l.flatMap decW).length ≤ 2 * l.length
  | [], _ => Nat.le_refl _
  | p :: l, h => by
    rw [List.flatMap_cons, List.length_append, List.length_cons, decW_eq, List.length_map, List.length_range]
    have h1 := decs_len l fun q hq => h q (List.mem_cons_of_mem _ hq)
    have h2 := h p List.mem_cons_self
    omega
section
variable {P : Program} {w : World} {K : PySem.W.Frag} {mg : Str → Option Value} {base : Heap}
theorem sc_nested : FnScope ["_law_part", "_law_found", "_law_one", "_law_inner", "_law_k", "_law_j"] ["_law_part"] (defScope s_nested) := ⟨rfl, rfl, rfl, by decide +kernel, rfl, by decide +kernel, by decide +kernel⟩
theorem ok_nested {f : Addr} {fd : FuncData} (F : Fun K "_law_nested" "_law_nested" s_nested f fd) (T : Nm mg) : FnOk P w K mg base CX0 1 f fd ["_law_part"] spNested := by
  refine F.ok sc_nested (fun vs H Q E h => ?_) (fun cdv A outer s H vs Q E hr h => ?_)
  · obtain ⟨v, s, rfl, _⟩ := h
    rfl
  · obtain ⟨v, sp, rfl, hv, hok, k⟩ := h
    refine ⟨_, (pss_cons (ps_if (pt_cmpR op_in_seq (pe_ix ix_tup (pv 0) pe_int (fun _ _ => rfl)) (pe_tup (pa_cons pe_str (pa_cons pe_str pa_nil))) rfl)
        (pss_one (ps_ret (pe_listEn rfl (by rfl) T.list (by rfl) T.enumerate (pe_ix ix_tup (pv 0) pe_int (fun _ _ => rfl)))))
        pss_nil)
      (pss_cons (ps_if (pt_cmpR op_eq (pe_ix ix_tup (pv 0) pe_int (fun _ _ => rfl)) pe_str (nomark _))
        (pss_one (ps_ret (pe_lc (own := [("_law_k", 4)]) (g := (gName 4)) (tt := tYes) (te := tTup (tCons (tVar 4) (tCons (tOp (rIxT K) (tVar 0) (tC (.int 2))) tNil))) rfl sc_nested.nd (pi_range1 rfl T.range (pa_cons (pe_ix ix_tup (pv 0) pe_int (fun _ _ => rfl)) pa_nil)) (blkOk_by (N := ["_law_part", "_law_found", "_law_one", "_law_inner", "_law_k", "_law_j"]) (sc := defScope s_nested) (by decide +kernel))
          (fun _ _ _ _ _ => (pg_name (i := 4) sc_nested.nd rfl (Or.inl rfl))) (fun _ _ _ _ _ => pts_nil) (fun _ _ _ _ _ => (pe_tup (pa_cons (pv 4) (pa_cons (pe_ix ix_tup (pv 0) pe_int (fun _ _ => rfl)) pa_nil)))))))
        pss_nil)
      (pss_cons (ps_set (i := 1) sc_nested.nd rfl (Or.inl rfl) (pe_lst pa_nil))
      (pss_cons (ps_if (pt_cmpR op_eq (pe_ix ix_tup (pv 0) pe_int (fun _ _ => rfl)) pe_str (nomark _))
        (pss_one (ps_for PassesOwn.never rfl (RZ.pi_zipA rfl T.zip (pa_cons (pe_ix ix_tup (pv 0) pe_int (fun _ _ => rfl)) (pa_cons (pe_ix ix_tup (pv 0) pe_int (fun _ _ => rfl)) pa_nil))) (pg_tup rfl (pgs_cons (pg_name (i := 2) sc_nested.nd rfl (Or.inr rfl)) (pgs_cons (pg_name (i := 3) sc_nested.nd rfl (Or.inr rfl)) pgs_nil)))
          (pss_one (ps_expr (pe_bm PySem.F.plainAttrs_list PySem.F.slot_list_extend PySem.F.type_list_extend mt_extend (pv 1) (pa_cons (pe_lc (own := [("_law_j", 5)]) (g := (gName 5)) (tt := tYes) (te := tTup (tCons (tTup (tCons (tOp (rIxT K) (tVar 2) (tC (.int 0))) (tCons (tVar 5) tNil))) (tCons (tVar 3) tNil))) rfl sc_nested.nd (pi_range1 rfl T.range (pa_cons (pe_ix ix_tup (pv 2) pe_int (fun _ _ => rfl)) pa_nil)) (blkOk_by (N := ["_law_part", "_law_found", "_law_one", "_law_inner", "_law_k", "_law_j"]) (sc := defScope s_nested) (by decide +kernel))
          (fun _ _ _ _ _ => (pg_name (i := 5) sc_nested.nd rfl (Or.inl rfl))) (fun _ _ _ _ _ => pts_nil) (fun _ _ _ _ _ => (pe_tup (pa_cons (pe_tup (pa_cons (pe_ix ix_tup (pv 2) pe_int (fun _ _ => rfl)) (pa_cons (pv 5) pa_nil))) (pa_cons (pv 3) pa_nil))))) pa_nil))))))
        pss_nil)
      (pss_one (ps_ret (pv 1))))))), ?_⟩
    cases sp with
    | few i =>
      obtain ⟨a0, z, ps, rfl, h0, e1, e2, e3⟩ : ∃ (a0 : Addr) (z : Str) (ps : List V), v = .ref a0 ∧ H a0 = some (.tup (.str z :: ps)) ∧ inV (.str z) [.str "product", .str "choice"] = false ∧ decide (V.str z = V.str "power") = false ∧ decide (V.str z = V.str "decorated") = false := by
        rw [dt] at hv
        match i, hv with
        | 0, .tup h0 (.cons (.str _ _) _) => exact ⟨_, _, _, rfl, h0, by decide +kernel, by decide +kernel, by decide +kernel⟩
        | 1, .tup h0 (.cons (.str _ _) _) => exact ⟨_, _, _, rfl, h0, by decide +kernel, by decide +kernel, by decide +kernel⟩
        | 2, .tup h0 (.cons (.str _ _) _) => exact ⟨_, _, _, rfl, h0, by decide +kernel, by decide +kernel, by decide +kernel⟩
        | 3, .tup h0 (.cons (.str _ _) _) => exact ⟨_, _, _, rfl, h0, by decide +kernel, by decide +kernel, by decide +kernel⟩
        | 4, .tup h0 (.cons (.str _ _) _) => exact ⟨_, _, _, rfl, h0, by decide +kernel, by decide +kernel, by decide +kernel⟩
      refine ⟨_, rfl, a0, _, _, _, rfl, rfl, SqT.of h0, atI_nat (j := 0) rfl, (by show 2 ≤ sizeLine; decide), fun tp ntp => ⟨tp, _, rfl, .inr (SqT.of upd_same), rfl, rfl, _, rfl, ?_⟩⟩
      have S1 := same_new (o := HO.tup [.str "product", .str "choice"]) ntp
      generalize upd H tp (.tup [.str "product", .str "choice"]) = H1 at S1 ⊢
      refine if_f e1 ?_
      refine ⟨_, rfl, a0, _, _, _, rfl, rfl, SqT.of (S1 _ _ h0), atI_nat (j := 0) rfl, rfl, _, rfl, if_f e2 ?_⟩
      refine ⟨(by show 0 ≤ sizeLine; decide), fun L nL => ?_⟩
      have S2 := same_new (o := HO.lst []) nL
      refine ⟨_, rfl, a0, _, _, _, rfl, rfl, SqT.of (S2 _ _ (S1 _ _ h0)), atI_nat (j := 0) rfl, rfl, _, rfl, if_f e3 ?_⟩
      exact ⟨_, rfl, k L [] _ (S1.free nL) (S1.trans S2) upd_same .nil⟩
    | row c xs =>
      have hle : xs.length ≤ 2 := by
        rw [okS, Bool.and_eq_true] at hok
        exact of_decide_eq_true hok.2
      rw [dt] at hv
      cases hv with
      | @tup a0 ps _ h0 hps =>
      obtain ⟨_, v1, rfl, i0, i1⟩ := dat2 hps
      cases i0
      cases i1 with
      | @tup b ys _ hb hys =>
      have hl := hys.len
      rw [dts_len] at hl
      refine ⟨_, rfl, a0, _, _, _, rfl, rfl, SqT.of h0, atI_nat (j := 0) rfl, (by show 2 ≤ sizeLine; decide), fun tp ntp => ⟨tp, _, rfl, .inr (SqT.of upd_same), rfl, rfl, _, rfl, ?_⟩⟩
      have S1 := same_new (o := HO.tup [.str "product", .str "choice"]) ntp
      have ein : inV (.str (rowW c)) [.str "product", .str "choice"] = true := by cases c <;> decide +kernel
      generalize upd H tp (.tup [.str "product", .str "choice"]) = H1 at S1 ⊢
      refine if_t ein ?_
      refine ⟨_, rfl, a0, _, _, _, rfl, rfl, SqT.of (S1 _ _ h0), atI_nat (j := 1) rfl, b, ys, rfl, SqT.of (S1 _ _ hb), by omega, fun l ps H' nl S hl' hpl hps => k l ps H' (S1.free nl) (S1.trans S) hl' (datAll_at ?_ fun j d hd => ?_)⟩
      · show ps.length = ((enumS 0 xs).map prD).length
        rw [List.length_map, enum_len, hpl, hl]
      · have hd' : ((enumS 0 xs).map prD)[j]? = some d := hd
        rw [List.getElem?_map, enum_at] at hd'
        cases e : xs[j]? with
        | none =>
          rw [e] at hd'
          cases hd'
        | some x =>
          rw [e] at hd'
          have hd' := Option.some.inj hd'
          subst hd'
          obtain ⟨y, hy, dy⟩ := dats_get hys e
          obtain ⟨U, hU, eU⟩ := hps j y hy
          refine ⟨_, hU, .tup eU (.cons ?_ (.cons ((dy.same S1).same S) .nil))⟩
          rw [Nat.zero_add]
          exact .int _
    | pow n y =>
      have hle : n ≤ 3 := by
        rw [okS, Bool.and_eq_true] at hok
        exact of_decide_eq_true hok.2
      rw [dt] at hv
      cases hv with
      | @tup a0 ps _ h0 hps =>
      obtain ⟨_, _, y2, rfl, i0, i1, dy⟩ := dat3 hps
      cases i0
      cases i1
      refine ⟨_, rfl, a0, _, _, _, rfl, rfl, SqT.of h0, atI_nat (j := 0) rfl, (by show 2 ≤ sizeLine; decide), fun tp ntp => ⟨tp, _, rfl, .inr (SqT.of upd_same), rfl, rfl, _, rfl, ?_⟩⟩
      have S1 := same_new (o := HO.tup [.str "product", .str "choice"]) ntp
      generalize upd H tp (.tup [.str "product", .str "choice"]) = H1 at S1 ⊢
      refine if_f (by decide +kernel) ?_
      refine ⟨_, rfl, a0, _, _, _, rfl, rfl, SqT.of (S1 _ _ h0), atI_nat (j := 0) rfl, rfl, _, rfl, if_t (by decide +kernel) ?_⟩
      refine ⟨_, rfl, a0, _, _, _, rfl, rfl, SqT.of (S1 _ _ h0), atI_nat (j := 1) rfl, ((n : Nat) : Int), rfl, by omega, by omega, fun M nM => lc_range (n := n) (fun j Hz => Gr H1 M ((List.range j).map fun k => prD (.int (k : Nat), y)) Hz) (Gr.start nM) ?_ ?_⟩
      · rintro j Hz hj gz
        rw [show ((0 : Int) + (j : Nat)) = ((j : Nat) : Int) from Int.zero_add _]
        refine ⟨rfl, ?_⟩
        dsimp only [tYes]
        refine if_t rfl ⟨_, rfl, _, rfl, a0, _, _, y2, rfl, rfl, SqT.of (gz.2.1 _ _ (S1 _ _ h0)), atI_nat (j := 2) rfl, (by show 2 ≤ sizeLine; decide), fun t nt => ?_⟩
        have y1 := same_new (o := HO.tup [.int (j : Nat), y2]) nt
        have u1 : upd Hz t (.tup [.int (j : Nat), y2]) t = some (.tup [.int (j : Nat), y2]) := upd_same
        have dz : DatAll (upd Hz t (.tup [.int (j : Nat), y2])) [.ref t] [prD (.int (j : Nat), y)] := .cons (.tup u1 (.cons (.int _) (.cons (((dy.same S1).same gz.2.1).same y1) .nil))) .nil
        obtain ⟨xs, hM, hxl, _, g'⟩ := gz.add y1 dz (by
          have := pow_noL (j + 1) y
          rw [List.range_succ, List.map_append] at this
          exact noLs_iff.mpr fun d hd => noLs_iff.mp this d (List.mem_append_right _ hd))
        rw [List.length_map, List.length_range] at hxl
        refine ⟨xs, hM, (by rw [sizeLine_eq]; omega), ?_⟩
        rw [List.range_succ, List.map_append]
        exact g'
      · rintro Hz gz
        obtain ⟨xs, h, _, d⟩ := gz.fin
        refine k M xs Hz (S1.free nM) (S1.trans gz.2.1) h ?_
        show DatAll Hz xs (((List.range n).map fun k => (PyData.int (k : Nat), y)).map prD)
        rw [List.map_map]
        exact d
    | dec c xs =>
      have hlx : xs.length = (cnts c).length := by
        rw [okS, Bool.and_eq_true] at hok
        exact of_decide_eq_true hok.2
      rw [dt] at hv
      cases hv with
      | @tup a0 ps _ h0 hps =>
      obtain ⟨_, v1, v2, rfl, i0, i1, i2⟩ := dat3 hps
      cases i0
      obtain ⟨bc, yc, rfl, hbc, hyc⟩ : ∃ bc yc, v1 = .ref bc ∧ H bc = some (.tup yc) ∧ DatAll H yc ((cnts c).map fun c => .tuple [.str c.1, .int (c.2 : Nat)]) := by
        cases i1 with
        | tup h1 h2 => exact ⟨_, _, rfl, h1, h2⟩
      obtain ⟨b, ys, rfl, hb, hys⟩ : ∃ b ys, v2 = .ref b ∧ H b = some (.tup ys) ∧ DatAll H ys (dts xs) := by
        cases i2 with
        | tup h1 h2 => exact ⟨_, _, rfl, h1, h2⟩
      have hl := hys.len
      rw [dts_len] at hl
      have hlc : yc.length = (cnts c).length := by rw [hyc.len, List.length_map]
      obtain ⟨cl2, cq⟩ := cnts_le c
      refine ⟨_, rfl, a0, _, _, _, rfl, rfl, SqT.of h0, atI_nat (j := 0) rfl, (by show 2 ≤ sizeLine; decide), fun tp ntp => ⟨tp, _, rfl, .inr (SqT.of upd_same), rfl, rfl, _, rfl, ?_⟩⟩
      have S1 := same_new (o := HO.tup [.str "product", .str "choice"]) ntp
      generalize upd H tp (.tup [.str "product", .str "choice"]) = H1 at S1 ⊢
      refine if_f (by decide +kernel) ?_
      refine ⟨_, rfl, a0, _, _, _, rfl, rfl, SqT.of (S1 _ _ h0), atI_nat (j := 0) rfl, rfl, _, rfl, if_f (by decide +kernel) ?_⟩
      refine ⟨(by show 0 ≤ sizeLine; decide), fun L nL => ?_⟩
      have g0 := Gr.start nL
      have S2 := same_new (o := HO.lst []) nL
      generalize upd H1 L (.lst []) = H2 at g0 S2 ⊢
      have S := S1.trans S2
      refine ⟨_, rfl, a0, _, _, _, rfl, rfl, SqT.of (S _ _ h0), atI_nat (j := 0) rfl, rfl, _, rfl, if_t (by decide +kernel) ?_⟩
      refine ⟨_, rfl, a0, _, _, _, rfl, rfl, SqT.of (S _ _ h0), atI_nat (j := 1) rfl, _, rfl, a0, _, _, _, rfl, rfl, SqT.of (S _ _ h0), atI_nat (j := 2) rfl, bc, b, yc, ys, rfl, .inr ⟨SqT.of (S _ _ hbc), SqT.of (S _ _ hb), RZ.for_zipT (K := K) (by rw [hlc, hl, hlx]) (fun i σ Hx => ∃ (w2 w3 : Option V), σ = [some (.ref a0), some (.ref L), w2, w3, none, none] ∧ Gr H1 L ((((cnts c).zip xs).take i).flatMap decW) Hx)
        ⟨none, none, rfl, g0⟩ (fun i σ Hx ⟨_, _, _, g⟩ => ⟨SqT.of ((S1.trans g.2.1) _ _ hbc), SqT.of ((S1.trans g.2.1) _ _ hb)⟩) ?_ ?_⟩⟩
      · rintro i y1 y2 U σ Hx hi1 hi2 ⟨w2, w3, rfl, g0⟩ nU
        have Su := same_new (o := HO.tup [y1, y2]) nU
        have hU : upd Hx U (.tup [y1, y2]) U = some (.tup [y1, y2]) := upd_same
        have g := g0.same Su
        generalize upd Hx U (.tup [y1, y2]) = Hu at Su hU g ⊢
        clear g0
        have SH := S1.trans g.2.1
        refine ⟨U, _, rfl, SqT.of hU, rfl, _, _, rfl, _, _, rfl, rfl, ?_⟩
        obtain ⟨d1, hd1, t1⟩ := hyc.get hi1
        rw [List.getElem?_map] at hd1
        obtain ⟨cc, hcc, rfl⟩ := Option.map_eq_some_iff.mp hd1
        have t1' : Dat H y1 (cntD cc) := t1
        obtain ⟨bp, rfl, hbp⟩ := cnt_at t1'
        have hbp' := SH _ _ hbp
        have hlt : i < xs.length := by
          have := (List.getElem?_eq_some_iff.mp hi2).1
          omega
        have hxe : xs[i]? = some xs[i] := List.getElem?_eq_getElem hlt
        obtain ⟨y', hy', dy'⟩ := dats_get hys hxe
        rw [hi2] at hy'
        cases hy'
        have dy := dy'.same SH
        generalize xs[i] = xe at hxe dy dy'
        have hz : ((cnts c).zip xs)[i]? = some (cc, xe) := by
          rw [List.getElem?_zip_eq_some]
          exact ⟨hcc, hxe⟩
        have hcq := cq cc (List.mem_of_getElem? hcc)
        obtain ⟨xs0, hL0, _⟩ := g.fin
        refine ⟨_, rfl, .inl ⟨rfl, _, SqL.of hL0⟩, _, rfl, bp, _, _, _, rfl, rfl, SqT.of hbp', atI_nat (j := 1) rfl, ((cc.2 : Nat) : Int), rfl, by omega, by omega, fun M nM => lc_range (n := cc.2) (fun j Hz => Gr Hu M ((List.range j).map fun j => prD (.tuple [.str cc.1, .int (j : Nat)], xe)) Hz) (Gr.start nM) ?_ ?_⟩
        · rintro j Hz hj gz
          rw [show ((0 : Int) + (j : Nat)) = ((j : Nat) : Int) from Int.zero_add _]
          refine ⟨rfl, ?_⟩
          dsimp only [tYes]
          refine if_t rfl ⟨_, rfl, bp, _, _, _, rfl, rfl, SqT.of (gz.2.1 _ _ hbp'), atI_nat (j := 0) rfl, _, rfl, (by show 2 ≤ sizeLine; decide), fun t1 n1 => ⟨_, rfl, (by show 2 ≤ sizeLine; decide), fun t2 n2 => ?_⟩⟩
          have s1 := same_new (o := HO.tup [.str cc.1, .int (j : Nat)]) n1
          have u1 : upd Hz t1 (.tup [.str cc.1, .int (j : Nat)]) t1 = some (.tup [.str cc.1, .int (j : Nat)]) := upd_same
          have s2 := same_new (o := HO.tup [.ref t1, y2]) n2
          have u2 : upd (upd Hz t1 (.tup [.str cc.1, .int (j : Nat)])) t2 (.tup [.ref t1, y2]) t2 = some (.tup [.ref t1, y2]) := upd_same
          have u1 := s2 _ _ u1
          have s12 := s1.trans s2
          generalize upd (upd Hz t1 (.tup [.str cc.1, .int (j : Nat)])) t2 (.tup [.ref t1, y2]) = H4 at u1 u2 s12 ⊢
          have dz : DatAll H4 [.ref t2] [prD (.tuple [.str cc.1, .int (j : Nat)], xe)] := .cons (.tup u2 (.cons (.tup u1 (.cons (.str _ hcq.2) (.cons (.int _) .nil))) (.cons ((dy.same gz.2.1).same s12) .nil))) .nil
          obtain ⟨xs, hM, hxl, _, g'⟩ := gz.add s12 dz (by
            have := decW_noL ((cc.1, j + 1), xe)
            rw [decW_eq, List.range_succ, List.map_append] at this
            exact noLs_iff.mpr fun d hd => noLs_iff.mp this d (List.mem_append_right _ hd))
          rw [List.length_map, List.length_range] at hxl
          refine ⟨xs, hM, (by rw [sizeLine_eq]; omega), ?_⟩
          rw [List.range_succ, List.map_append]
          exact g'
        · rintro Hz gz
          obtain ⟨zs, hM, hzl, dz⟩ := gz.fin
          rw [List.length_map, List.length_range] at hzl
          have ed : ((List.range cc.2).map fun j => prD (.tuple [.str cc.1, .int (j : Nat)], xe)) = decW (cc, xe) := (decW_eq (cc, xe)).symm
          rw [ed] at dz
          obtain ⟨xs', hL, hxl, _, g'⟩ := g.add gz.2.1 dz (decW_noL _)
          have hdl := decs_len (((cnts c).zip xs).take i) fun p hp => (cq p.1 (List.of_mem_zip (a := p.1) (b := p.2) (List.mem_of_mem_take hp)).1).1
          rw [List.length_take, List.length_zip] at hdl
          refine ⟨L, M, xs', zs, rfl, rfl, hL, hM, (by rw [sizeLine_eq]; omega), ?_⟩
          refine ⟨_, _, rfl, ?_⟩
          rw [List.take_add_one, hz, List.flatMap_append, show (some (cc, xe)).toList.flatMap decW = decW (cc, xe) by simp]
          exact g'
      · rintro σ Hx ⟨w2, w3, rfl, g⟩
        obtain ⟨xs', h, _, d⟩ := g.fin
        refine ⟨_, rfl, k L xs' Hx (S1.free nL) (S1.trans g.2.1) h ?_⟩
        rw [List.take_of_length_le (by rw [List.length_zip, hlc]; omega)] at d
        show DatAll Hx xs' ((((cnts c).zip xs).flatMap decS).map prD)
        rw [List.map_flatMap]
        exact d
end
end KA
set_option maxRecDepth 100000
set_option maxHeartbeats 8000000
namespace KA
open PySem PySem.Spec PyProof.Rows L2
/-! ### all parts of a space, counted -/
mutual
def nP : S10 → Nat
  | .few _ => 1
  | .row _ xs => 1 + nPs xs
  | .pow n x => 1 + n * nP x
  | .dec c xs => 1 + nPz xs (cnts c)
def nPs : List S10 → Nat
  | [] => 0
  | x :: xs => nP x + nPs xs
def nPz : List S10 → Cn → Nat
  | [], _ => 0
  | _ :: _, [] => 0
  | x :: xs, c :: cs => c.2 * nP x + nPz xs cs
end
def sumP (l : List (PyData × S10)) : Nat := (l.map fun q => nP q.2).sum
theorem sumP_cons (q : PyData × S10) (l : List (PyData × S10)) : sumP (q :: l) = nP q.2 + sumP l := rfl
theorem sumP_app (l m : List (PyData × S10)) : sumP (l ++ m) = sumP l + sumP m := by
  unfold sumP
  rw [List.map_append, List.sum_append]
theorem sum_enum : ∀ (xs : List S10) (k : Nat), sumP (enumS k xs) = nPs xs
  | [], _ => by rw [nPs]; rfl
  | x :: xs, k => by rw [enumS, sumP_cons, sum_enum xs (k + 1), nPs]
theorem sum_rng (x : S10) (F : Nat → PyData) : ∀ n : Nat, sumP ((List.range n).map fun k => (F k, x)) = n * nP x
  | 0 => by simp [sumP]
  | n + 1 => by
    rw [List.range_succ, List.map_append, sumP_app, sum_rng x F n, Nat.add_mul, Nat.one_mul]
    rfl
theorem sum_dec : ∀ (xs : List S10) (cs : Cn), sumP ((cs.zip xs).flatMap decS) = nPz xs cs
  | [], cs => by
    rw [nPz, List.zip_nil_right]
    rfl
  | x :: xs, [] => by
    rw [nPz]
    rfl
  | x :: xs, c :: cs => by
    rw [nPz, List.zip_cons_cons, List.flatMap_cons, sumP_app, sum_dec xs cs]
    unfold decS
    rw [sum_rng]
theorem nP_nest (s : S10) : nP s = 1 + sumP (nestS s) := by
  cases s with
  | few i =>
    rw [nP]
    rfl
  | row c xs => rw [nP, nestS, sum_enum]
  | pow n x => rw [nP, nestS, sum_rng]
  | dec c xs => rw [nP, nestS, sum_dec]
def bd : Nat → Nat
  | 0 => 0
  | n + 1 => 1 + 3 * bd n
theorem bd_mono : ∀ {m n : Nat}, m ≤ n → bd m ≤ bd n
  | 0, _, _ => Nat.zero_le _
  | m + 1, n + 1, h => by
    have := bd_mono (Nat.le_of_succ_le_succ h)
    show 1 + 3 * bd m ≤ 1 + 3 * bd n
    omega
theorem tot_cnts (c : Fin 3) : totN (cnts c) ≤ 3 := by
  match c with
  | 0 => decide +kernel
  | 1 => decide +kernel
  | 2 => decide +kernel
mutual
theorem nP_le : ∀ s : S10, okS s = true → nP s ≤ bd (dpS s)
  | .few i, _ => by
    rw [nP, dpS]
    decide
  | .row c xs, h => by
    rw [okS, Bool.and_eq_true] at h
    have h1 := nPs_le xs h.1 (dpSs xs) (Nat.le_refl _)
    have h2 := of_decide_eq_true h.2
    have h3 : xs.length * bd (dpSs xs) ≤ 2 * bd (dpSs xs) := Nat.mul_le_mul_right _ h2
    rw [nP, dpS, Nat.add_comm 1 (dpSs xs)]
    show 1 + nPs xs ≤ 1 + 3 * bd (dpSs xs)
    omega
  | .pow n x, h => by
    rw [okS, Bool.and_eq_true] at h
    have h1 := nP_le x h.1
    have h2 := of_decide_eq_true h.2
    have h3 : n * nP x ≤ 3 * bd (dpS x) := Nat.mul_le_mul h2 h1
    rw [nP, dpS, Nat.add_comm 1 (dpS x)]
    show 1 + n * nP x ≤ 1 + 3 * bd (dpS x)
    omega
  | .dec c xs, h => by
    rw [okS, Bool.and_eq_true] at h
    have h1 := nPz_le xs (cnts c) h.1 (dpSs xs) (Nat.le_refl _)
    have h2 := tot_cnts c
    have h3 : totN (cnts c) * bd (dpSs xs) ≤ 3 * bd (dpSs xs) := Nat.mul_le_mul_right _ h2
    rw [nP, dpS, Nat.add_comm 1 (dpSs xs)]
    show 1 + nPz xs (cnts c) ≤ 1 + 3 * bd (dpSs xs)
    omega
theorem nPs_le : ∀ xs : List S10, okSs xs = true → ∀ n, dpSs xs ≤ n → nPs xs ≤ xs.length * bd n
  | [], _, n, _ => by
    rw [nPs]
    exact Nat.zero_le _
  | x :: xs, h, n, hn => by
    rw [okSs, Bool.and_eq_true] at h
    rw [dpSs] at hn
    have h1 := Nat.le_trans (nP_le x h.1) (bd_mono (Nat.le_trans (Nat.le_max_left _ _) hn))
    have h2 := nPs_le xs h.2 n (Nat.le_trans (Nat.le_max_right _ _) hn)
    rw [nPs, List.length_cons, Nat.add_mul, Nat.one_mul]
    omega
theorem nPz_le : ∀ (xs : List S10) (cs : Cn), okSs xs = true → ∀ n, dpSs xs ≤ n → nPz xs cs ≤ totN cs * bd n
  | [], _, _, n, _ => by
    rw [nPz]
    exact Nat.zero_le _
  | x :: xs, [], _, n, _ => by
    rw [nPz]
    exact Nat.zero_le _
  | x :: xs, c :: cs, h, n, hn => by
    rw [okSs, Bool.and_eq_true] at h
    rw [dpSs] at hn
    have h1 := Nat.le_trans (nP_le x h.1) (bd_mono (Nat.le_trans (Nat.le_max_left _ _) hn))
    have h2 := nPz_le xs cs h.2 n (Nat.le_trans (Nat.le_max_right _ _) hn)
    have h3 : c.2 * nP x ≤ c.2 * bd n := Nat.mul_le_mul_left _ h1
    have h4 : totN (c :: cs) = c.2 + totN cs := rfl
    rw [nPz, h4, Nat.add_mul]
    omega
end
/-! paths -/
theorem dps_mem : ∀ {xs : List S10} {x : S10}, x ∈ xs → dpS x ≤ dpSs xs
  | y :: xs, x, h => by
    rw [dpSs]
    rcases List.mem_cons.mp h with rfl | h
    · exact Nat.le_max_left _ _
    · exact Nat.le_trans (dps_mem h) (Nat.le_max_right _ _)
theorem nest_dp {s e : S10} {d : PyData} (h : (d, e) ∈ nestS s) : dpS e + 1 ≤ dpS s ∧ noL d = true := by
  cases s with
  | few i => cases h
  | row c xs =>
    obtain ⟨j, rfl, hj⟩ := (enum_get xs 0 d e).mp h
    have := dps_mem (List.mem_of_getElem? hj)
    rw [dpS]
    exact ⟨by omega, by rw [noL]⟩
  | pow n x =>
    obtain ⟨k, _, hk⟩ := List.mem_map.mp h
    cases hk
    rw [dpS]
    exact ⟨by omega, by rw [noL]⟩
  | dec c xs =>
    obtain ⟨q, hq, hq2⟩ := List.mem_flatMap.mp h
    obtain ⟨rfl, j, _, rfl⟩ := dec_mem.mp hq2
    have := dps_mem (List.of_mem_zip (a := q.1) (b := q.2) hq).2
    rw [dpS]
    refine ⟨by omega, ?_⟩
    rw [noL, noLs, noLs, noLs, noL, noL]
    rfl
theorem path_len : ∀ {p : List PyData} {s e : S10}, partAt s p = some e → p.length + dpS e ≤ dpS s ∧ noLs p = true
  | [], s, e, h => by
    cases h
    exact ⟨by rw [List.length_nil]; omega, rfl⟩
  | d :: p, s, e, h => by
    have h' : (match nextS s d with | none => none | some e => partAt e p) = some e := h
    cases hn : nextS s d with
    | none =>
      rw [hn] at h'
      cases h'
    | some m =>
      rw [hn] at h'
      obtain ⟨a, b⟩ := path_len h'
      obtain ⟨c1, c2⟩ := nest_dp ((next_iff s d m).mp hn)
      refine ⟨by rw [List.length_cons]; omega, ?_⟩
      rw [noLs, c2, b]
      rfl
/-! the search through all parts -/
abbrev Pth : Type := List PyData × S10
def pD (p : Pth) : PyData := .tuple [.tuple p.1, dt p.2]
def moreP (p : Pth) : List Pth := (nestS p.2).map fun q => (p.1 ++ [q.1], q.2)
def sumL (l : List Pth) : Nat := (l.map fun q => nP q.2).sum
/-- all parts of s are found or lie ahead -/
structure Seen (s : S10) (found left : List Pth) : Prop where
  true : ∀ q ∈ found ++ left, partAt s q.1 = some q.2
  all : ∀ p e, partAt s p = some e → (p, e) ∈ found ∨ ∃ q ∈ left, ∃ r, p = q.1 ++ r ∧ partAt q.2 r = some e
  cnt : found.length + sumL left = nP s
theorem seen0 (s : S10) : Seen s [] [([], s)] where
  true := fun q hq => by
    rw [List.nil_append, List.mem_singleton] at hq
    subst hq
    rfl
  all := fun p e h => .inr ⟨([], s), List.mem_singleton.mpr rfl, p, rfl, h⟩
  cnt := by
    show 0 + (nP s + 0) = nP s
    omega
theorem seen_step {s : S10} {found left : List Pth} {q : Pth} (h : Seen s found (q :: left)) : Seen s (found ++ [q]) (left ++ moreP q) where
  true := fun u hu => by
    have hq := h.true q (List.mem_append_right _ List.mem_cons_self)
    rcases List.mem_append.mp hu with hu | hu
    · rcases List.mem_append.mp hu with hu | hu
      · exact h.true u (List.mem_append_left _ hu)
      · rw [List.mem_singleton.mp hu]
        exact hq
    · rcases List.mem_append.mp hu with hu | hu
      · exact h.true u (List.mem_append_right _ (List.mem_cons_of_mem _ hu))
      · obtain ⟨v, hv, rfl⟩ := List.mem_map.mp hu
        rw [partAt_snoc, hq]
        exact (next_iff _ _ _).mpr hv
  all := fun p e hp => by
    rcases h.all p e hp with hf | ⟨u, hu, r, rfl, hr⟩
    · exact .inl (List.mem_append_left _ hf)
    · rcases List.mem_cons.mp hu with rfl | hu
      · cases r with
        | nil =>
          cases hr
          rw [List.append_nil]
          exact .inl (List.mem_append_right _ (List.mem_singleton.mpr rfl))
        | cons d r =>
          have h' : (match nextS u.2 d with | none => none | some e => partAt e r) = some e := hr
          cases hn : nextS u.2 d with
          | none =>
            rw [hn] at h'
            cases h'
          | some m =>
            rw [hn] at h'
            exact .inr ⟨(u.1 ++ [d], m), List.mem_append_right _ (List.mem_map.mpr ⟨(d, m), (next_iff _ _ _).mp hn, rfl⟩), r, by rw [List.append_assoc]; rfl, h'⟩
      · exact .inr ⟨u, List.mem_append_left _ hu, r, rfl, hr⟩
  cnt := by
    have hc := h.cnt
    have e1 : sumL (q :: left) = nP q.2 + sumL left := rfl
    have e2 : sumL (left ++ moreP q) = sumL left + sumP (nestS q.2) := by
      unfold sumL moreP sumP
      rw [List.map_append, List.sum_append, List.map_map]
      rfl
    have e3 := nP_nest q.2
    rw [List.length_append, List.length_singleton, e2]
    omega
theorem nP_pos (s : S10) : 1 ≤ nP s := by
  rw [nP_nest]
  omega
theorem sumL_len : ∀ l : List Pth, l.length ≤ sumL l
  | [] => Nat.le_refl _
  | q :: l => by
    have := sumL_len l
    have := nP_pos q.2
    show l.length + 1 ≤ nP q.2 + sumL l
    omega
end KA
set_option maxRecDepth 100000
set_option maxHeartbeats 8000000
namespace KA
open PySem PySem.Spec PyProof.Rows L2
/-! ### _law_parts -/
theorem hide_u1 {p q : Addr} {H : Hp} {o : HO} : hide p q (upd H p o) = hide p q H := by
  funext b
  unfold hide
  by_cases e : b = p ∨ b = q
  · rw [if_pos e, if_pos e]
  · rw [if_neg e, if_neg e, upd_ne (fun z => e (.inl z))]
theorem hide_u2 {p q : Addr} {H : Hp} {o : HO} : hide p q (upd H q o) = hide p q H := by
  funext b
  unfold hide
  by_cases e : b = p ∨ b = q
  · rw [if_pos e, if_pos e]
  · rw [if_neg e, if_neg e, upd_ne (fun z => e (.inr z))]
mutual
theorem dat_hideL {H : Hp} {p q : Addr} {xs ys : List V} (hp : H p = some (.lst xs)) (hq : H q = some (.lst ys)) : ∀ {v : V} {d : PyData}, Dat H v d → noL d = true → Dat (hide p q H) v d
  | _, _, .non, _ => .non
  | _, _, .bl b, _ => .bl b
  | _, _, .int i, _ => .int i
  | _, _, .str x h, _ => .str x h
  | _, _, .lst _ _, h => by simp [noL] at h
  | _, _, .d0 _, h => by simp [noL] at h
  | _, _, .tup (a := a) e t, h => .tup (hide_at e (fun z => by rw [z, hp] at e; cases e) (fun z => by rw [z, hq] at e; cases e)) (datAll_hideL hp hq t (by simpa only [noL] using h))
theorem datAll_hideL {H : Hp} {p q : Addr} {xs ys : List V} (hp : H p = some (.lst xs)) (hq : H q = some (.lst ys)) : ∀ {vs : List V} {ds : List PyData}, DatAll H vs ds → noLs ds = true → DatAll (hide p q H) vs ds
  | _, _, .nil, _ => .nil
  | _, _, .cons (d := d) (ds := ds) a t, h => by
    have h' : noL d = true ∧ noLs ds = true := by simpa only [noLs, Bool.and_eq_true] using h
    exact .cons (dat_hideL hp hq a h'.1) (datAll_hideL hp hq t h'.2)
end
/-- what stands between two turns -/
structure Two (H : Hp) (F L : Addr) (fs ls : List PyData) (Hx : Hp) : Prop where
  nF : H F = none
  nL : H L = none
  ne : F ≠ L
  S : Same H Hx
  f : ∃ xs, Hx F = some (.lst xs) ∧ DatAll (hide F L Hx) xs fs
  l : ∃ xs, Hx L = some (.lst xs) ∧ DatAll (hide F L Hx) xs ls
theorem Two.same {H Hx Hy : Hp} {F L : Addr} {fs ls : List PyData} (t : Two H F L fs ls Hx) (S : Same Hx Hy) : Two H F L fs ls Hy where
  nF := t.nF
  nL := t.nL
  ne := t.ne
  S := t.S.trans S
  f := by
    obtain ⟨xs, h, d⟩ := t.f
    exact ⟨xs, S _ _ h, d.same (hide_same S)⟩
  l := by
    obtain ⟨xs, h, d⟩ := t.l
    exact ⟨xs, S _ _ h, d.same (hide_same S)⟩
theorem same_off {H Hx : Hp} {a : Addr} {o : HO} (n : H a = none) (S : Same H Hx) : Same H (upd Hx a o) := fun b u e => by
  rw [upd_ne (ne_of_none e n)]
  exact S b u e
theorem Two.setF {H Hx : Hp} {F L : Addr} {fs ls fs' : List PyData} {ys : List V} (t : Two H F L fs ls Hx) (d : DatAll (hide F L Hx) ys fs') : Two H F L fs' ls (upd Hx F (.lst ys)) where
  nF := t.nF
  nL := t.nL
  ne := t.ne
  S := same_off t.nF t.S
  f := ⟨ys, upd_same, by rw [hide_u1]; exact d⟩
  l := by
    obtain ⟨xs, h, d'⟩ := t.l
    exact ⟨xs, by rw [upd_ne (Ne.symm t.ne)]; exact h, by rw [hide_u1]; exact d'⟩
theorem Two.setL {H Hx : Hp} {F L : Addr} {fs ls ls' : List PyData} {ys : List V} (t : Two H F L fs ls Hx) (d : DatAll (hide F L Hx) ys ls') : Two H F L fs ls' (upd Hx L (.lst ys)) where
  nF := t.nF
  nL := t.nL
  ne := t.ne
  S := same_off t.nL t.S
  l := ⟨ys, upd_same, by rw [hide_u2]; exact d⟩
  f := by
    obtain ⟨xs, h, d'⟩ := t.f
    exact ⟨xs, by rw [upd_ne t.ne]; exact h, by rw [hide_u2]; exact d'⟩
theorem datAll_app {H : Hp} {xs ys : List V} {ds es : List PyData} (a : DatAll H xs ds) (b : DatAll H ys es) : DatAll H (xs ++ ys) (ds ++ es) := datAll_append a b
theorem pD_noL {s : S10} {q : Pth} (h : partAt s q.1 = some q.2) : noL (pD q) = true := by
  obtain ⟨_, b⟩ := path_len h
  unfold pD
  rw [noL, noLs, noLs, noLs, noL, b, dt_noL]
  rfl
def spParts : Sp := fun vs H Q _ => ∃ (v : V) (s : S10), vs = [v] ∧ Dat H v (dt s) ∧ okS s = true ∧ dpS s ≤ 6 ∧
  ∀ (a : Addr) (xs : List V) (ps : List Pth) (H' : Hp), H a = none → Same H H' → H' a = some (.lst xs) → DatAll H' xs (ps.map pD) → ps.length ≤ 364 → (∀ q ∈ ps, partAt s q.1 = some q.2) → (∀ p e, partAt s p = some e → (p, e) ∈ ps) → Q (.ref a) H'
abbrev s_parts : Stmt := top 41
section
variable {P : Program} {w : World} {K : PySem.W.Frag} {mg : Str → Option Value} {base : Heap}
theorem sc_parts : FnScope ["_law_space", "_law_found", "_law_left", "_law_path", "_law_part", "_law_step", "_law_inner"] ["_law_space"] (defScope s_parts) := ⟨rfl, rfl, rfl, by decide +kernel, rfl, by decide +kernel, by decide +kernel⟩
theorem ok_parts {f fN : Addr} {fd fdN : FuncData} (F : Fun K "_law_parts" "_law_parts" s_parts f fd) (T : Nm mg) (D : DefOk K mg "_law_nested" s_nested ["_law_part"] fN fdN) (G : FnOk P w K mg base CX0 1 fN fdN ["_law_part"] spNested) : FnOk P w K mg base CX0 2 f fd ["_law_space"] spParts := by
  refine F.ok sc_parts (fun vs H Q E h => ?_) (fun cdv A outer s H vs Q E hr h => ?_)
  · obtain ⟨v, s, rfl, _⟩ := h
    rfl
  · obtain ⟨v, sp, rfl, hv, hok, hdp, k⟩ := h
    have hu0 := hr.units0
    refine ⟨_, (pss_cons (ps_par (i := 1) (j := 2) rfl sc_parts.nd rfl rfl (by decide) rfl rfl (pa_cons (pe_lst pa_nil) (pa_cons (pe_lst (pa_cons (pe_tup (pa_cons (pe_tup pa_nil) (pa_cons (pv 0) pa_nil))) pa_nil)) pa_nil)) (by rfl))
      (pss_cons (ps_while PassesOwn.never (pt_cmpR (op_nempty hu0) (pv 2) (pe_lst pa_nil) (nomark _))
        (pss_cons (ps_asg (pe_bm PySem.F.plainAttrs_list PySem.F.slot_list_pop PySem.F.type_list_pop mt_popAt (pv 2) (pa_cons pe_int pa_nil)) (pg_tup rfl (pgs_cons (pg_name (i := 3) sc_parts.nd rfl (Or.inr rfl)) (pgs_cons (pg_name (i := 4) sc_parts.nd rfl (Or.inl rfl)) pgs_nil))))
        (pss_cons (ps_expr (pe_bm PySem.F.plainAttrs_list PySem.F.slot_list_append PySem.F.type_list_append mt_append (pv 1) (pa_cons (pe_tup (pa_cons (pv 3) (pa_cons (pv 4) pa_nil))) pa_nil)))
        (pss_one (ps_expr (pe_bm PySem.F.plainAttrs_list PySem.F.slot_list_extend PySem.F.type_list_extend mt_extend (pv 2) (pa_cons (pe_lc (own := [("_law_step", 5), ("_law_inner", 6)]) (g := (gTup K 2 (gCons (gName 5) (gCons (gName 6) gNil)))) (tt := tYes) (te := tTup (tCons (tOp (rCatA K) (tVar 3) (tTup (tCons (tVar 5) tNil))) (tCons (tVar 6) tNil))) rfl sc_parts.nd (pi_list (pe_call G hr rfl D.g D.F.kp D.b .nil pass0 (pa_cons (pv 4) pa_nil))) (blkOk_by (N := ["_law_space", "_law_found", "_law_left", "_law_path", "_law_part", "_law_step", "_law_inner"]) (sc := defScope s_parts) (by decide +kernel))
          (fun _ _ _ _ _ => (pg_tup rfl (pgs_cons (pg_name (i := 5) sc_parts.nd rfl (Or.inl rfl)) (pgs_cons (pg_name (i := 6) sc_parts.nd rfl (Or.inl rfl)) pgs_nil)))) (fun _ _ _ _ _ => pts_nil) (fun _ _ _ _ _ => (pe_tup (pa_cons (pe_op op_catA (pv 3) (pe_tup (pa_cons (pv 5) pa_nil))) (pa_cons (pv 6) pa_nil))))) pa_nil)))))))
      (pss_one (ps_ret (pv 1))))), ?_⟩
    refine ⟨(by show 0 ≤ sizeLine; decide), fun F nF => ⟨(by show 0 ≤ sizeLine; decide), fun t0 n0 => ⟨_, rfl, (by show 2 ≤ sizeLine; decide), fun t1 n1 => ⟨(by show 1 ≤ sizeLine; decide), fun L nL => ⟨_, _, rfl, ?_⟩⟩⟩⟩⟩
    have y1 := same_new (o := HO.lst []) nF
    have y2 := same_new (o := HO.tup []) n0
    have y3 := same_new (o := HO.tup [.ref t0, v]) n1
    have y4 := same_new (o := HO.lst [.ref t1]) nL
    have u1 : upd H F (.lst []) F = some (.lst []) := upd_same
    have u2 : upd (upd H F (.lst [])) t0 (.tup []) t0 = some (.tup []) := upd_same
    have u3 : upd (upd (upd H F (.lst [])) t0 (.tup [])) t1 (.tup [.ref t0, v]) t1 = some (.tup [.ref t0, v]) := upd_same
    have u4 : upd (upd (upd (upd H F (.lst [])) t0 (.tup [])) t1 (.tup [.ref t0, v])) L (.lst [.ref t1]) L = some (.lst [.ref t1]) := upd_same
    have S4 := ((y1.trans y2).trans y3).trans y4
    have nL0 := ((y1.trans y2).trans y3).free nL
    have FL : F ≠ L := ne_of_none (y3 _ _ (y2 _ _ u1)) nL
    have u1 := y4 _ _ (y3 _ _ (y2 _ _ u1))
    have u2 := y4 _ _ (y3 _ _ u2)
    have u3 := y4 _ _ u3
    generalize upd (upd (upd (upd H F (.lst [])) t0 (.tup [])) t1 (.tup [.ref t0, v])) L (.lst [.ref t1]) = H4 at u1 u2 u3 u4 S4 ⊢
    have T0 : Two H F L (([] : List Pth).map pD) ([(([], sp) : Pth)].map pD) H4 := {
      nF := nF
      nL := nL0
      ne := FL
      S := S4
      f := ⟨[], u1, .nil⟩
      l := ⟨[.ref t1], u4, .cons (dat_hideL u1 u4 (.tup u3 (.cons (.tup u2 .nil) (.cons (hv.same S4) .nil))) (pD_noL (s := sp) (q := ([], sp)) rfl)) .nil⟩ }
    have hnP : nP sp ≤ 364 := Nat.le_trans (nP_le sp hok) (Nat.le_trans (bd_mono hdp) (by decide))
    clear u1 u2 u3 u4 y1 y2 y3 y4
    refine ⟨fun m σ Hx => ∃ (fs ls : List Pth) (x3 x4 : Option V), σ = [some v, some (.ref F), some (.ref L), x3, x4, none, none] ∧ Two H F L (fs.map pD) (ls.map pD) Hx ∧ Seen sp fs ls ∧ m = sumL ls, ⟨_, [], [([], sp)], none, none, rfl, T0, seen0 sp, rfl⟩, ?_⟩
    rintro m σ Hx ⟨fs, ls, x3, x4, rfl, t, sn, rfl⟩
    have hcnt := sn.cnt
    obtain ⟨ys, hL, dL⟩ := t.l
    refine ⟨_, rfl, (by show 0 ≤ sizeLine; decide), fun e0 ne0 => ?_⟩
    have Se := same_new (o := HO.lst []) ne0
    have te := t.same Se
    have ue : upd Hx e0 (.lst []) e0 = some (.lst []) := upd_same
    generalize upd Hx e0 (.lst []) = H5 at Se te ue ⊢
    have hL5 := Se _ _ hL
    refine ⟨L, e0, ys, rfl, rfl, .inl ⟨hL5, ue⟩, _, rfl, ?_⟩
    cases ls with
    | nil =>
      cases dL
      refine if_f rfl ?_
      obtain ⟨xs, hF, dF⟩ := te.f
      refine ⟨_, rfl, k F xs fs H5 nF te.S hF (dF.same (hide_sub F L H5)) (by have : sumL ([] : List Pth) = 0 := rfl; omega) (fun q hq => sn.true q (List.mem_append_left _ hq)) fun p e hp => ?_⟩
      rcases sn.all p e hp with h | ⟨q, hq, _⟩
      · exact h
      · cases hq
    | cons q ls =>
      cases dL with
      | @cons y ys _ _ dy dys =>
      refine if_t rfl ⟨fun σ' H' => ∃ m', m' < sumL (q :: ls) ∧ ∃ (fs ls : List Pth) (x3 x4 : Option V), σ' = [some v, some (.ref F), some (.ref L), x3, x4, none, none] ∧ Two H F L (fs.map pD) (ls.map pD) H' ∧ Seen sp fs ls ∧ m' = sumL ls, fun σ' H' h => h, ?_⟩
      have sn2 := seen_step sn
      have hcnt2 := sn2.cnt
      have hlen2 := sumL_len (ls ++ moreP q)
      rw [List.length_append, List.length_singleton] at hcnt2
      rw [List.length_append] at hlen2
      have hq := sn.true q (List.mem_append_right _ List.mem_cons_self)
      obtain ⟨hql, _⟩ := path_len hq
      have hqok := path_ok hok hq
      have dys5 := dys.same (hide_same (p := F) (q := L) Se)
      have dy5 := dy.same (hide_same (p := F) (q := L) Se)
      obtain ⟨ty, tp, zs, v2, rfl, hty, htp, dzs, dv2⟩ : ∃ (ty tp : Addr) (zs : List V) (v2 : V), y = .ref ty ∧ hide F L H5 ty = some (.tup [.ref tp, v2]) ∧ hide F L H5 tp = some (.tup zs) ∧ DatAll (hide F L H5) zs q.1 ∧ Dat (hide F L H5) v2 (dt q.2) := by
        cases dy5 with
        | @tup ty ws _ h0 h1 =>
          obtain ⟨w1, w2, rfl, d1, d2⟩ := dat2 h1
          cases d1 with
          | @tup tp zs _ h2 h3 => exact ⟨ty, tp, zs, w2, rfl, h0, h2, h3, d2⟩
      have hzl := dzs.len
      refine ⟨_, rfl, .inl ⟨rfl, _, SqL.of hL5⟩, L, _, 0, 0, .ref ty, rfl, rfl, hL5, by decide, by decide, by simp [seqIndex?], rfl, ?_⟩
      have t6 := te.setL (ys := ys) dys5
      have hty6 : hide F L (upd H5 L (.lst ys)) ty = some (.tup [.ref tp, v2]) := by rw [hide_u2]; exact hty
      have htp6 : hide F L (upd H5 L (.lst ys)) tp = some (.tup zs) := by rw [hide_u2]; exact htp
      have dzs6 : DatAll (hide F L (upd H5 L (.lst ys))) zs q.1 := by rw [hide_u2]; exact dzs
      have dv6 : Dat (hide F L (upd H5 L (.lst ys))) v2 (dt q.2) := by rw [hide_u2]; exact dv2
      show gTup _ _ _ _ _ (upd H5 L (.lst ys)) _
      generalize upd H5 L (.lst ys) = H6 at t6 hty6 htp6 dzs6 dv6 ⊢
      refine ⟨ty, _, rfl, SqT.of (hide_sub _ _ _ _ _ hty6), rfl, _, _, rfl, _, _, rfl, rfl, ?_⟩
      clear hty6 hty htp dzs dv2 dys5 dy5
      -- found.append
      obtain ⟨xs0, hF0, dF0⟩ := t6.f
      refine ⟨_, rfl, .inl ⟨rfl, _, SqL.of hF0⟩, _, rfl, _, rfl, (by show 2 ≤ sizeLine; decide), fun tn ntn => ?_⟩
      have S7 := same_new (o := HO.tup [.ref tp, v2]) ntn
      have un : upd H6 tn (.tup [.ref tp, v2]) tn = some (.tup [.ref tp, v2]) := upd_same
      have t7 := t6.same S7
      have htp7 := hide_same (p := F) (q := L) S7 _ _ htp6
      have dzs7 := dzs6.same (hide_same (p := F) (q := L) S7)
      have dv7 := dv6.same (hide_same (p := F) (q := L) S7)
      generalize upd H6 tn (.tup [.ref tp, v2]) = H7 at S7 un t7 htp7 dzs7 dv7 ⊢
      obtain ⟨xs, hF, dF⟩ := t7.f
      obtain ⟨ys2, hL7, _⟩ := t7.l
      have hxl := dF.len
      rw [List.length_map] at hxl
      have dnew : Dat (hide F L H7) (.ref tn) (pD q) := dat_hideL hF hL7 (.tup un (.cons (.tup (hide_sub _ _ _ _ _ htp7) (dzs7.same (hide_sub F L H7))) (.cons (dv7.same (hide_sub F L H7)) .nil))) (pD_noL hq)
      refine ⟨F, xs, _, rfl, rfl, hF, (by rw [sizeLine_eq]; omega), ?_⟩
      have t8 : Two H F L ((fs ++ [q]).map pD) (ls.map pD) (upd H7 F (.lst (xs ++ [.ref tn]))) := by
        refine t7.setF ?_
        rw [List.map_append]
        exact datAll_append dF (.cons dnew .nil)
      have htp8 : hide F L (upd H7 F (.lst (xs ++ [.ref tn]))) tp = some (.tup zs) := by rw [hide_u1]; exact htp7
      have dzs8 : DatAll (hide F L (upd H7 F (.lst (xs ++ [.ref tn])))) zs q.1 := by rw [hide_u1]; exact dzs7
      have dv8 : Dat (hide F L (upd H7 F (.lst (xs ++ [.ref tn])))) v2 (dt q.2) := by rw [hide_u1]; exact dv7
      generalize upd H7 F (.lst (xs ++ [.ref tn])) = H8 at t8 htp8 dzs8 dv8 ⊢
      clear t7 htp7 dzs7 dv7 un S7 t6 htp6 dzs6 dv6
      -- left.extend
      have htp8 := hide_sub _ _ _ _ _ htp8
      have dzs8 := dzs8.same (hide_sub F L H8)
      have dv8 := dv8.same (hide_sub F L H8)
      obtain ⟨ys3, hL8, dL8⟩ := t8.l
      have mt : ∀ u ∈ moreP q, partAt sp u.1 = some u.2 := fun u hu => sn2.true u (List.mem_append_right _ (List.mem_append_right _ hu))
      have ml : (nestS q.2).length = (moreP q).length := by
        unfold moreP
        rw [List.length_map]
      refine ⟨_, rfl, .inl ⟨rfl, _, SqL.of hL8⟩, _, rfl, v2, q.2, rfl, dv8, hqok, fun N ws H9 nN S9 hN dN => ⟨N, rfl, ⟨_, SqL.of hN⟩, fun M nM => lc_list (K := K) (a := N) (xs := ws) (fun j Hz => Gr H9 M (((nestS q.2).take j).map fun u => pD (q.1 ++ [u.1], u.2)) Hz) (Gr.start nM) (fun j Hz _ g => SqL.of (g.2.1 _ _ hN)) ?_ ?_⟩⟩
      · rintro j x Hz hj gz
        obtain ⟨d, hd, dx⟩ := dN.get hj
        have hd' : ((nestS q.2).map prD)[j]? = some d := hd
        rw [List.getElem?_map] at hd'
        obtain ⟨u, hu, rfl⟩ := Option.map_eq_some_iff.mp hd'
        have hjl := (List.getElem?_eq_some_iff.mp hu).1
        have S9z := S9.trans gz.2.1
        obtain ⟨bx, w1, w2, rfl, hbx, dw1, dw2⟩ : ∃ (bx : Addr) (w1 w2 : V), x = .ref bx ∧ Hz bx = some (.tup [w1, w2]) ∧ Dat Hz w1 u.1 ∧ Dat Hz w2 (dt u.2) := by
          cases dx.same gz.2.1 with
          | @tup bx ws _ h0 h1 =>
            obtain ⟨w1, w2, rfl, d1, d2⟩ := dat2 h1
            exact ⟨bx, w1, w2, rfl, h0, d1, d2⟩
        have hp2 : partAt sp (q.1 ++ [u.1]) = some u.2 := mt (q.1 ++ [u.1], u.2) (List.mem_map.mpr ⟨u, List.mem_of_getElem? hu, rfl⟩)
        refine ⟨bx, _, rfl, SqT.of hbx, rfl, _, _, rfl, _, _, rfl, rfl, rfl, ?_⟩
        dsimp only [tYes]
        refine if_t rfl ?_
        refine ⟨_, rfl, _, rfl, (by show 1 ≤ sizeLine; decide), fun c1 nc1 => ?_⟩
        have s1 := same_new (o := HO.tup [w1]) nc1
        refine catA_of (s1 _ _ (S9z _ _ htp8)) upd_same (by rw [sizeLine_eq]; show zs.length + 1 ≤ _; omega) fun c2 Hc Sc hc2 => ⟨_, rfl, (by show 2 ≤ sizeLine; decide), fun c3 nc3 => ?_⟩
        have s3 := same_new (o := HO.tup [.ref c2, w2]) nc3
        have u3 : upd Hc c3 (.tup [.ref c2, w2]) c3 = some (.tup [.ref c2, w2]) := upd_same
        have s13 := (s1.trans Sc).trans s3
        have hc2 := s3 _ _ hc2
        generalize upd Hc c3 (.tup [.ref c2, w2]) = He at s3 u3 s13 hc2 ⊢
        have dz : DatAll He [.ref c3] [pD (q.1 ++ [u.1], u.2)] := .cons (.tup u3 (.cons (.tup hc2 (datAll_append ((dzs8.same S9z).same s13) (.cons (dw1.same s13) .nil))) (.cons (dw2.same s13) .nil))) .nil
        obtain ⟨xs', hM, hxl', _, g'⟩ := gz.add s13 dz (by rw [noLs, pD_noL (q := (q.1 ++ [u.1], u.2)) hp2]; rfl)
        rw [List.length_map, List.length_take] at hxl'
        refine ⟨xs', hM, (by rw [sizeLine_eq]; omega), ?_⟩
        rw [List.take_add_one, hu, List.map_append]
        exact g'
      · rintro Hz gz
        have wl : ws.length = (nestS q.2).length := by
          rw [dN.len]
          exact List.length_map ..
        rw [wl, List.take_length] at gz
        obtain ⟨ms, hM, hml, dM⟩ := gz.fin
        rw [List.length_map] at hml
        have dM' : DatAll Hz ms ((moreP q).map pD) := by
          unfold moreP
          rw [List.map_map]
          exact dM
        have t9 := t8.same (S9.trans gz.2.1)
        obtain ⟨ys4, hL9, dL9⟩ := t9.l
        obtain ⟨xs9, hF9, _⟩ := t9.f
        have hyl := dL9.len
        rw [List.length_map] at hyl
        refine ⟨L, M, ys4, ms, rfl, rfl, hL9, hM, (by rw [sizeLine_eq]; omega), ?_⟩
        refine ⟨sumL (ls ++ moreP q), by omega, fs ++ [q], ls ++ moreP q, _, _, rfl, ?_, sn2, rfl⟩
        refine t9.setL ?_
        rw [List.map_append]
        exact datAll_append dL9 (datAll_hideL hF9 hL9 dM' (noLs_iff.mpr fun d hd => by
          obtain ⟨u, hu, rfl⟩ := List.mem_map.mp hd
          exact pD_noL (mt u hu)))
end
end KA
set_option maxRecDepth 100000
set_option maxHeartbeats 4000000
namespace L2
open PySem PySem.Spec PyProof.Rows
/-! ### t[::-1] of a tuple -/
theorem fm_congr {α β : Type} {f g : α → Option β} : ∀ {l : List α}, (∀ x ∈ l, f x = g x) → l.filterMap f = l.filterMap g
  | [], _ => rfl
  | a :: l, h => by
    rw [List.filterMap_cons, List.filterMap_cons, h a (by simp), fm_congr (l := l) fun x hx => h x (by simp [hx])]
section
variable {prog : Program} {w : World} {A : Around} {E : Value → Shared → Prop} {s : Shared}
theorem adjust_rev (n : Nat) : Builtin.Slice.sliceAdjust none none (-1) (n : Int) = ((n : Int) - 1, -1) := by
  unfold Builtin.Slice.sliceAdjust
  have h1 : (-1 : Int) < 0 := by decide
  simp only [h1, if_true]
theorem places_rev (n : Nat) : Builtin.Slice.slicePlaces ((n : Int) - 1) (-1) (-1) = n := by
  unfold Builtin.Slice.slicePlaces
  have h1 : ¬ ((-1 : Int) > 0) := by decide
  have h2 : (-(-1) : Int) = 1 := by decide
  simp only [h1, if_false, h2, Int.ediv_one]
  split <;> omega
theorem applied_rev {sl : Addr} {vl vu vs : Value} {n : Nat} {Q : Int × Int × Nat → Shared → Prop} (hs : s.heap.IsSliceOf sl vl vu vs) (pl : IsPart vl none) (pu : IsPart vu none) (ps : IsPart vs (some (-1))) (h : Q ((n : Int) - 1, -1, n) s) :
    wpAny (model prog w) A (Builtin.Slice.sliceApplied (.ref sl) (pure (n : Int))) Q E s := by
  obtain ⟨os, gos, gcs, gds⟩ := hs
  unfold Builtin.Slice.sliceApplied Builtin.Slice.sliceFields
  (refine wpAny_bind (wpAny_bind (wpAny_field gos gds (x := vl) rfl (wpAny_bind (wpAny_field gos gds (x := vu) rfl (wpAny_bind (wpAny_field gos gds (x := vs) rfl (wpAny_pure ?_))))))))
  refine wpAny_bind (HT.slicePart_ ps ?_)
  show wpAny _ _ (if ((-1 : Int) == 0) = true then _ else _) _ _ s
  (rw [if_neg (by decide)]; refine wpAny_bind (HT.slicePart_ pl (wpAny_bind (HT.slicePart_ pu (wpAny_bind (wpAny_pure ?_))))))
  show wpAny _ _ (match Builtin.Slice.sliceAdjust none none (-1) (n : Int) with | (lo, hi) => pure (lo, (-1 : Int), Builtin.Slice.slicePlaces lo hi (-1))) _ _ s
  rw [adjust_rev n]
  show wpAny _ _ (pure ((n : Int) - 1, (-1 : Int), Builtin.Slice.slicePlaces ((n : Int) - 1) (-1) (-1))) _ _ s
  rw [places_rev]
  exact wpAny_pure h
theorem pick_rev (xs : Array Value) : ((List.range xs.size).filterMap fun (k : Nat) => xs[(((xs.size : Nat) : Int) - 1 + (k : Int) * (-1)).toNat]?).toArray = xs.toList.reverse.toArray := by
  have z := HT.pick_gen xs.toList.reverse.toArray 0 xs.size
  have e : (List.range xs.size).filterMap (fun (k : Nat) => xs[(((xs.size : Nat) : Int) - 1 + (k : Int) * (-1)).toNat]?) = (List.range xs.size).filterMap (fun (m : Nat) => xs.toList.reverse.toArray[(((0 : Nat) : Int) + (m : Int) * 1).toNat]?) := by
    refine fm_congr fun k hk => ?_
    have hk' : k < xs.size := List.mem_range.mp hk
    have e1 : (((xs.size : Nat) : Int) - 1 + (k : Int) * (-1)).toNat = xs.size - 1 - k := by omega
    have e2 : (((0 : Nat) : Int) + (k : Int) * 1).toNat = k := by omega
    have e3 : xs.toList.reverse.toArray[k]? = xs.toList.reverse[k]? := List.getElem?_toArray
    have e4 : xs.toList.length = xs.size := Array.length_toList
    rw [e1, e2, e3, List.getElem?_reverse (by rw [e4]; exact hk'), e4, Array.getElem?_toList]
  rw [e, z, List.drop_zero, List.take_of_length_le (by simp)]
theorem getItem_tuple_rev {t sl : Addr} {its : Array Value} {vl vu vs : Value} {Q : Value → Shared → Prop} (ht : IsTup s.heap t its) (hs : s.heap.IsSliceOf sl vl vu vs) (pl : IsPart vl none) (pu : IsPart vu none) (ps : IsPart vs (some (-1)))
    (h : Q (.ref s.heap.objs.size) { s with heap := s.heap.push { cls := .type "tuple", data := .seq its.toList.reverse.toArray } }) (hsz : its.size ≤ sizeLine) : wpAny (model prog w) A (getItem (.ref t) (.ref sl)) Q E s := by
  have htake : sizeOk (.seq its.toList.reverse.toArray) := by
    show its.toList.reverse.toArray.size ≤ sizeLine
    simpa using hsz
  obtain ⟨os, gos, gcs, gds⟩ := id hs
  have gTs : s.TypeIs (.ref sl) "slice" := ⟨os, gos, gcs⟩
  unfold getItem
  (try with_reducible refine wpAny_holding ?_)
  (first | refine wpAny_bind (wpAny_pure ?_) | skip)
  (refine wpAny_bind (wpAny_sequenceKey ht.typeIs (by decide) ?_))
  (refine wpAny_bind (wpAny_callSpecial?_slot (name := Str.ofString "__getitem__") ht.typeIs PyProof.Rows.slot_tuple_getitem (wpAny_call_entry PyProof.Rows.slot_tuple_getitem ht.typeIs entry_tuple_getitem ?_ (args_tuple_getitem _ _))))
  (show wpAny _ _ (Builtin.Tuple.tupleItemsOf (.ref t) >>= _) _ _ s)
  (refine wpAny_bind (tupleItemsOf_ ht (wpAny_bind (wpAny_typeOf gTs ?_))))
  rw [if_pos (by decide)]
  (refine wpAny_bind (applied_rev hs pl pu ps ?_))
  have hno : ¬ ((((its.size : Nat) : Int) - 1 == 0 && (-1 : Int) == 1 && its.size == its.size) = true) := by
    intro q
    rw [Bool.and_eq_true, Bool.and_eq_true] at q
    exact absurd q.1.2 (by decide)
  (show wpAny _ _ (if (((its.size : Nat) : Int) - 1 == 0 && (-1 : Int) == 1 && its.size == its.size) = true then _ else _) _ _ s)
  rw [if_neg hno, pick_rev]
  (first
    | exact wpAny_bind (m := Builtin.Tuple.tupleExact _) (wpAny_newObj_type (wpAny_pure ⟨_, rfl, wpAny_pure h⟩) htake) | exact wpAny_bind (m := Builtin.Tuple.tupleExact _) (wpAny_newObj_type (wpAny_bind (wpAny_pure (wpAny_pure ⟨_, rfl, wpAny_pure h⟩))) htake)
    | exact wpAny_bind (wpAny_bind (m := Builtin.Tuple.tupleExact _) (wpAny_newObj_type (wpAny_pure (wpAny_pure ⟨_, rfl, wpAny_pure h⟩)) htake)) | exact wpAny_bind (wpAny_bind (m := Builtin.Tuple.tupleExact _) (wpAny_newObj_type (wpAny_pure ⟨_, rfl, wpAny_pure h⟩) htake)))
end
def tRevT (K : PySem.W.Frag) (te : TE) : TE := fun σ H Q => te σ H fun x H1 => ∃ a xs, x = .ref a ∧ SqT K H1 a xs ∧ ∀ p, H1 p = none → Q (.ref p) (upd H1 p (.tup xs.reverse))
theorem pe_revT {X : Cx} {e : Expr} {te : TE} {k : Nat} {p1 p2 p3 pos : Pos} (he : PE X e te) : PE X (.Subscript e (.Slice none none (some (.UnaryOp .USub (.Constant (.int 1) k p1) p2)) p3) pos) (tRevT X.K te) := by
  refine ⟨fun pins s σ H Q I h => Subscript_ (thn (he.run pins s σ H _ I h) fun v s1 hv => ?_)⟩
  obtain ⟨x, H1, I1, r1, a, xs, ex, hx, q⟩ := hv
  subst ex
  cases r1
  have hst : PO X (some (.UnaryOp .USub (.Constant (.int 1) k p1) p2)) (tPart (tUn (rU fun i => .int (-i)) (tC (.int 1)))) := (po_some (pe_un un_neg pe_int))
  (refine wpAny_Slice (thn (po_none.run pins s1 σ H1 (fun o H2 => o = none ∧ H2 = H1) I1 ⟨rfl, rfl⟩) fun vl s2 hl => ?_))
  obtain ⟨l, H2, I2, pl, el, e2⟩ := hl
  subst el e2
  (refine thn (po_none.run pins s2 σ H2 (fun o H3 => o = none ∧ H3 = H2) I2 ⟨rfl, rfl⟩) fun vu s3 hu => ?_)
  obtain ⟨u, H3, I3, pu, eu, e3⟩ := hu
  subst eu e3
  (refine thn (hst.run pins s3 σ H3 (fun o H4 => o = some (-1) ∧ H4 = H3) I3 ⟨1, rfl, -1, rfl, rfl, rfl⟩) fun vs s4 hs4 => ?_)
  obtain ⟨o, H4, I4, ps, eo, e4⟩ := hs4
  subst eo e4
  have J : Inv X pins σ H4 { s4 with heap := s4.heap.push { cls := .type "slice", data := .fields #[vl, vu, vs] } } := (I4.kept (t' := s4.toks) fun b ob q => Heap.get?_push_of_some _ q)
  obtain ⟨its, r, ht, hz⟩ := J.tuple hx
  (show wpAny (model X.prog X.w) X.A (subscriptTail e (.Slice none none (some (.UnaryOp .USub (.Constant (.int 1) k p1) p2)) p3) (.ref a) (.ref s4.heap.objs.size)) (EP X pins σ Q) X.xe { s4 with heap := s4.heap.push { cls := .type "slice", data := .fields #[vl, vu, vs] } })
  refine tail_any (ops := [.ref a, .ref s4.heap.objs.size]) ht.typeIs (PyProof.Rows.slot_tuple_getitem.lookup) ?_ (by with_unfolding_all rfl)
  refine getItem_tuple_rev ht (Heap.IsSliceOf.new _ vl vu vs) pl pu ps ?_ (by rw [List.size_toArray, ← r.length]; exact hz)
  refine ⟨.ref _, _, J.laid (t' := s4.toks) (o := .tup xs.reverse) (fun b ob q => Heap.get?_push_of_some _ q) (Nat.le_refl _) ?_, rfl, q _ (J.hok.fresh (Nat.le_refl _))⟩
  exact ⟨by rw [List.length_reverse]; exact hz, _, r.reverse, IsTup.new _ _⟩
end L2
set_option maxRecDepth 100000
set_option maxHeartbeats 8000000
namespace KA
open PySem PySem.Spec PyProof.Rows L2
/-! ### written data that lies apart from the deck -/
def tDatF (p q : Addr) (d : PyData) : TE := fun _ H Q => (H p ≠ none ∧ H q ≠ none) ∧ ∀ (v : V) (H' : Hp), Same H H' → Dat (hide p q H') v d → Q v H'
def tDatsF (p q : Addr) (ds : List PyData) : TA := fun _ H Q => (H p ≠ none ∧ H q ≠ none) ∧ ∀ (vs : List V) (H' : Hp), Same H H' → DatAll (hide p q H') vs ds → Q vs H'
theorem live_same {H H' : Hp} {p : Addr} (h : H p ≠ none) (S : Same H H') : H' p ≠ none := fun z => by
  cases e : H p with
  | none => exact h e
  | some o =>
    rw [S _ _ e] at z
    cases z
theorem hide_fresh {H : Hp} {p q a : Addr} {o : HO} (h : H p ≠ none ∧ H q ≠ none) (n : H a = none) : hide p q (upd H a o) a = some o := hide_at upd_same (fun z => h.1 (by rw [← z]; exact n)) (fun z => h.2 (by rw [← z]; exact n))
section
variable {X : Cx} {e : Expr} {es : List Expr} {p q : Addr} {d : PyData} {ds : List PyData}
theorem pf_nil : PA X [] (tDatsF p q []) := pa_weak pa_nil fun σ H Q h => h.2 [] H (Same.refl H) .nil
theorem pf_cons (a : PE X e (tDatF p q d)) (b : PA X es (tDatsF p q ds)) (hs : starEach (e :: es) X.env = (false, eval e X.env) :: starEach es X.env := by rfl) : PA X (e :: es) (tDatsF p q (d :: ds)) :=
  pa_weak (pa_cons a b hs) fun σ H Q h => ⟨h.1, fun v H1 S1 dv => ⟨⟨live_same h.1.1 S1, live_same h.1.2 S1⟩, fun vs H2 S2 dvs => h.2 (v :: vs) H2 (S1.trans S2) (.cons (dv.same (hide_same S2)) dvs)⟩⟩
theorem pf_tup {ctx : Nat} {pos : Pos} (hl : ds.length ≤ 1000) (a : PA X es (tDatsF p q ds)) : PE X (.Tuple es ctx pos) (tDatF p q (.tuple ds)) :=
  pe_weak (pe_tup a) fun σ H Q h => ⟨h.1, fun vs H1 S1 dvs => ⟨by rw [dvs.len, sizeLine_eq]; omega, fun r nr => h.2 (.ref r) _ (S1.trans (same_new nr)) (.tup (hide_fresh ⟨live_same h.1.1 S1, live_same h.1.2 S1⟩ nr) (dvs.same (hide_same (same_new nr))))⟩⟩
theorem pf_lst {pos : Pos} (hl : ds.length ≤ 1000) (a : PA X es (tDatsF p q ds)) : PE X (.List es pos) (tDatF p q (.list ds)) :=
  pe_weak (pe_lst a) fun σ H Q h => ⟨h.1, fun vs H1 S1 dvs => ⟨by rw [dvs.len, sizeLine_eq]; omega, fun r nr => h.2 (.ref r) _ (S1.trans (same_new nr)) (.lst (hide_fresh ⟨live_same h.1.1 S1, live_same h.1.2 S1⟩ nr) (dvs.same (hide_same (same_new nr))))⟩⟩
theorem pf_of {v : V} (a : PE X e (tC v)) (h : ∀ H : Hp, Dat H v d) : PE X e (tDatF p q d) := pe_weak a fun σ H Q k => k.2 v H (Same.refl H) (h _)
theorem pf_none (a : PE X e (tC .non)) : PE X e (tDatF p q .none) := pf_of a fun _ => .non
theorem pf_bool {b : Bool} (a : PE X e (tC (.bl b))) : PE X e (tDatF p q (.bool b)) := pf_of a fun _ => .bl b
theorem pf_int {i : Int} (a : PE X e (tC (.int i))) : PE X e (tDatF p q (.int i)) := pf_of a fun _ => .int i
theorem pf_str {x : Str} (hx : x.length ≤ 1000) (a : PE X e (tC (.str x))) : PE X e (tDatF p q (.str x)) := pf_of a fun _ => .str x hx
theorem pf_neg {i : Int} {pos : Pos} (a : PE X e (tC (.int i))) : PE X (.UnaryOp .USub e pos) (tDatF p q (.int (-i))) := pe_weak (pe_un un_neg a) fun σ H Q k => ⟨i, rfl, k.2 _ H (Same.refl H) (.int _)⟩
theorem pf_pow {e2 : Expr} {i : Int} {pos : Pos} {j : Nat} (hi : i.natAbs < 2 ^ 64) (hj : j ≤ 1000000) (a : PE X (.BinOp e .Pow e2 pos) (tOp (rI CPow fun i j => .int (i ^ j.toNat)) (tC (.int i)) (tC (.int (j : Nat))))) : PE X (.BinOp e .Pow e2 pos) (tDatF p q (.int (i ^ j))) :=
  pe_weak a fun σ H Q k => ⟨i, ((j : Nat) : Int), rfl, rfl, ⟨by omega, by omega, hi⟩, k.2 _ H (Same.refl H) (by show Dat _ (V.int (i ^ ((j : Nat) : Int).toNat)) _; rw [Int.toNat_natCast]; exact .int _)⟩
end
theorem datAll_take {H : Hp} : ∀ {vs : List V} {ds : List PyData} (n : Nat), DatAll H vs ds → DatAll H (vs.take n) (ds.take n)
  | _, _, 0, _ => .nil
  | _, _, n + 1, .nil => .nil
  | _, _, n + 1, .cons a t => .cons a (datAll_take n t)
theorem datAll_drop {H : Hp} : ∀ {vs : List V} {ds : List PyData} (n : Nat), DatAll H vs ds → DatAll H (vs.drop n) (ds.drop n)
  | _, _, 0, h => h
  | _, _, n + 1, .nil => .nil
  | _, _, n + 1, .cons a t => datAll_drop n t
theorem datAll_rev {H : Hp} : ∀ {vs : List V} {ds : List PyData}, DatAll H vs ds → DatAll H vs.reverse ds.reverse
  | _, _, .nil => .nil
  | _, _, .cons a t => by
    rw [List.reverse_cons, List.reverse_cons]
    exact datAll_append (datAll_rev t) (.cons a .nil)
theorem cut_take {xs : List V} {n : Nat} : cutV xs none (some (n : Int)) = xs.take n := by
  unfold cutV
  have e1 : HT.sIx xs.length xs.length (some (n : Int)) = min n xs.length := HT.sIx_nat xs.length _ n
  have e2 : HT.sIx xs.length 0 none = 0 := HT.sIx_none _ _
  rw [e1, e2, List.drop_zero, Nat.sub_zero, List.take_eq_take_iff]
  omega
theorem cut_drop {xs : List V} {n : Nat} : cutV xs (some (n : Int)) none = xs.drop n := by
  unfold cutV
  have e1 : HT.sIx xs.length 0 (some (n : Int)) = min n xs.length := HT.sIx_nat xs.length _ n
  have e2 : HT.sIx xs.length xs.length none = xs.length := HT.sIx_none _ _
  rw [e1, e2]
  by_cases h : n ≤ xs.length
  · rw [Nat.min_eq_left h, List.take_of_length_le (by rw [List.length_drop]; omega)]
  · rw [Nat.min_eq_right (by omega), List.drop_eq_nil_of_le (Nat.le_refl _), List.drop_eq_nil_of_le (show xs.length ≤ n by omega), List.take_nil]
theorem hidT {H : Hp} {p q a : Addr} {b : Nat} {xs : List V} (D : Dk H p q b) (h : H a = some (.tup xs)) : hide p q H a = some (.tup xs) := hide_at h (dk_ne D h).1 (dk_ne D h).2
/-! ### _law_wrong_paths -/
def stepsA : List PyData := [.int 0, .int 1, .int 2, .int 3, .int (-1), .bool true, .bool false, .none, .str "a", .tuple [], .list [.int 0], .tuple [.int 0], .tuple [.str "a", .int 0], .tuple [.str "a", .int 1], .tuple [.str "b", .int 0], .tuple [.str "b", .int 1], .tuple [.str "b", .int 2]]
def stepsB : List PyData := [.tuple [.str "ab", .int 0], .tuple [.str "ab", .bool true], .tuple [.str "b", .bool false], .tuple [.str "a", .int 0, .int 0], .list [.str "a", .int 0], .tuple [.str "b", .str "0"], .int (10 ^ 20)]
def pool : List PyData := (stepsA ++ stepsB) ++ [.tuple [.str "ab", .int 1]]
/-- a path that may be wrong -/
def Wr (e : PyData) : Prop := ∃ es : List PyData, es.length ≤ 10 ∧ (∀ x ∈ es, x ∈ pool) ∧ (e = .tuple es ∨ e = .list es ∨ e = .none)
def spWrong : Sp := fun vs H Q _ => ∃ (p q : Addr) (b : Nat) (v : V) (ds : List PyData), vs = [.ref p, v] ∧ Dk H p q b ∧ b + 10 ≤ 100000000 ∧ Dat (hide p q H) v (.tuple ds) ∧ ds.length ≤ 6 ∧ (∀ x ∈ ds, x ∈ pool) ∧
  ∀ (a : Addr) (xs : List V) (es : List PyData) (H' : Hp), H a = none → Off p q H H' → Dk H' p q (b + 2) → H' a = some (.lst xs) → DatAll (hide p q H') xs es → es.length = 8 → (∀ e ∈ es, Wr e) → Q (.ref a) H'
abbrev s_wrong : Stmt := top 42
section
variable {P : Program} {w : World} {K : PySem.W.Frag} {mg : Str → Option Value} {base : Heap}
theorem sc_wrong : FnScope ["_law_deck_here", "_law_path", "_law_steps", "_law_at", "_law_step", "_law_found"] ["_law_deck_here", "_law_path"] (defScope s_wrong) := ⟨rfl, rfl, rfl, by decide +kernel, rfl, by decide +kernel, by decide +kernel⟩
theorem ok_wrong {f fP fD : Addr} {fd fdP fdD : FuncData} (F : Fun K "_law_wrong_paths" "_law_wrong_paths" s_wrong f fd) (T : Nm mg) (D_pick : DefOk K mg "_law_pick" sPick ["_law_deck_here", "_law_items"] fP fdP) (G_pick : FnOk P w K mg base CX0 2 fP fdP ["_law_deck_here", "_law_items"] spPick) (D_draw : DefOk K mg "_law_draw" sDraw ["_law_deck_here", "_law_bound"] fD fdD) :
    FnOk P w K mg base CX0 3 f fd ["_law_deck_here", "_law_path"] spWrong := by
  have G_draw : FnOk P w K mg base CX0 1 fD fdD ["_law_deck_here", "_law_bound"] spDraw := ok_draw D_draw.F
  refine F.ok sc_wrong (fun vs H Q E h => ?_) (fun cdv A outer s H vs Q E hr h => ?_)
  · obtain ⟨p, q, b, v, ds, rfl, _⟩ := h
    rfl
  · obtain ⟨p, q, b, v, ds, rfl, D, hb, dv, hdl, hpool, k⟩ := h
    have hr1 : Room 1 _ := hr.mono (by omega)
    refine ⟨_, (pss_cons (ps_set (i := 2) sc_wrong.nd rfl (Or.inl rfl) ((pf_lst (by decide) (pf_cons (pf_int pe_int) (pf_cons (pf_int pe_int) (pf_cons (pf_int pe_int) (pf_cons (pf_int pe_int) (pf_cons (pf_neg pe_int) (pf_cons (pf_bool pe_bl) (pf_cons (pf_bool pe_bl) (pf_cons (pf_none pe_non) (pf_cons (pf_str (by decide) pe_str) (pf_cons (pf_tup (by decide) (pf_nil)) (pf_cons (pf_lst (by decide) (pf_cons (pf_int pe_int) (pf_nil))) (pf_cons (pf_tup (by decide) (pf_cons (pf_int pe_int) (pf_nil))) (pf_cons (pf_tup (by decide) (pf_cons (pf_str (by decide) pe_str) (pf_cons (pf_int pe_int) (pf_nil)))) (pf_cons (pf_tup (by decide) (pf_cons (pf_str (by decide) pe_str) (pf_cons (pf_int pe_int) (pf_nil)))) (pf_cons (pf_tup (by decide) (pf_cons (pf_str (by decide) pe_str) (pf_cons (pf_int pe_int) (pf_nil)))) (pf_cons (pf_tup (by decide) (pf_cons (pf_str (by decide) pe_str) (pf_cons (pf_int pe_int) (pf_nil)))) (pf_cons (pf_tup (by decide) (pf_cons (pf_str (by decide) pe_str) (pf_cons (pf_int pe_int) (pf_nil)))) (pf_nil))))))))))))))))))) : PE _ _ (tDatF p q (.list stepsA))))
      (pss_cons (ps_set (i := 2) sc_wrong.nd rfl (Or.inl rfl) (pe_op op_cat (pv 2) ((pf_lst (by decide) (pf_cons (pf_tup (by decide) (pf_cons (pf_str (by decide) pe_str) (pf_cons (pf_int pe_int) (pf_nil)))) (pf_cons (pf_tup (by decide) (pf_cons (pf_str (by decide) pe_str) (pf_cons (pf_bool pe_bl) (pf_nil)))) (pf_cons (pf_tup (by decide) (pf_cons (pf_str (by decide) pe_str) (pf_cons (pf_bool pe_bl) (pf_nil)))) (pf_cons (pf_tup (by decide) (pf_cons (pf_str (by decide) pe_str) (pf_cons (pf_int pe_int) (pf_cons (pf_int pe_int) (pf_nil))))) (pf_cons (pf_lst (by decide) (pf_cons (pf_str (by decide) pe_str) (pf_cons (pf_int pe_int) (pf_nil)))) (pf_cons (pf_tup (by decide) (pf_cons (pf_str (by decide) pe_str) (pf_cons (pf_str (by decide) pe_str) (pf_nil)))) (pf_cons (pf_pow (i := 10) (j := 20) (by decide) (by decide) (pe_op op_pow pe_int pe_int)) (pf_nil))))))))) : PE _ _ (tDatF p q (.list stepsB)))))
      (pss_cons (ps_par (i := 3) (j := 4) rfl sc_wrong.nd rfl rfl (by decide) rfl rfl (pa_cons (pe_call G_draw hr1 rfl D_draw.g D_draw.F.kp D_draw.b .nil pass0 (pa_cons (pv 0) (pa_cons (pe_op op_add (pe_callB call_len_seq (by rfl) T.len PySem.boot_len (pa_cons (pv 1) pa_nil)) pe_int) pa_nil))) (pa_cons (pe_call G_pick hr rfl D_pick.g D_pick.F.kp D_pick.b .nil pass0 (pa_cons (pv 0) (pa_cons (pv 2) pa_nil))) pa_nil)) (by rfl))
      (pss_cons (ps_set (i := 5) sc_wrong.nd rfl (Or.inl rfl) (pe_lst (pa_cons (pe_op op_catA (pe_op op_catA (pe_slice sl_tupA (pv 1) po_none (po_some (pv 3))) (pe_tup (pa_cons (pv 4) pa_nil))) (pe_slice sl_tupA (pv 1) (po_some (pe_op op_add (pv 3) pe_int)) po_none)) (pa_cons (pe_op op_catA (pe_op op_catA (pe_slice sl_tupA (pv 1) po_none (po_some (pv 3))) (pe_tup (pa_cons (pv 4) pa_nil))) (pe_slice sl_tupA (pv 1) (po_some (pv 3)) po_none)) (pa_cons (pe_op op_catA (pv 1) (pe_tup (pa_cons (pv 4) pa_nil))) (pa_cons (pe_slice sl_tupA (pv 1) po_none (po_some (pv 3))) pa_nil))))))
      (pss_one (ps_ret (pe_op op_cat (pv 5) (pe_lst (pa_cons (pe_op op_catA (pe_slice sl_tupA (pv 1) po_none (po_some (pv 3))) (pe_slice sl_tupA (pv 1) (po_some (pe_op op_add (pv 3) pe_int)) po_none)) (pa_cons (L2.pe_revT (pv 1)) (pa_cons (pe_callTy call_list_of (by rfl) T.list (by decide +kernel) (pa_cons (pv 1) pa_nil)) (pa_cons pe_non pa_nil)))))))))))), ?_⟩
    have live : H p ≠ none ∧ H q ≠ none := by
      obtain ⟨ns, m, c, D0, _⟩ := D
      exact ⟨(fun z => by rw [D0.ob] at z; cases z), (fun z => by rw [D0.ce] at z; cases z)⟩
    obtain ⟨a0, zs, rfl, hp0, dzs0⟩ : ∃ a0 zs, v = .ref a0 ∧ hide p q H a0 = some (.tup zs) ∧ DatAll (hide p q H) zs ds := by
      cases dv with
      | tup h0 h1 => exact ⟨_, _, rfl, h0, h1⟩
    have hzl := dzs0.len
    refine ⟨live, fun u1 H1 S1 d1 => ?_⟩
    obtain ⟨l1, xs1, rfl, hl1, dx1⟩ : ∃ l1 xs1, u1 = .ref l1 ∧ hide p q H1 l1 = some (.lst xs1) ∧ DatAll (hide p q H1) xs1 stepsA := by
      cases d1 with
      | lst h0 h1 => exact ⟨_, _, rfl, h0, h1⟩
    refine ⟨_, rfl, ⟨live_same live.1 S1, live_same live.2 S1⟩, fun u2 H2 S2 d2 => ?_⟩
    obtain ⟨l2, xs2, rfl, hl2, dx2⟩ : ∃ l2 xs2, u2 = .ref l2 ∧ hide p q H2 l2 = some (.lst xs2) ∧ DatAll (hide p q H2) xs2 stepsB := by
      cases d2 with
      | lst h0 h1 => exact ⟨_, _, rfl, h0, h1⟩
    have x1l : xs1.length = 17 := dx1.len
    have x2l : xs2.length = 7 := dx2.len
    refine ⟨l1, l2, xs1, xs2, rfl, rfl, S2 _ _ (hide_sub _ _ _ _ _ hl1), hide_sub _ _ _ _ _ hl2, (by rw [sizeLine_eq]; omega), fun l3 n3 => ?_⟩
    have D2 := (D.same S1).same S2
    have np := D2.new n3
    have S3 := same_new (o := HO.lst (xs1 ++ xs2)) n3
    have hl3 : upd H2 l3 (.lst (xs1 ++ xs2)) l3 = some (.lst (xs1 ++ xs2)) := upd_same
    have D3 := D2.same S3
    have dx3 := (datAll_append (dx1.same (hide_same S2)) dx2).same (hide_same (p := p) (q := q) S3)
    have S03 := (S1.trans S2).trans S3
    generalize upd H2 l3 (.lst (xs1 ++ xs2)) = H3 at S3 hl3 D3 dx3 S03 ⊢
    have hp3 := hide_same (p := p) (q := q) S03 _ _ hp0
    have dzs3 := dzs0.same (hide_same (p := p) (q := q) S03)
    obtain ⟨ns3, m3, c3, D3', hc3⟩ := id D3
    refine ⟨_, rfl, _, rfl, a0, zs, rfl, .inr (SqT.of (hide_sub _ _ _ _ _ hp3)), _, _, rfl, rfl, p, q, ns3, m3, c3, _, rfl, by omega, by omega, D3', by omega, fun so ns4 H4 so0 so1 O4 D4' => ?_⟩
    obtain ⟨n, rfl⟩ := nat_of so0
    have D4 : Dk H4 p q (b + 1) := ⟨_, m3, _, D4', by omega⟩
    have hl4 := O4 _ _ hl3 np.1 np.2
    refine ⟨_, rfl, _, rfl, ?_⟩
    refine pick_of (E := E0) D4 hl4 np.1 np.2 (by rw [List.length_append]; omega) (by rw [List.length_append]; omega) (by omega) fun j x H5 hx O5 D5 => ?_
    refine ⟨_, _, rfl, ?_⟩
    obtain ⟨sd, hsd, dx⟩ := dx3.get hx
    have hsp : sd ∈ pool := List.mem_append_left _ (List.mem_of_getElem? hsd)
    have dx := (dx.same (hide_off O4)).same (hide_off O5)
    have hp5 := hide_off O5 _ _ (hide_off O4 _ _ hp3)
    have dzs5 := (dzs3.same (hide_off O4)).same (hide_off O5)
    have O05 := (Off.of_same S03).trans (O4.trans O5)
    clear dx1 dx2 dx3 hl1 hl2 hl3 hl4 d1 d2 dzs3 hp3 D3 D3' D4 D4' O4 O5 dzs0 hp0 dv
    have P5 := hide_sub p q H5 _ _ hp5
    have hnz : n ≤ zs.length := by omega
    have en : ((n : Nat) : Int) + 1 = ((n + 1 : Nat) : Int) := by omega
    -- the first
    refine ⟨_, rfl, _, rfl, _, rfl, slAny_of P5 fun b1 Ha Sa ha => ?_⟩
    rw [cut_take] at ha
    refine ⟨_, rfl, (by show 1 ≤ sizeLine; decide), fun b2 n2 => ?_⟩
    have y2 := same_new (o := HO.tup [x]) n2
    refine catA_of (y2 _ _ ha) upd_same (by rw [sizeLine_eq, List.length_take]; show min n zs.length + 1 ≤ _; omega) fun b3 Hc Sc hc => ?_
    have S5c := (Sa.trans y2).trans Sc
    refine ⟨_, rfl, _, rfl, _, _, rfl, rfl, _, rfl, ?_⟩
    dsimp only [tNoPart]
    refine slAny_of (S5c _ _ P5) fun b4 Hd Sd hd => ?_
    have hd : Hd b4 = some (.tup (zs.drop (n + 1))) := by
      rw [← cut_drop, ← en]
      exact hd
    refine catA_of (Sd _ _ hc) hd (by rw [sizeLine_eq, List.length_append, List.length_take, List.length_drop]; show min n zs.length + 1 + (zs.length - (n + 1)) ≤ _; omega) fun e1 He Se he1 => ?_
    have S5e := (S5c.trans Sd).trans Se
    -- the second
    refine ⟨_, rfl, _, rfl, _, rfl, slAny_of (S5e _ _ P5) fun b5 Hf Sf hf => ?_⟩
    rw [cut_take] at hf
    refine ⟨_, rfl, (by show 1 ≤ sizeLine; decide), fun b6 n6 => ?_⟩
    have y6 := same_new (o := HO.tup [x]) n6
    refine catA_of (y6 _ _ hf) upd_same (by rw [sizeLine_eq, List.length_take]; show min n zs.length + 1 ≤ _; omega) fun b7 Hg Sg hg => ?_
    have Seg := (Sf.trans y6).trans Sg
    refine ⟨_, rfl, _, rfl, _, rfl, ?_⟩
    dsimp only [tNoPart]
    refine slAny_of (Seg _ _ (S5e _ _ P5)) fun b8 Hh Sh hh => ?_
    rw [cut_drop] at hh
    refine catA_of (Sh _ _ hg) hh (by rw [sizeLine_eq, List.length_append, List.length_take, List.length_drop]; show min n zs.length + 1 + (zs.length - n) ≤ _; omega) fun e2 Hi Si he2 => ?_
    have Sei := (Seg.trans Sh).trans Si
    have S5i := S5e.trans Sei
    -- the third
    refine ⟨_, rfl, _, rfl, (by show 1 ≤ sizeLine; decide), fun b9 n9 => ?_⟩
    have y9 := same_new (o := HO.tup [x]) n9
    refine catA_of (y9 _ _ (S5i _ _ P5)) upd_same (by rw [sizeLine_eq]; show zs.length + 1 ≤ _; omega) fun e3 Hj Sj he3 => ?_
    have Sij := y9.trans Sj
    -- the fourth
    refine ⟨_, rfl, _, rfl, _, rfl, slAny_of (Sij _ _ (S5i _ _ P5)) fun e4 Hk Sk he4 => ?_⟩
    rw [cut_take] at he4
    refine ⟨(by show 4 ≤ sizeLine; decide), fun f1 nf1 => ?_⟩
    have yf := same_new (o := HO.lst [.ref e1, .ref e2, .ref e3, .ref e4]) nf1
    have hf1 : upd Hk f1 (.lst [.ref e1, .ref e2, .ref e3, .ref e4]) f1 = some (.lst [.ref e1, .ref e2, .ref e3, .ref e4]) := upd_same
    have he4 := yf _ _ he4
    have Sjl := Sk.trans yf
    generalize upd Hk f1 (.lst [.ref e1, .ref e2, .ref e3, .ref e4]) = Hl at yf hf1 he4 Sjl ⊢
    have he3 := Sjl _ _ he3
    have he2 := (Sij.trans Sjl) _ _ he2
    have he1 := (Sei.trans (Sij.trans Sjl)) _ _ he1
    have S5l := S5i.trans (Sij.trans Sjl)
    clear Sa Sc Sd Se Sf Sg Sh Si Sj Sk y2 y6 y9 ha hc hd hf hg hh Seg Sei Sij S5c S5e S5i
    -- the fifth
    refine ⟨_, rfl, _, rfl, _, rfl, _, rfl, slAny_of (S5l _ _ P5) fun c1 Ha Sa ha => ?_⟩
    rw [cut_take] at ha
    refine ⟨_, rfl, _, rfl, _, _, rfl, rfl, _, rfl, ?_⟩
    dsimp only [tNoPart]
    refine slAny_of (Sa _ _ (S5l _ _ P5)) fun c2 Hb Sb hb2 => ?_
    have hb2 : Hb c2 = some (.tup (zs.drop (n + 1))) := by
      rw [← cut_drop, ← en]
      exact hb2
    refine catA_of (Sb _ _ ha) hb2 (by rw [sizeLine_eq, List.length_take, List.length_drop]; omega) fun e5 Hc Sc he5 => ?_
    have Slc := (Sa.trans Sb).trans Sc
    have S5c := S5l.trans Slc
    -- the sixth and the seventh
    refine ⟨_, rfl, a0, zs, rfl, SqT.of (S5c _ _ P5), fun e6 n6 => ?_⟩
    have y6 := same_new (o := HO.tup zs.reverse) n6
    have he6 : upd Hc e6 (.tup zs.reverse) e6 = some (.tup zs.reverse) := upd_same
    refine ⟨_, rfl, a0, zs, rfl, .inr (SqT.of (y6 _ _ (S5c _ _ P5))), fun e7 n7 => ?_⟩
    have y7 := same_new (o := HO.lst zs) n7
    have he7 : upd (upd Hc e6 (.tup zs.reverse)) e7 (.lst zs) e7 = some (.lst zs) := upd_same
    refine ⟨(by show 4 ≤ sizeLine; decide), fun f2 nf2 => ?_⟩
    have y8 := same_new (o := HO.lst [.ref e5, .ref e6, .ref e7, .non]) nf2
    have hf2 : upd (upd (upd Hc e6 (.tup zs.reverse)) e7 (.lst zs)) f2 (.lst [.ref e5, .ref e6, .ref e7, .non]) f2 = some (.lst [.ref e5, .ref e6, .ref e7, .non]) := upd_same
    have D7 := (D5.same S5c).same y6
    have ne7 := D7.new n7
    have he7 := y8 _ _ he7
    have he6 := y8 _ _ (y7 _ _ he6)
    have he5 := y8 _ _ (y7 _ _ (y6 _ _ he5))
    have Sly := Slc.trans ((y6.trans y7).trans y8)
    generalize upd (upd (upd Hc e6 (.tup zs.reverse)) e7 (.lst zs)) f2 (.lst [.ref e5, .ref e6, .ref e7, .non]) = Hm at hf2 he7 he6 he5 Sly y8 ⊢
    refine ⟨f1, f2, _, _, rfl, rfl, Sly _ _ hf1, hf2, (by show 4 + 4 ≤ sizeLine; decide), fun r nr => ?_⟩
    have yr := same_new (o := HO.lst ([.ref e1, .ref e2, .ref e3, .ref e4] ++ [.ref e5, .ref e6, .ref e7, .non])) nr
    have Sl' := Sly.trans yr
    have S5z := S5l.trans Sl'
    have he1 := Sl' _ _ he1
    have he2 := Sl' _ _ he2
    have he3 := Sl' _ _ he3
    have he4 := Sl' _ _ he4
    have he5 := yr _ _ he5
    have he6 := yr _ _ he6
    have he7 := yr _ _ he7
    have hr8 : upd Hm r (.lst ([.ref e1, .ref e2, .ref e3, .ref e4] ++ [.ref e5, .ref e6, .ref e7, .non])) r = some (.lst ([.ref e1, .ref e2, .ref e3, .ref e4] ++ [.ref e5, .ref e6, .ref e7, .non])) := upd_same
    have nr0 : H r = none := by
      cases e : H r with
      | none => rfl
      | some o =>
        exact absurd (Sly.free nr) fun z => by
          by_cases h1 : r = p
          · exact (((D5.same S5l).same Sly).new nr).1 h1
          · by_cases h2 : r = q
            · exact (((D5.same S5l).same Sly).new nr).2 h2
            · rw [(S5l.trans Sly) _ _ (O05 _ _ e h1 h2)] at nr
              cases nr
    generalize upd Hm r (.lst ([.ref e1, .ref e2, .ref e3, .ref e4] ++ [.ref e5, .ref e6, .ref e7, .non])) = Hz at he1 he2 he3 he4 he5 he6 he7 hr8 S5z ⊢
    have Dz := D5.same S5z
    have dz := dzs5.same (hide_same (p := p) (q := q) S5z)
    have dxz := dx.same (hide_same (p := p) (q := q) S5z)
    have p1 : ∀ y ∈ ds.take n, y ∈ pool := fun y hy => hpool y (List.mem_of_mem_take hy)
    have p2 : ∀ m, ∀ y ∈ ds.drop m, y ∈ pool := fun m y hy => hpool y (List.mem_of_mem_drop hy)
    have p3 : ∀ y ∈ ds.take n ++ [sd], y ∈ pool := fun y hy => by
      rcases List.mem_append.mp hy with h | h
      · exact p1 y h
      · rw [List.mem_singleton.mp h]
        exact hsp
    have dl : ds.length ≤ 6 := hdl
    refine k r _ [.tuple (ds.take n ++ [sd] ++ ds.drop (n + 1)), .tuple (ds.take n ++ [sd] ++ ds.drop n), .tuple (ds ++ [sd]), .tuple (ds.take n), .tuple (ds.take n ++ ds.drop (n + 1)), .tuple ds.reverse, .list ds, .none] Hz nr0 (O05.trans (.of_same S5z)) Dz hr8 ?_ rfl ?_
    · exact .cons (.tup (hidT Dz he1) (datAll_append (datAll_append (datAll_take n dz) (.cons dxz .nil)) (datAll_drop _ dz)))
        (.cons (.tup (hidT Dz he2) (datAll_append (datAll_append (datAll_take n dz) (.cons dxz .nil)) (datAll_drop _ dz)))
        (.cons (.tup (hidT Dz he3) (datAll_append dz (.cons dxz .nil)))
        (.cons (.tup (hidT Dz he4) (datAll_take n dz))
        (.cons (.tup (hidT Dz he5) (datAll_append (datAll_take n dz) (datAll_drop _ dz)))
        (.cons (.tup (hidT Dz he6) (datAll_rev dz))
        (.cons (.lst (hide_at he7 ne7.1 ne7.2) dz)
        (.cons .non .nil)))))))
    · intro e he
      simp only [List.mem_cons, List.not_mem_nil, or_false] at he
      rcases he with rfl | rfl | rfl | rfl | rfl | rfl | rfl | rfl
      · refine ⟨_, ?_, fun y hy => ?_, .inl rfl⟩
        · rw [List.length_append, List.length_append, List.length_take, List.length_drop]
          show min n ds.length + 1 + (ds.length - (n + 1)) ≤ 10
          omega
        · rcases List.mem_append.mp hy with h | h
          · exact p3 y h
          · exact p2 _ y h
      · refine ⟨_, ?_, fun y hy => ?_, .inl rfl⟩
        · rw [List.length_append, List.length_append, List.length_take, List.length_drop]
          show min n ds.length + 1 + (ds.length - n) ≤ 10
          omega
        · rcases List.mem_append.mp hy with h | h
          · exact p3 y h
          · exact p2 _ y h
      · refine ⟨_, ?_, fun y hy => ?_, .inl rfl⟩
        · rw [List.length_append]
          show ds.length + 1 ≤ 10
          omega
        · rcases List.mem_append.mp hy with h | h
          · exact hpool y h
          · rw [List.mem_singleton.mp h]
            exact hsp
      · exact ⟨_, by rw [List.length_take]; omega, p1, .inl rfl⟩
      · refine ⟨_, ?_, fun y hy => ?_, .inl rfl⟩
        · rw [List.length_append, List.length_take, List.length_drop]
          omega
        · rcases List.mem_append.mp hy with h | h
          · exact p1 y h
          · exact p2 _ y h
      · exact ⟨_, by rw [List.length_reverse]; omega, fun y hy => hpool y (List.mem_reverse.mp hy), .inl rfl⟩
      · exact ⟨ds, by omega, hpool, .inr (.inl rfl)⟩
      · exact ⟨[], by show 0 ≤ 10; omega, (fun y hy => by cases hy), .inr (.inr rfl)⟩
end
end KA
set_option maxRecDepth 100000
set_option maxHeartbeats 4000000
namespace KA
open PySem PySem.Spec PyProof.Rows L2
/-! ### the text of a path tells the path -/
def codes (d : PyData) : List Nat := d.shown.cps.toList
theorem codes_iff {x y : PyData} : x.shown = y.shown ↔ codes x = codes y := by
  constructor
  · intro h
    unfold codes
    rw [h]
  · intro h
    unfold codes at h
    have : x.shown.cps = y.shown.cps := by
      rw [← Array.toArray_toList (xs := x.shown.cps), h, Array.toArray_toList]
    exact (show x.shown = ⟨x.shown.cps⟩ from rfl).trans ((congrArg Str.mk this).trans rfl)
def okPair (x y : List Nat) : Bool := if x.isPrefixOf y then decide (x = y) || (match y.drop x.length with | c :: _ => c != 44 && c != 41 | [] => false) else true
def okPairs (l : List (List Nat)) : Bool := l.all fun x => l.all fun y => okPair x y
theorem pairs_ok : okPairs (pool.map codes) = true := by decide +kernel
theorem pool_nd : (pool.map codes).Nodup := by decide +kernel
def okHead : List Nat → Bool
  | c :: _ => c != 41
  | [] => false
theorem heads_ok : (pool.map codes).all okHead = true := by decide +kernel
theorem pool_len : (pool.map codes).all (fun l => decide (l.length ≤ 30)) = true := by decide +kernel
theorem pool_depth : pool.all (fun x => decide (x.depth ≤ 3)) = true := by decide +kernel
theorem codes_inj {x y : PyData} (hx : x ∈ pool) (hy : y ∈ pool) (h : codes x = codes y) : x = y := by
  obtain ⟨i, hi⟩ := List.mem_iff_getElem?.mp hx
  obtain ⟨j, hj⟩ := List.mem_iff_getElem?.mp hy
  obtain ⟨li, ei⟩ := List.getElem?_eq_some_iff.mp hi
  obtain ⟨lj, ej⟩ := List.getElem?_eq_some_iff.mp hj
  have nd := List.pairwise_iff_getElem.mp pool_nd
  have key : ∀ (i j : Nat) (hi : i < pool.length) (hj : j < pool.length), i < j → codes pool[i] ≠ codes pool[j] := fun i j hi hj hij => by
    have := nd i j (by rw [List.length_map]; exact hi) (by rw [List.length_map]; exact hj) hij
    rw [List.getElem_map, List.getElem_map] at this
    exact this
  rcases Nat.lt_trichotomy i j with h1 | h1 | h1
  · exact absurd (by rw [ei, ej]; exact h) (key i j li lj h1)
  · subst h1
    rw [hi] at hj
    exact Option.some.inj hj
  · exact absurd (by rw [ei, ej]; exact h.symm) (key j i lj li h1)
theorem cut_pre {x y : PyData} (hx : x ∈ pool) (hy : y ∈ pool) {c : Nat} {u w : List Nat} (hc : c = 44 ∨ c = 41) (h : codes y ++ w = codes x ++ c :: u) (hl : (codes x).length ≤ (codes y).length) : x = y := by
  have hp := List.all_eq_true.mp (List.all_eq_true.mp pairs_ok _ (List.mem_map_of_mem hx)) _ (List.mem_map_of_mem hy)
  have e1 : (codes y).take (codes x).length = codes x := by
    have := congrArg (List.take (codes x).length) h
    rw [List.take_append_of_le_length hl, List.take_left] at this
    exact this
  have pre : (codes x).isPrefixOf (codes y) = true := List.isPrefixOf_iff_prefix.mpr ⟨(codes y).drop (codes x).length, by
    conv => lhs; lhs; rw [← e1]
    exact List.take_append_drop _ _⟩
  unfold okPair at hp
  rw [if_pos pre, Bool.or_eq_true] at hp
  rcases hp with hp | hp
  · exact codes_inj hx hy (of_decide_eq_true hp)
  · have e2 : (codes y).drop (codes x).length ++ w = c :: u := by
      have := congrArg (List.drop (codes x).length) h
      rw [List.drop_append_of_le_length hl, List.drop_left] at this
      exact this
    cases e : (codes y).drop (codes x).length with
    | nil =>
      rw [e] at hp
      cases hp
    | cons a r =>
      rw [e] at hp e2
      have ea : a = c := by
        injection e2
      rw [ea] at hp
      rcases hc with rfl | rfl <;> cases hp
theorem cut_both {x y : PyData} (hx : x ∈ pool) (hy : y ∈ pool) {c d : Nat} {u v : List Nat} (hc : c = 44 ∨ c = 41) (hd : d = 44 ∨ d = 41) (h : codes x ++ c :: u = codes y ++ d :: v) : x = y ∧ c :: u = d :: v := by
  have e : x = y := by
    rcases Nat.le_total (codes x).length (codes y).length with hl | hl
    · exact cut_pre hx hy hc h.symm hl
    · exact (cut_pre hy hx hd h hl).symm
  subst e
  exact ⟨rfl, List.append_cancel_left h⟩
def restC : List PyData → List Nat → List Nat
  | [], e => e
  | y :: r, e => 44 :: 32 :: (codes y ++ restC r e)
theorem rest_head : ∀ (r : List PyData) {e : List Nat}, (e = [41] ∨ e = [44, 41]) → ∃ c u, restC r e = c :: u ∧ (c = 44 ∨ c = 41)
  | [], _, .inl h => ⟨41, [], by rw [h]; rfl, .inr rfl⟩
  | [], _, .inr h => ⟨44, [41], by rw [h]; rfl, .inl rfl⟩
  | y :: r, _, _ => ⟨44, _, rfl, .inl rfl⟩
theorem rest_inj : ∀ (r r' : List PyData) {e e' : List Nat}, (∀ x ∈ r, x ∈ pool) → (∀ x ∈ r', x ∈ pool) → (e = [41] ∨ e = [44, 41]) → (e' = [41] ∨ e' = [44, 41]) → restC r e = restC r' e' → r = r' ∧ e = e'
  | [], [], _, _, _, _, _, _, h => ⟨rfl, h⟩
  | [], y :: r', _, _, _, _, .inl he, _, h => by
    rw [he] at h
    injection h with h _
    cases h
  | [], y :: r', _, _, _, _, .inr he, _, h => by
    rw [he] at h
    injection h with _ h
    injection h with h _
    cases h
  | y :: r, [], _, _, _, _, _, .inl he, h => by
    rw [he] at h
    injection h with h _
    cases h
  | y :: r, [], _, _, _, _, _, .inr he, h => by
    rw [he] at h
    injection h with _ h
    injection h with h _
    cases h
  | x :: r, y :: r', e, e', hr, hr', he, he', h => by
    injection h with _ h
    injection h with _ h
    obtain ⟨c, u, ec, hc⟩ := rest_head r he
    obtain ⟨d, v, ed, hd⟩ := rest_head r' he'
    rw [ec, ed] at h
    obtain ⟨rfl, h2⟩ := cut_both (hr x List.mem_cons_self) (hr' y List.mem_cons_self) hc hd h
    rw [← ec, ← ed] at h2
    obtain ⟨rfl, h3⟩ := rest_inj r r' (fun z hz => hr z (List.mem_cons_of_mem _ hz)) (fun z hz => hr' z (List.mem_cons_of_mem _ hz)) he he' h2
    exact ⟨rfl, h3⟩
theorem str_app (a b : Str) : (a ++ b).cps.toList = a.cps.toList ++ b.cps.toList := by
  show (a.cps ++ b.cps).toList = _
  exact Array.toList_append
theorem join_codes : ∀ (x : PyData) (r : List PyData) (e : List Nat), (Str.join ", " (PyData.shownAll (x :: r))).cps.toList ++ e = codes x ++ restC r e
  | x, [], e => by
    rw [PyData.shownAll_cons, PyData.shownAll_nil]
    rfl
  | x, y :: r, e => by
    have ih := join_codes y r e
    rw [PyData.shownAll_cons] at ih ⊢
    rw [PyData.shownAll_cons]
    have e1 : Str.join ", " (x.shown :: y.shown :: PyData.shownAll r) = x.shown ++ ", " ++ Str.join ", " (y.shown :: PyData.shownAll r) := rfl
    rw [e1, str_app, str_app, List.append_assoc, List.append_assoc, ih]
    rfl
def endC (xs : List PyData) : List Nat := if xs.length = 1 then [44, 41] else [41]
theorem end_ok (xs : List PyData) : endC xs = [41] ∨ endC xs = [44, 41] := by
  unfold endC
  by_cases h : xs.length = 1
  · rw [if_pos h]
    exact .inr rfl
  · rw [if_neg h]
    exact .inl rfl
theorem tup_codes (xs : List PyData) : codes (.tuple xs) = 40 :: ((Str.join ", " (PyData.shownAll xs)).cps.toList ++ endC xs) := by
  have e0 : (PyData.tuple xs).shown = tupleText (PyData.shownAll xs) := by simp only [PyData.shown]
  unfold codes
  rw [e0]
  unfold tupleText endC
  rw [str_app, str_app, PyData.shownAll_length]
  have e1 : ((("(" : String) : Str)).cps.toList = [40] := by decide +kernel
  have e2 : (Str.ofString (if (xs.length == 1) = true then ",)" else ")")).cps.toList = if xs.length = 1 then [44, 41] else [41] := by
    by_cases h : xs.length = 1
    · rw [if_pos h, if_pos (beq_iff_eq.mpr h)]
      decide +kernel
    · rw [if_neg h, if_neg (fun z => h (beq_iff_eq.mp z))]
      decide +kernel
  rw [e1, e2, List.append_assoc]
  rfl
theorem tup_cons (x : PyData) (r : List PyData) : codes (.tuple (x :: r)) = 40 :: (codes x ++ restC r (endC (x :: r))) := by
  rw [tup_codes, join_codes]
theorem tup_nil : codes (.tuple []) = [40, 41] := by decide +kernel
theorem tup_inj {xs ys : List PyData} (hx : ∀ x ∈ xs, x ∈ pool) (hy : ∀ y ∈ ys, y ∈ pool) (h : codes (.tuple xs) = codes (.tuple ys)) : xs = ys := by
  have hd : ∀ (x : PyData) (w : List Nat), x ∈ pool → [41] ≠ codes x ++ w := fun x w hx z => by
    have hh := List.all_eq_true.mp heads_ok _ (List.mem_map_of_mem hx)
    cases e : codes x with
    | nil =>
      rw [e] at hh
      cases hh
    | cons a r =>
      rw [e] at hh z
      injection z with z _
      rw [← z] at hh
      cases hh
  cases xs with
  | nil =>
    cases ys with
    | nil => rfl
    | cons y r =>
      rw [tup_nil, tup_cons] at h
      injection h with _ h
      exact absurd h (hd y _ (hy y List.mem_cons_self))
  | cons x r =>
    cases ys with
    | nil =>
      rw [tup_nil, tup_cons] at h
      injection h with _ h
      exact absurd h.symm (hd x _ (hx x List.mem_cons_self))
    | cons y r' =>
      rw [tup_cons, tup_cons] at h
      injection h with _ h
      obtain ⟨c, u, ec, hc⟩ := rest_head r (end_ok (x :: r))
      obtain ⟨d, v, ed, hd'⟩ := rest_head r' (end_ok (y :: r'))
      rw [ec, ed] at h
      obtain ⟨rfl, h2⟩ := cut_both (hx x List.mem_cons_self) (hy y List.mem_cons_self) hc hd' h
      rw [← ec, ← ed] at h2
      obtain ⟨rfl, _⟩ := rest_inj r r' (fun z hz => hx z (List.mem_cons_of_mem _ hz)) (fun z hz => hy z (List.mem_cons_of_mem _ hz)) (end_ok _) (end_ok _) h2
      rfl
/-! what repr wants of such data -/
theorem small_int {i : Int} (h : i.natAbs < 10 ^ 30) : i.natAbs < 10 ^ 4300 := Nat.lt_of_lt_of_le h (Nat.pow_le_pow_right (by decide) (by decide))
mutual
def smallB : PyData → Bool
  | .int i => decide (i.natAbs < 10 ^ 30)
  | .list l => smallBs l
  | .tuple l => smallBs l
  | .dict _ => true
  | .str _ => true
  | .bool _ => true
  | .none => true
def smallBs : List PyData → Bool
  | [] => true
  | d :: ds => smallB d && smallBs ds
end
mutual
theorem small_ok : ∀ d : PyData, smallB d = true → okInt d
  | .int i, h => by
    rw [smallB] at h
    rw [okInt]
    exact small_int (of_decide_eq_true h)
  | .list l, h => by
    rw [smallB] at h
    rw [okInt]
    exact smalls_ok l h
  | .tuple l, h => by
    rw [smallB] at h
    rw [okInt]
    exact smalls_ok l h
  | .dict _, _ => by simp only [okInt]
  | .str _, _ => by simp only [okInt]
  | .bool _, _ => by simp only [okInt]
  | .none, _ => by simp only [okInt]
theorem smalls_ok : ∀ l : List PyData, smallBs l = true → okInts l
  | [], _ => by rw [okInts]; trivial
  | d :: ds, h => by
    rw [smallBs, Bool.and_eq_true] at h
    rw [okInts]
    exact ⟨small_ok d h.1, smalls_ok ds h.2⟩
end
theorem smalls_mem : ∀ {l : List PyData}, (∀ x ∈ l, smallB x = true) → smallBs l = true
  | [], _ => by rw [smallBs]
  | d :: ds, h => by
    rw [smallBs, h d List.mem_cons_self, smalls_mem fun x hx => h x (List.mem_cons_of_mem _ hx)]
    rfl
theorem pool_small : pool.all smallB = true := by decide +kernel
theorem depth_mem : ∀ {l : List PyData} {n : Nat}, (∀ x ∈ l, x.depth ≤ n) → PyData.depthAll l ≤ n
  | [], n, _ => by
    rw [PyData.depthAll]
    exact Nat.zero_le _
  | d :: ds, n, h => by
    rw [PyData.depthAll]
    exact Nat.max_le.mpr ⟨h d List.mem_cons_self, depth_mem fun x hx => h x (List.mem_cons_of_mem _ hx)⟩
theorem rest_len : ∀ (r : List PyData) {e : List Nat}, (∀ x ∈ r, x ∈ pool) → (e = [41] ∨ e = [44, 41]) → (restC r e).length ≤ 32 * r.length + 2
  | [], _, _, .inl h => by rw [h]; decide
  | [], _, _, .inr h => by rw [h]; decide
  | y :: r, e, h, he => by
    have h1 := rest_len r (fun x hx => h x (List.mem_cons_of_mem _ hx)) he
    have h2 := of_decide_eq_true (List.all_eq_true.mp pool_len _ (List.mem_map_of_mem (h y List.mem_cons_self)))
    show ((codes y ++ restC r e).length + 1) + 1 ≤ 32 * (r.length + 1) + 2
    rw [List.length_append]
    omega
theorem tup_len {xs : List PyData} (h : ∀ x ∈ xs, x ∈ pool) (hl : xs.length ≤ 10) : (PyData.tuple xs).shown.length ≤ 1000 := by
  have e : (PyData.tuple xs).shown.length = (codes (.tuple xs)).length := by
    unfold codes
    rw [Array.length_toList]
    rfl
  rw [e]
  cases xs with
  | nil =>
    rw [tup_nil]
    decide
  | cons x r =>
    have h1 := rest_len r (fun z hz => h z (List.mem_cons_of_mem _ hz)) (end_ok (x :: r))
    have h2 := of_decide_eq_true (List.all_eq_true.mp pool_len _ (List.mem_map_of_mem (h x List.mem_cons_self)))
    rw [List.length_cons] at hl
    rw [tup_cons, List.length_cons, List.length_append]
    omega
theorem lst_codes (xs : List PyData) : codes (.list xs) = 91 :: ((Str.join ", " (PyData.shownAll xs)).cps.toList ++ [93]) := by
  have e0 : (PyData.list xs).shown = listText (PyData.shownAll xs) := by simp only [PyData.shown]
  unfold codes
  rw [e0, listText_eq_join, str_app, str_app]
  have e1 : ((("[" : String) : Str)).cps.toList = [91] := by decide +kernel
  have e2 : ((("]" : String) : Str)).cps.toList = [93] := by decide +kernel
  rw [e1, e2, List.append_assoc]
  rfl
theorem lst_len {xs : List PyData} (h : ∀ x ∈ xs, x ∈ pool) (hl : xs.length ≤ 10) : (PyData.list xs).shown.length ≤ 1000 := by
  have e : (PyData.list xs).shown.length = (codes (.list xs)).length := by
    unfold codes
    rw [Array.length_toList]
    rfl
  rw [e, lst_codes]
  cases xs with
  | nil => decide +kernel
  | cons x r =>
    have h1 := rest_len r (fun z hz => h z (List.mem_cons_of_mem _ hz)) (e := [41]) (.inl rfl)
    have h2 := of_decide_eq_true (List.all_eq_true.mp pool_len _ (List.mem_map_of_mem (h x List.mem_cons_self)))
    have h3 := congrArg List.length (join_codes x r [41])
    rw [List.length_append, List.length_append] at h3
    rw [List.length_cons] at hl
    rw [List.length_cons, List.length_append]
    simp only [List.length_singleton] at h3 ⊢
    omega
/-- what the law's dict tells of a path that may be wrong -/
theorem wr_codes {e : PyData} (h : Wr e) {p : List PyData} (hp : ∀ x ∈ p, x ∈ pool) : e.shown = (PyData.tuple p).shown ↔ e = .tuple p := by
  obtain ⟨es, hl, hes, rfl | rfl | rfl⟩ := h
  · constructor
    · intro h
      rw [tup_inj hes hp (codes_iff.mp h)]
    · intro h
      rw [h]
  · constructor
    · intro h
      have := codes_iff.mp h
      rw [lst_codes, tup_codes] at this
      injection this with this _
      cases this
    · intro h
      cases h
  · constructor
    · intro h
      have := codes_iff.mp h
      rw [tup_codes] at this
      have e1 : codes .none = [78, 111, 110, 101] := by decide +kernel
      rw [e1] at this
      injection this with this _
      cases this
    · intro h
      cases h
theorem wr_repr {e : PyData} (h : Wr e) : okInt e ∧ e.depth ≤ 64 ∧ e.shown.length ≤ sizeLine := by
  obtain ⟨es, hl, hes, he⟩ := h
  have h1 : smallBs es = true := smalls_mem fun x hx => List.all_eq_true.mp pool_small _ (hes x hx)
  have h2 : PyData.depthAll es ≤ 3 := depth_mem fun x hx => of_decide_eq_true (List.all_eq_true.mp pool_depth _ (hes x hx))
  rcases he with rfl | rfl | rfl
  · refine ⟨small_ok _ (by rw [smallB]; exact h1), ?_, Nat.le_trans (tup_len hes hl) (by rw [sizeLine_eq]; decide)⟩
    rw [PyData.depth]
    omega
  · refine ⟨small_ok _ (by rw [smallB]; exact h1), ?_, Nat.le_trans (lst_len hes hl) (by rw [sizeLine_eq]; decide)⟩
    rw [PyData.depth]
    omega
  · exact ⟨small_ok _ (by rw [smallB]), by decide +kernel, by rw [sizeLine_eq]; decide +kernel⟩
end KA
set_option maxRecDepth 100000
set_option maxHeartbeats 4000000
namespace KA
open PySem PySem.Spec PyProof.Rows L2
/-! ### questions beside the words of a part -/
inductive Cl where
  | few (i : Fin 5) | row (c : Bool) | pow | dec (c : Fin 3)
def clS : S10 → Cl
  | .few i => .few i
  | .row c _ => .row c
  | .pow _ _ => .pow
  | .dec c _ => .dec c
def askC (k : Cl) (z : Str) (as : List PyData) : Bool := match k with
  | .few 0 => subsetB 2 1 z as
  | .few 1 => wordB [("a", 1)] z as
  | .few 2 => cycleB 2 z as
  | .few 3 => treeB 2 z as
  | .few 4 => matchB 1 z as
  | .row c => c && choiceB z as
  | .pow => false
  | .dec c => wordB (cnts c) z as
theorem askC_eq (s : S10) (z : Str) (as : List PyData) : askS s z as = askC (clS s) z as := by
  cases s with
  | few i =>
    match i with
    | 0 => rfl
    | 1 => rfl
    | 2 => rfl
    | 3 => rfl
    | 4 => rfl
  | row c xs => rfl
  | pow n x => rfl
  | dec c xs => rfl
def headC : Cl → Str
  | .few 0 => "subset"
  | .few 1 => "word"
  | .few 2 => "cycle"
  | .few 3 => "tree"
  | .few 4 => "matching"
  | .row c => rowW c
  | .pow => "power"
  | .dec _ => "decorated"
def cntC : Cl → Cn
  | .few _ => [("a", 1)]
  | .dec c => cnts c
  | _ => []
def wordsC (k : Cl) : List PyData := wordsK (headC k) (cntC k)
def everyD : List PyData := wdW [("a", 2)] ++ subW ++ [wq "selected" [], wq "parent" [.int 1]] ++ cycW ++ matW ++ [wq "select" [.str "b", .int 1], wq "select" [.str "ab", .int 0]]
def itemsW : PyData → List PyData
  | .tuple q => q
  | _ => []
def askI (k : Cl) : List PyData → Bool
  | .str z :: as => askC k z as
  | _ => false
def isTupW : PyData → Bool
  | .tuple _ => true
  | _ => false
def okW (k : Cl) (w : PyData) : Bool := isTupW w && (askI k (itemsW w) == (wordsC k).any fun y => PyData.eqv y w)
def okK (k : Cl) : Bool := (everyD ++ wordsC k).all (okW k)
theorem ok_cl : ∀ k : Cl, okK k = true
  | .few 0 => by decide +kernel
  | .few 1 => by decide +kernel
  | .few 2 => by decide +kernel
  | .few 3 => by decide +kernel
  | .few 4 => by decide +kernel
  | .row true => by decide +kernel
  | .row false => by decide +kernel
  | .pow => by decide +kernel
  | .dec 0 => by decide +kernel
  | .dec 1 => by decide +kernel
  | .dec 2 => by decide +kernel
/-- the words of one part asked of another one -/
def okKK (k j : Cl) : Bool := (wordsC j).all (okW k)
def allCl : List Cl := [.few 0, .few 1, .few 2, .few 3, .few 4, .row true, .row false, .pow, .dec 0, .dec 1, .dec 2]
theorem mem_all : ∀ k : Cl, k ∈ allCl
  | .few 0 => by simp [allCl]
  | .few 1 => by simp [allCl]
  | .few 2 => by simp [allCl]
  | .few 3 => by simp [allCl]
  | .few 4 => by simp [allCl]
  | .row true => by simp [allCl]
  | .row false => by simp [allCl]
  | .pow => by simp [allCl]
  | .dec 0 => by simp [allCl]
  | .dec 1 => by simp [allCl]
  | .dec 2 => by simp [allCl]
theorem ok_pairs : allCl.all (fun k => allCl.all fun j => okKK k j) = true := by decide +kernel
theorem shaped_words : allCl.all (fun k => (wordsC k).all SeqAt.shaped && SeqAt.shaped (.list (wordsC k))) = true := by decide +kernel
theorem shaped_every : everyD.all SeqAt.shaped = true := by decide +kernel
theorem words_len : allCl.all (fun k => decide ((wordsC k).length ≤ 30) && noLs (wordsC k)) = true := by decide +kernel
theorem every_len : everyD.length ≤ 100 ∧ 0 < everyD.length ∧ noLs everyD = true := by decide +kernel
end KA
set_option maxRecDepth 100000
set_option maxHeartbeats 4000000
namespace KA
open PySem PySem.Spec PyProof.Rows L2
/-! ### what the law's loop needs -/
theorem dt_head (e : S10) : ∃ ds, dt e = .tuple (.str (headC (clS e)) :: ds) ∧ ((headC (clS e) = "word" ∨ headC (clS e) = "decorated") → ∃ r, ds = cntsD (cntC (clS e)) :: r) := by
  cases e with
  | few i =>
    rw [dt]
    match i with
    | 0 => exact ⟨_, rfl, fun h => by rcases h with h | h <;> exact absurd h (by decide +kernel)⟩
    | 1 => exact ⟨_, rfl, fun _ => ⟨_, rfl⟩⟩
    | 2 => exact ⟨_, rfl, fun h => by rcases h with h | h <;> exact absurd h (by decide +kernel)⟩
    | 3 => exact ⟨_, rfl, fun h => by rcases h with h | h <;> exact absurd h (by decide +kernel)⟩
    | 4 => exact ⟨_, rfl, fun h => by rcases h with h | h <;> exact absurd h (by decide +kernel)⟩
  | row c xs =>
    rw [dt]
    refine ⟨_, rfl, fun h => ?_⟩
    cases c with
    | true =>
      have h' : headC (.row true) = "word" ∨ headC (.row true) = "decorated" := h
      exact absurd h' (by decide +kernel)
    | false =>
      have h' : headC (.row false) = "word" ∨ headC (.row false) = "decorated" := h
      exact absurd h' (by decide +kernel)
  | pow n x =>
    rw [dt]
    exact ⟨_, rfl, fun h => absurd (show headC .pow = "word" ∨ headC .pow = "decorated" from h) (by decide +kernel)⟩
  | dec c xs =>
    rw [dt]
    exact ⟨_, rfl, fun _ => ⟨_, rfl⟩⟩
theorem cntC_small (k : Cl) : (cntC k).length ≤ 3 ∧ ∀ c ∈ cntC k, c.2 ≤ 3 := by
  match k with
  | .few i => exact ⟨by show 1 ≤ 3; decide, fun c hc => by rw [List.mem_singleton.mp hc]; decide⟩
  | .row c => exact ⟨by show 0 ≤ 3; decide, fun c hc => by cases hc⟩
  | .pow => exact ⟨by show 0 ≤ 3; decide, fun c hc => by cases hc⟩
  | .dec c =>
    obtain ⟨h1, h2⟩ := cnts_le c
    exact ⟨Nat.le_trans h1 (by decide), fun q hq => Nat.le_trans (h2 q hq).1 (by decide)⟩
/-- _law_words of a part -/
theorem words_of {H : Hp} {v : V} {e : S10} {Q : VK} {E : XK} (h : Dat H v (dt e)) (k : ∀ (a : Addr) (xs : List V) (H' : Hp), H a = none → Same H H' → H' a = some (.lst xs) → DatAll H' xs (wordsC (clS e)) → Q (.ref a) H') : spWords [v] H Q E := by
  obtain ⟨ds, e1, e2⟩ := dt_head e
  obtain ⟨h1, h2⟩ := cntC_small (clS e)
  exact ⟨v, _, ds, cntC (clS e), rfl, by rw [← e1]; exact h, e2, h1, h2, k⟩
mutual
theorem dat_dp {K : PySem.W.Frag} {H : Hp} : ∀ {v : V} {d : PyData}, Dat H v d → noL d = true → Dp K H v d
  | _, _, .non, _ => .non
  | _, _, .bl b, _ => .bl b
  | _, _, .int i, _ => .int i
  | _, _, .str x _, _ => .str x
  | _, _, .lst _ _, h => by simp [noL] at h
  | _, _, .d0 _, h => by simp [noL] at h
  | _, _, .tup e t, h => .tup (SqT.of e) (datAll_dp t (by simpa only [noL] using h))
theorem datAll_dp {K : PySem.W.Frag} {H : Hp} : ∀ {vs : List V} {ds : List PyData}, DatAll H vs ds → noLs ds = true → DpAll K H vs ds
  | _, _, .nil, _ => .nil
  | _, _, .cons (d := d) (ds := ds) a t, h => by
    have h' : noL d = true ∧ noLs ds = true := by simpa only [noLs, Bool.and_eq_true] using h
    exact .cons (dat_dp a h'.1) (datAll_dp t h'.2)
end
theorem cl_words (k : Cl) : (wordsC k).length ≤ 30 ∧ noLs (wordsC k) = true ∧ (∀ w ∈ wordsC k, SeqAt.shaped w = true) ∧ SeqAt.shaped (.list (wordsC k)) = true := by
  have h1 := List.all_eq_true.mp words_len k (mem_all k)
  have h2 := List.all_eq_true.mp shaped_words k (mem_all k)
  rw [Bool.and_eq_true] at h1 h2
  exact ⟨of_decide_eq_true h1.1, h1.2, fun w hw => List.all_eq_true.mp h2.1 w hw, h2.2⟩
/-- a word of any part or of those asked besides: what the program says is what the law looks up -/
def AskOk (w : PyData) : Prop := ∃ q, w = .tuple q ∧ noL w = true ∧ SeqAt.shaped w = true ∧ q.length ≤ 10 ∧ ∀ k : Cl, askI k q = (wordsC k).any fun y => PyData.eqv y w
theorem items_len : allCl.all (fun k => (wordsC k).all fun w => decide ((itemsW w).length ≤ 10)) = true := by decide +kernel
theorem items_lenE : everyD.all (fun w => decide ((itemsW w).length ≤ 10)) = true := by decide +kernel
theorem okW_ask {k : Cl} {w : PyData} (h : okW k w = true) : ∃ q, w = .tuple q ∧ askI k q = (wordsC k).any fun y => PyData.eqv y w := by
  unfold okW at h
  rw [Bool.and_eq_true] at h
  obtain ⟨h1, h2⟩ := h
  cases w with
  | tuple q => exact ⟨q, rfl, beq_iff_eq.mp h2⟩
  | _ => cases h1
theorem ask_every {w : PyData} (h : w ∈ everyD) : AskOk w := by
  have key : ∀ k : Cl, okW k w = true := fun k => by
    have := ok_cl k
    unfold okK at this
    exact List.all_eq_true.mp this w (List.mem_append_left _ h)
  obtain ⟨q, rfl, _⟩ := okW_ask (key .pow)
  refine ⟨q, rfl, noLs_iff.mp every_len.2.2 _ h, List.all_eq_true.mp shaped_every _ h, of_decide_eq_true (List.all_eq_true.mp items_lenE _ h), fun k => ?_⟩
  obtain ⟨q', e, h'⟩ := okW_ask (key k)
  cases e
  exact h'
theorem ask_word {j : Cl} {w : PyData} (h : w ∈ wordsC j) : AskOk w := by
  have key : ∀ k : Cl, okW k w = true := fun k => by
    have := List.all_eq_true.mp (List.all_eq_true.mp ok_pairs k (mem_all k)) j (mem_all j)
    unfold okKK at this
    exact List.all_eq_true.mp this w h
  obtain ⟨q, rfl, _⟩ := okW_ask (key .pow)
  obtain ⟨_, h2, h3, _⟩ := cl_words j
  refine ⟨q, rfl, noLs_iff.mp h2 _ h, h3 _ h, of_decide_eq_true (List.all_eq_true.mp (List.all_eq_true.mp items_len j (mem_all j)) _ h), fun k => ?_⟩
  obtain ⟨q', e, h'⟩ := okW_ask (key k)
  cases e
  exact h'
theorem askI_eq (s : S10) (q : List PyData) : askB s q = askI (clS s) q := by
  cases q with
  | nil => rfl
  | cons d as =>
    cases d with
    | str z => exact askC_eq s z as
    | _ => rfl
/-! the law's dict -/
theorem merge_some : ∀ (kvs acc : List (Key × V)) (k : Key) (v : V), valV (mergeK acc kvs) k = some v → valV acc k = some v ∨ (k, v) ∈ kvs
  | [], acc, k, v, h => .inl h
  | p :: r, acc, k, v, h => by
    rcases merge_some r (putK acc p.1 p.2) k v h with h | h
    · rw [valV_put] at h
      by_cases e : k = p.1
      · rw [if_pos e] at h
        cases h
        exact .inr (by rw [e]; exact List.mem_cons_self)
      · rw [if_neg e] at h
        exact .inl h
    · exact .inr (List.mem_cons_of_mem _ h)
theorem merge_there : ∀ (kvs acc : List (Key × V)) (k : Key), (valV acc k ≠ none ∨ ∃ v, (k, v) ∈ kvs) → valV (mergeK acc kvs) k ≠ none
  | [], acc, k, .inl h => h
  | [], acc, k, .inr ⟨v, h⟩ => by cases h
  | p :: r, acc, k, h => by
    refine merge_there r (putK acc p.1 p.2) k ?_
    by_cases e : k = p.1
    · left
      rw [valV_put, if_pos e]
      exact fun z => by cases z
    · rcases h with h | ⟨v, h⟩
      · left
        rw [valV_put, if_neg e]
        exact h
      · rcases List.mem_cons.mp h with h | h
        · exact absurd (by rw [← h]) e
        · exact .inr ⟨v, h⟩
/-- the steps of a path are in the pool -/
theorem step_pool {s e : S10} {d : PyData} (hs : okS s = true) (h : (d, e) ∈ nestS s) : d ∈ pool := by
  have nums : ∀ k : Nat, k < 3 → PyData.int (k : Nat) ∈ pool := fun k hk => by
    have : k = 0 ∨ k = 1 ∨ k = 2 := by omega
    rcases this with rfl | rfl | rfl <;> simp [pool, stepsA]
  cases s with
  | few i => cases h
  | row c xs =>
    rw [okS, Bool.and_eq_true] at hs
    obtain ⟨j, rfl, hj⟩ := (enum_get xs 0 d e).mp h
    have h1 := (List.getElem?_eq_some_iff.mp hj).1
    have h2 := of_decide_eq_true hs.2
    rw [Nat.zero_add]
    exact nums j (by omega)
  | pow n x =>
    rw [okS, Bool.and_eq_true] at hs
    obtain ⟨k, hk, hk2⟩ := List.mem_map.mp h
    cases hk2
    have h2 := of_decide_eq_true hs.2
    exact nums k (by have := List.mem_range.mp hk; omega)
  | dec c xs =>
    obtain ⟨q, hq, hq2⟩ := List.mem_flatMap.mp h
    obtain ⟨rfl, j, hj, rfl⟩ := dec_mem.mp hq2
    have hm := (List.of_mem_zip (a := q.1) (b := q.2) hq).1
    have key : ∀ c : Fin 3, ∀ q ∈ cnts c, ∀ j : Nat, j < q.2 → PyData.tuple [.str q.1, .int (j : Nat)] ∈ pool := fun c q hq j hj => by
      have two : ∀ {m : Nat}, j < m → m ≤ 2 → j = 0 ∨ j = 1 := fun h1 h2 => by omega
      match c, hq with
      | 0, hq =>
        rcases List.mem_cons.mp hq with rfl | hq
        · obtain rfl : j = 0 := by have : j < 1 := hj; omega
          simp [pool, stepsA]
        · rw [List.mem_singleton.mp hq] at hj ⊢
          rcases two hj (by decide) with rfl | rfl <;> simp [pool, stepsA]
      | 1, hq =>
        rcases List.mem_cons.mp hq with rfl | hq
        · rcases two hj (by decide) with rfl | rfl <;> simp [pool, stepsA, stepsB]
        · rw [List.mem_singleton.mp hq] at hj ⊢
          obtain rfl : j = 0 := by have : j < 1 := hj; omega
          simp [pool, stepsA]
      | 2, hq =>
        rw [List.mem_singleton.mp hq] at hj ⊢
        obtain rfl : j = 0 := by have : j < 1 := hj; omega
        simp [pool, stepsA]
    exact key c q.1 hm j hj
theorem path_pool : ∀ {p : List PyData} {s e : S10}, okS s = true → partAt s p = some e → ∀ x ∈ p, x ∈ pool
  | [], _, _, _, _, x, hx => by cases hx
  | d :: p, s, e, hs, h, x, hx => by
    have h' : (match nextS s d with | none => none | some e => partAt e p) = some e := h
    cases hn : nextS s d with
    | none =>
      rw [hn] at h'
      cases h'
    | some m =>
      rw [hn] at h'
      rcases List.mem_cons.mp hx with rfl | hx
      · exact step_pool hs ((next_iff s x m).mp hn)
      · exact path_pool (next_ok hs hn) h' x hx
theorem pth_wr {p : List PyData} {s e : S10} (hs : okS s = true) (hd : dpS s ≤ 6) (h : partAt s p = some e) : Wr (.tuple p) := by
  obtain ⟨a, _⟩ := path_len h
  exact ⟨p, by omega, path_pool hs h, .inl rfl⟩
end KA
set_option maxRecDepth 100000
set_option maxHeartbeats 8000000
namespace KA
open PySem PySem.Spec PyProof.Rows L2
/-! ### the law -/
abbrev s_law : Stmt := top 43
def spLaw (K : PySem.W.Frag) : Sp := fun vs H Q _ => ∃ (a : Addr) (ns : List Int), vs = [.ref a] ∧ SqL K H a (ns.map V.int) ∧ ns.length ≤ 63 ∧ ∀ H', Q (.bl true) H'
abbrev NL : List Str := ["_law_script", "_law_deck_here", "_law_turn", "_law_space", "_law_parts_here", "_law_known", "_law_every", "_law_path", "_law_part", "_law_words_here", "_law_other", "_law_there", "_law_due"]
def spDeepAny : Sp := fun vs H Q E => ∃ n : Fin 4, spDeep (n.1 + 2) vs H Q E
/-- what the law's loops keep, in the heap without the deck -/
structure Kept (G : Hp) (s : S10) (v : V) (ev kd : Addr) : Prop where
  sp : Dat G v (dt s)
  ev : ∃ xs, G ev = some (.lst xs) ∧ DatAll G xs everyD
  kd : ∃ kvs : List (Key × V), G kd = some (.dK kvs) ∧ (∀ k u, valV kvs k = some u → ∃ p e, k = .inr (PyData.tuple p).shown ∧ partAt s p = some e ∧ Dat G u (dt e)) ∧ ∀ p e, partAt s p = some e → valV kvs (.inr (PyData.tuple p).shown) ≠ none
theorem Kept.same {G G' : Hp} {s : S10} {v : V} {ev kd : Addr} (k : Kept G s v ev kd) (S : Same G G') : Kept G' s v ev kd where
  sp := k.sp.same S
  ev := by
    obtain ⟨xs, h, d⟩ := k.ev
    exact ⟨xs, S _ _ h, d.same S⟩
  kd := by
    obtain ⟨kvs, h, a, b⟩ := k.kd
    refine ⟨kvs, S _ _ h, fun key u hu => ?_, b⟩
    obtain ⟨p, e, h1, h2, h3⟩ := a key u hu
    exact ⟨p, e, h1, h2, h3.same S⟩
/-- the list of pairs for the law's dict, as it grows -/
def DSt (H5 : Hp) (M : Addr) (ps : List Pth) (j : Nat) (Hz : Hp) : Prop := Same H5 Hz ∧ ∃ (as : List Addr) (kvs : List (Key × V)), Hz M = some (.lst (as.map V.ref)) ∧ as.length = j ∧ Paired (fun (T : Addr) (kv : Key × V) => Hz T = some (.tup [kV kv.1, kv.2])) as kvs ∧
  (∀ kv ∈ kvs, ∃ r ∈ ps, kv.1 = .inr (PyData.tuple r.1).shown ∧ Dat H5 kv.2 (dt r.2)) ∧ ∀ r ∈ ps.take j, ∃ u, ((.inr (PyData.tuple r.1).shown : Key), u) ∈ kvs
theorem DSt.start {H5 : Hp} {M : Addr} {ps : List Pth} (n : H5 M = none) : DSt H5 M ps 0 (upd H5 M (.lst [])) := ⟨same_new n, [], [], upd_same, rfl, .nil, (fun kv h => by cases h), (fun r h => by cases h)⟩
theorem paired_imp {α β : Type} {F G : α → β → Prop} (h : ∀ x y, F x y → G x y) : ∀ {xs : List α} {ys : List β}, Paired F xs ys → Paired G xs ys
  | _, _, .nil => .nil
  | _, _, .cons a t => .cons (h _ _ a) (paired_imp h t)
theorem paired_app {α β : Type} {F : α → β → Prop} : ∀ {xs xs' : List α} {ys ys' : List β}, Paired F xs ys → Paired F xs' ys' → Paired F (xs ++ xs') (ys ++ ys')
  | _, _, _, _, .nil, h => h
  | _, _, _, _, .cons a t, h => .cons a (paired_app t h)
theorem DSt.step {H5 Hz : Hp} {M T : Addr} {ps : List Pth} {j : Nat} {r : Pth} {u : V} (n : H5 M = none) (h : DSt H5 M ps j Hz) (hr : ps[j]? = some r) (nT : Hz T = none) (du : Dat H5 u (dt r.2)) :
    ∃ acc, upd Hz T (.tup [.str (PyData.tuple r.1).shown, u]) M = some (.lst acc) ∧ acc.length = j ∧ DSt H5 M ps (j + 1) (upd (upd Hz T (.tup [.str (PyData.tuple r.1).shown, u])) M (.lst (acc ++ [.ref T]))) := by
  obtain ⟨S, as, kvs, hM, hl, hp, h1, h2⟩ := h
  have ST := same_new (o := HO.tup [.str (PyData.tuple r.1).shown, u]) nT
  refine ⟨as.map V.ref, ST _ _ hM, by rw [List.length_map, hl], same_off n (S.trans ST), as ++ [T], kvs ++ [(.inr (PyData.tuple r.1).shown, u)], ?_, by rw [List.length_append, hl]; rfl, ?_, ?_, ?_⟩
  · rw [upd_same, List.map_append]
    rfl
  · have off : ∀ (b : Addr) (z : List V), upd Hz T (.tup [.str (PyData.tuple r.1).shown, u]) b = some (.tup z) → upd (upd Hz T (.tup [.str (PyData.tuple r.1).shown, u])) M (.lst (as.map V.ref ++ [.ref T])) b = some (.tup z) := fun b z e => by
      rw [upd_ne (fun y => by rw [y, ST _ _ hM] at e; cases e)]
      exact e
    exact paired_app (paired_imp (fun x y e => off _ _ (ST _ _ e)) hp) (.cons (off _ _ upd_same) .nil)
  · intro kv hkv
    rcases List.mem_append.mp hkv with hkv | hkv
    · exact h1 kv hkv
    · rw [List.mem_singleton.mp hkv]
      exact ⟨r, List.mem_of_getElem? hr, rfl, du⟩
  · intro r' hr'
    rw [List.take_add_one, hr] at hr'
    rcases List.mem_append.mp hr' with hr' | hr'
    · obtain ⟨u', hu'⟩ := h2 r' hr'
      exact ⟨u', List.mem_append_left _ hu'⟩
    · have e : r' = r := by simpa using hr'
      rw [e]
      exact ⟨u, List.mem_append_right _ (List.mem_singleton.mpr rfl)⟩
theorem paired_len {α β : Type} {F : α → β → Prop} : ∀ {xs : List α} {ys : List β}, Paired F xs ys → xs.length = ys.length
  | _, _, .nil => rfl
  | _, _, .cons _ t => by rw [List.length_cons, List.length_cons, paired_len t]
theorem cat_of {H : Hp} {a b : Addr} {ds es : List PyData} {Q : VK} (ha : Ls H a ds) (hb : Ls H b es) (hz : ds.length + es.length ≤ 1000) (k : ∀ (p : Addr) (H' : Hp), H p = none → Same H H' → Ls H' p (ds ++ es) → Q (.ref p) H') : rCat (.ref a) (.ref b) H Q := by
  obtain ⟨xs, h1, d1⟩ := ha
  obtain ⟨ys, h2, d2⟩ := hb
  refine ⟨a, b, xs, ys, rfl, rfl, h1, h2, by rw [d1.len, d2.len, sizeLine_eq]; omega, fun p np => k p _ np (same_new np) ⟨_, upd_same, (datAll_append d1 d2).same (same_new np)⟩⟩
theorem words_k {H : Hp} {v : V} {z : Str} {ds : List PyData} {cs : Cn} {Q : VK} {E : XK} (h : Dat H v (.tuple (.str z :: ds))) (hc : (z = "word" ∨ z = "decorated") → ∃ r, ds = cntsD cs :: r) (hl : cs.length ≤ 3) (h3 : ∀ c ∈ cs, c.2 ≤ 3)
    (k : ∀ (a : Addr) (H' : Hp), H a = none → Same H H' → Ls H' a (wordsK z cs) → Q (.ref a) H') : spWords [v] H Q E := ⟨v, z, ds, cs, rfl, h, hc, hl, h3, fun a xs H' n S hx d => k a H' n S ⟨xs, hx, d⟩⟩
theorem wk_word (cs : Cn) : wordsK "word" cs = wdW cs := by
  unfold wordsK
  rw [if_neg (by decide +kernel), if_pos (.inl rfl)]
theorem wk_sub (cs : Cn) : wordsK "subset" cs = subW := if_pos rfl
theorem wk_cyc : wordsK "cycle" [] = cycW := by
  unfold wordsK knownW
  rw [if_neg (by decide +kernel), if_neg (by decide +kernel), if_pos rfl]
theorem wk_mat : wordsK "matching" [] = matW := by
  unfold wordsK knownW
  rw [if_neg (by decide +kernel), if_neg (by decide +kernel), if_neg (by decide +kernel), if_neg (by decide +kernel), if_pos rfl]
theorem hide_ne {H : Hp} {p q a : Addr} {o : HO} (h : hide p q H a = some o) : a ≠ p ∧ a ≠ q := by
  unfold hide at h
  by_cases e : a = p ∨ a = q
  · rw [if_pos e] at h
    cases h
  · exact ⟨fun z => e (.inl z), fun z => e (.inr z)⟩
theorem bool_repr (b : Bool) : okInt (.bool b) ∧ (PyData.bool b).depth ≤ 64 ∧ (PyData.bool b).shown.length ≤ sizeLine := by
  refine ⟨by simp only [okInt], by rw [PyData.depth]; exact Nat.zero_le _, ?_⟩
  rw [sizeLine_eq]
  cases b <;> decide +kernel
section
variable {P : Program} {w : World} {K : PySem.W.Frag} {mg : Str → Option Value} {base : Heap}
theorem sc_law : FnScope NL ["_law_script"] (defScope s_law) := ⟨rfl, rfl, rfl, by decide +kernel, rfl, by decide +kernel, by decide +kernel⟩
theorem ok_law {f fK fD fP fE fA fW fX fQ : Addr} {fd fdK fdD fdP fdE fdA fdW fdX fdQ : FuncData} (F : Fun K "law" "law" s_law f fd) (T : Nm mg) (eS : PySem.W.nsIn K cStatics "sys.int_max_str_digits" = some none)
    (D_deck : DefOk K mg "_law_deck" sDeck ["_law_script"] fK fdK) (D_draw : DefOk K mg "_law_draw" sDraw ["_law_deck_here", "_law_bound"] fD fdD) (D_pick : DefOk K mg "_law_pick" sPick ["_law_deck_here", "_law_items"] fP fdP)
    (D_deep : DefOk K mg "_law_deep" s_deep ["_law_deck_here", "_law_depth"] fE fdE) (D_parts : DefOk K mg "_law_parts" s_parts ["_law_space"] fA fdA) (D_words : DefOk K mg "_law_words" s_words ["_law_part"] fW fdW)
    (D_wrong : DefOk K mg "_law_wrong_paths" s_wrong ["_law_deck_here", "_law_path"] fX fdX) (D_query : DefOk K mg "is_query" s_query ["space", "value"] fQ fdQ)
    (G_pick : FnOk P w K mg base CX0 2 fP fdP ["_law_deck_here", "_law_items"] spPick) (G_deep : FnOk P w K mg base CX0 9 fE fdE ["_law_deck_here", "_law_depth"] spDeepAny) (G_parts : FnOk P w K mg base CX0 2 fA fdA ["_law_space"] spParts)
    (G_words : FnOk P w K mg base CX0 1 fW fdW ["_law_part"] spWords) (G_wrong : FnOk P w K mg base CX0 3 fX fdX ["_law_deck_here", "_law_path"] spWrong) (G_query : FnOk P w K mg base CX0 6 fQ fdQ ["space", "value"] spQuery) :
    FnG P w K mg base 10 f fd ["_law_script"] (spLaw K) := by
  have G_deck : FnOk P w K mg base CX0 1 fK fdK ["_law_script"] (spDeck K) := ok_deck D_deck.F T T.list
  have G_draw : FnOk P w K mg base CX0 1 fD fdD ["_law_deck_here", "_law_bound"] spDraw := ok_draw D_draw.F
  refine F.okG sc_law (fun vs H Q E h => ?_) (fun cdv A outer s H vs Q E hg hr h => ?_)
  · obtain ⟨a, ns, rfl, _⟩ := h
    rfl
  · obtain ⟨a, ns0, rfl, hS, hlen, fin⟩ := h
    have hu1 := hu_of hr
    have hu : (A.deeper (envOfC "law" (defScope s_law) s.heap.objs.size f cdv)).units + 128 < cLine := by
      have := hr.un
      omega
    have hu65 : (A.deeper (envOfC "law" (defScope s_law) s.heap.objs.size f cdv)).units + 65 < cLine := by omega
    have hr1 : Room 1 _ := hr.mono (by decide)
    have hr2 : Room 2 _ := hr.mono (by decide)
    have hr3 : Room 3 _ := hr.mono (by decide)
    have hr6 : Room 6 _ := hr.mono (by decide)
    refine ⟨_, (pss_cons (ps_set (i := 1) sc_law.nd rfl (Or.inl rfl) (pe_call G_deck hr1 rfl D_deck.g D_deck.F.kp D_deck.b .nil pass0 (pa_cons (pv 0) pa_nil)))
      (pss_cons (ps_for PassesOwn.never rfl (pi_range1 rfl T.range (pa_cons pe_int pa_nil)) (pg_name (i := 2) sc_law.nd rfl (Or.inl rfl))
        (pss_cons (ps_set (i := 3) sc_law.nd rfl (Or.inl rfl) (pe_call G_deep hr rfl D_deep.g D_deep.F.kp D_deep.b .nil pass0 (pa_cons (pv 1) (pa_cons (pe_op op_add pe_int (pe_call G_draw hr1 rfl D_draw.g D_draw.F.kp D_draw.b .nil pass0 (pa_cons (pv 1) (pa_cons pe_int pa_nil)))) pa_nil))))
        (pss_cons (ps_set (i := 4) sc_law.nd rfl (Or.inl rfl) (pe_call G_parts hr2 rfl D_parts.g D_parts.F.kp D_parts.b .nil pass0 (pa_cons (pv 3) pa_nil)))
        (pss_cons (ps_set (i := 5) sc_law.nd rfl (Or.inl rfl) (pe_callTy (call_dictP rfl) (by rfl) T.dict (by decide +kernel) (pa_cons (pe_lc (own := [("_law_path", 7), ("_law_part", 8)]) (g := (gTup K 2 (gCons (gName 7) (gCons (gName 8) gNil)))) (tt := tYes) (te := tTup (tCons (tCB rReprD (tCons (tVar 7) tNil)) (tCons (tVar 8) tNil))) rfl sc_law.nd (pi_list (pv 4)) (blkOk_by (N := NL) (sc := defScope s_law) (by decide +kernel))
          (fun _ _ _ _ _ => (pg_tup rfl (pgs_cons (pg_name (i := 7) sc_law.nd rfl (Or.inl rfl)) (pgs_cons (pg_name (i := 8) sc_law.nd rfl (Or.inl rfl)) pgs_nil)))) (fun _ _ _ _ _ => pts_nil) (fun _ _ _ _ _ => (pe_tup (pa_cons (pe_callB (call_reprD hg hu eS) (by rfl) T.repr (by decide +kernel) (pa_cons (pv 7) pa_nil)) (pa_cons (pv 8) pa_nil))))) pa_nil)))
        (pss_cons (ps_set (i := 6) sc_law.nd rfl (Or.inl rfl) (pe_op op_cat (pe_op op_cat (pe_call G_words hr1 rfl D_words.g D_words.F.kp D_words.b .nil pass0 (pa_cons (pd_tup (by decide) (pd_cons (pd_str (by decide) pe_str) (pd_cons (pd_tup (by decide) (pd_cons (pd_tup (by decide) (pd_cons (pd_str (by decide) pe_str) (pd_cons (pd_int pe_int) pd_nil))) pd_nil)) pd_nil))) pa_nil)) (pe_call G_words hr1 rfl D_words.g D_words.F.kp D_words.b .nil pass0 (pa_cons (pd_tup (by decide) (pd_cons (pd_str (by decide) pe_str) (pd_cons (pd_int pe_int) (pd_cons (pd_int pe_int) pd_nil)))) pa_nil))) (pd_lstN (by decide) (pd_cons (pd_tup (by decide) (pd_cons (pd_str (by decide) pe_str) pd_nil)) (pd_cons (pd_tup (by decide) (pd_cons (pd_str (by decide) pe_str) (pd_cons (pd_int pe_int) pd_nil))) pd_nil)))))
        (pss_cons (ps_set (i := 6) sc_law.nd rfl (Or.inl rfl) (pe_op op_cat (pe_op op_cat (pv 6) (pe_call G_words hr1 rfl D_words.g D_words.F.kp D_words.b .nil pass0 (pa_cons (pd_tup (by decide) (pd_cons (pd_str (by decide) pe_str) (pd_cons (pd_int pe_int) pd_nil))) pa_nil))) (pe_call G_words hr1 rfl D_words.g D_words.F.kp D_words.b .nil pass0 (pa_cons (pd_tup (by decide) (pd_cons (pd_str (by decide) pe_str) (pd_cons (pd_int pe_int) pd_nil))) pa_nil))))
        (pss_cons (ps_set (i := 6) sc_law.nd rfl (Or.inl rfl) (pe_op op_cat (pv 6) (pd_lstN (by decide) (pd_cons (pd_tup (by decide) (pd_cons (pd_str (by decide) pe_str) (pd_cons (pd_str (by decide) pe_str) (pd_cons (pd_int pe_int) pd_nil)))) (pd_cons (pd_tup (by decide) (pd_cons (pd_str (by decide) pe_str) (pd_cons (pd_str (by decide) pe_str) (pd_cons (pd_int pe_int) pd_nil)))) pd_nil)))))
        (pss_one (ps_for PassesOwn.never rfl (pi_list (pe_slice sl_list (pv 4) po_none (po_some pe_int))) (pg_tup rfl (pgs_cons (pg_name (i := 7) sc_law.nd rfl (Or.inl rfl)) (pgs_cons (pg_name (i := 8) sc_law.nd rfl (Or.inl rfl)) pgs_nil)))
          (pss_cons (ps_for PassesOwn.never rfl (pi_list (pe_op op_cat (pe_call G_words hr1 rfl D_words.g D_words.F.kp D_words.b .nil pass0 (pa_cons (pv 8) pa_nil)) (pe_lst (pa_cons (pe_call G_pick hr2 rfl D_pick.g D_pick.F.kp D_pick.b .nil pass0 (pa_cons (pv 1) (pa_cons (pv 6) pa_nil))) pa_nil)))) (pg_name (i := 9) sc_law.nd rfl (Or.inl rfl))
            (pss_one (ps_if (pt_cmpR op_ne (pe_callB (call_reprD hg hu eS) (by rfl) T.repr (by decide +kernel) (pa_cons (pe_call G_query hr6 rfl D_query.g D_query.F.kp D_query.b .nil pass0 (pa_cons (pv 3) (pa_cons (pe_op op_catA (pe_tup (pa_cons (pv 7) pa_nil)) (pv 9)) pa_nil))) pa_nil)) (pe_callB (call_reprD hg hu eS) (by rfl) T.repr (by decide +kernel) (pa_cons (pe_cmpR (op_inD hu65) (pv 9) (pe_call G_words hr1 rfl D_words.g D_words.F.kp D_words.b .nil pass0 (pa_cons (pv 8) pa_nil)) rfl) pa_nil)) (nomark _))
              (pss_one (ps_ret pe_bl))
              pss_nil)))
          (pss_one (ps_for PassesOwn.never rfl (pi_list (pe_call G_wrong hr3 rfl D_wrong.g D_wrong.F.kp D_wrong.b .nil pass0 (pa_cons (pv 1) (pa_cons (pv 7) pa_nil)))) (pg_name (i := 10) sc_law.nd rfl (Or.inl rfl))
            (pss_cons (ps_set (i := 9) sc_law.nd rfl (Or.inl rfl) (pe_call G_pick hr2 rfl D_pick.g D_pick.F.kp D_pick.b .nil pass0 (pa_cons (pv 1) (pa_cons (pe_op op_cat (pe_call G_words hr1 rfl D_words.g D_words.F.kp D_words.b .nil pass0 (pa_cons (pv 8) pa_nil)) (pv 6)) pa_nil))))
            (pss_cons (ps_set (i := 11) sc_law.nd rfl (Or.inl rfl) (pe_dget1 hu1 (pv 5) (pe_callB (call_reprD hg hu eS) (by rfl) T.repr (by decide +kernel) (pa_cons (pv 10) pa_nil)) ⟨rfl, rfl, rfl, rfl⟩))
            (pss_cons (ps_set (i := 12) sc_law.nd rfl (Or.inl rfl) (pe_and (pe_cmpR op_notN (pv 11) pe_non (nomark _)) (pe_one (pe_cmpR (op_inD hu65) (pv 9) (pe_call G_words hr1 rfl D_words.g D_words.F.kp D_words.b .nil pass0 (pa_cons (pv 11) pa_nil)) rfl))))
            (pss_one (ps_if (pt_cmpR op_ne (pe_callB (call_reprD hg hu eS) (by rfl) T.repr (by decide +kernel) (pa_cons (pe_call G_query hr6 rfl D_query.g D_query.F.kp D_query.b .nil pass0 (pa_cons (pv 3) (pa_cons (pe_op op_catA (pe_tup (pa_cons (pv 10) pa_nil)) (pv 9)) pa_nil))) pa_nil)) (pe_callB (call_reprD hg hu eS) (by rfl) T.repr (by decide +kernel) (pa_cons (pv 12) pa_nil)) (nomark _))
              (pss_one (ps_ret pe_bl))
              pss_nil)))))))))))))))))
      (pss_one (ps_ret pe_bl)))), ?_⟩
    refine ⟨_, rfl, a, ns0, rfl, hS, hlen, fun p q ms m H1 s1 np nq D1 => ?_⟩
    have K1 : Dk H1 p q 0 := ⟨ms, m, 0, D1, by decide⟩
    refine ⟨3, rfl, by decide, by decide, for_range (n := 3) (fun i σ Hx => ∃ (x2 x3 x4 x5 x6 x7 x8 x9 x10 x11 x12 : Option V), σ = [some (.ref a), some (.ref p), x2, x3, x4, x5, x6, x7, x8, x9, x10, x11, x12] ∧ Dk Hx p q (2000 * i)) ⟨none, none, none, none, none, none, none, none, none, none, none, rfl, K1⟩ ?_ ?_⟩
    · rintro i σ H2 hi ⟨x2, x3, x4, x5, x6, x7, x8, x9, x10, x11, x12, rfl, K2⟩
      obtain ⟨ds2, m2, c2, D2, hc2⟩ := K2
      refine ⟨_, rfl, _, rfl, p, q, ds2, m2, c2, 4, rfl, by decide, by decide, D2, by omega, fun so ds3 H3 so0 so1 O3 D3' => ?_⟩
      obtain ⟨j, rfl⟩ := nat_of so0
      have hj : j < 4 := by omega
      refine ⟨_, _, rfl, rfl, ⟨j, hj⟩, p, q, 2000 * i + 1, ?_, ⟨_, m2, _, D3', by omega⟩, by show 2000 * i + 1 + 10 * (j + 2) + 10 ≤ _; omega, fun v sp H4 O4 K4 dv4 hok hdp => ?_⟩
      · show [V.ref p, V.int (3 + (j : Nat))] = [V.ref p, V.int ((j + 2 + 1 : Nat) : Int)]
        rw [show (3 + ((j : Nat) : Int)) = ((j + 2 + 1 : Nat) : Int) by omega]
      have K4 : Dk H4 p q (2000 * i + 70) := K4.mono (by show 2000 * i + 1 + 10 * (j + 2) + 5 ≤ _; omega)
      have hdp : dpS sp ≤ 6 := Nat.le_trans hdp (by show j + 2 + 1 ≤ 6; omega)
      clear D2 D3' O3 O4
      -- its parts
      refine ⟨_, rfl, v, sp, rfl, dv4.same (hide_sub p q H4), hok, hdp, fun t xs ps H5 nt S5 ht dx hpl htrue hall => ?_⟩
      have K5 := K4.same S5
      have tne := K4.new nt
      have dv5 := dv4.same (hide_same (p := p) (q := q) S5)
      have hpn : noLs (ps.map pD) = true := noLs_iff.mpr fun d hd => by
        obtain ⟨r, hr', rfl⟩ := List.mem_map.mp hd
        exact pD_noL (htrue r hr')
      have hxl : xs.length = ps.length := by rw [dx.len, List.length_map]
      -- the dict
      refine ⟨_, rfl, t, rfl, ⟨_, SqL.of ht⟩, fun M nM => lc_list (K := K) (a := t) (xs := xs) (fun j Hz => DSt H5 M ps j Hz) (DSt.start nM) (fun j Hz _ h => SqL.of (h.1 _ _ ht)) ?_ ?_⟩
      · rintro j x Hz hj h
        obtain ⟨d, hd, dx1⟩ := dx.get hj
        rw [List.getElem?_map] at hd
        obtain ⟨r, hr', rfl⟩ := Option.map_eq_some_iff.mp hd
        have hrt := htrue r (List.mem_of_getElem? hr')
        have hjl := (List.getElem?_eq_some_iff.mp hr').1
        obtain ⟨ty, w1, w2, rfl, hty, dw1, dw2⟩ : ∃ (ty : Addr) (w1 w2 : V), x = .ref ty ∧ H5 ty = some (.tup [w1, w2]) ∧ Dat H5 w1 (.tuple r.1) ∧ Dat H5 w2 (dt r.2) := by
          cases dx1 with
          | @tup ty ws _ h0 h1 =>
            obtain ⟨w1, w2, rfl, d1, d2⟩ := dat2 h1
            exact ⟨ty, w1, w2, rfl, h0, d1, d2⟩
        obtain ⟨r1, r2, r3⟩ := wr_repr (pth_wr hok hdp hrt)
        refine ⟨ty, _, rfl, SqT.of (h.1 _ _ hty), rfl, _, _, rfl, _, _, rfl, rfl, rfl, ?_⟩
        dsimp only [tYes]
        refine if_t rfl ⟨_, rfl, w1, _, rfl, dw1.same h.1, r1, r2, r3, _, rfl, (by show 2 ≤ sizeLine; decide), fun T nT => ?_⟩
        obtain ⟨acc, e1, e2, h'⟩ := h.step (u := w2) nM hr' nT dw2
        exact ⟨acc, e1, (by rw [e2, sizeLine_eq]; omega), h'⟩
      · rintro H6 ⟨S6, as, kvs, hM, hal, hp, h1, h2⟩
        rw [hxl] at hal h2
        rw [List.take_length] at h2
        have hkl := paired_len hp
        refine ⟨M, as, kvs, rfl, SqL.of hM, paired_imp (fun x y e => SqT.of e) hp, fun kd nkd => ?_⟩
        have S7 := same_new (o := HO.dK (mergeK [] kvs)) nkd
        have hkd : upd H6 kd (.dK (mergeK [] kvs)) kd = some (.dK (mergeK [] kvs)) := upd_same
        have S57 := S6.trans S7
        generalize upd H6 kd (.dK (mergeK [] kvs)) = H7 at S57 hkd ⊢
        have K7 := K5.same S57
        have kdn : kd ≠ p ∧ kd ≠ q := (K5.same S6).new nkd
        have dv7 := dv5.same (hide_same (p := p) (q := q) S57)
        have hkd7 := hide_at hkd kdn.1 kdn.2
        have ht7 := hide_at (S57 _ _ ht) tne.1 tne.2
        have dx7 := (datAll_hide K5 dx hpn).same (hide_same (p := p) (q := q) S57)
        have kdA : ∀ k u, valV (mergeK [] kvs) k = some u → ∃ p' e, k = .inr (PyData.tuple p').shown ∧ partAt sp p' = some e ∧ Dat (hide p q H7) u (dt e) := fun k u hu' => by
          rcases merge_some kvs [] k u hu' with z | z
          · cases z
          · obtain ⟨r, hr', e1, e2⟩ := h1 _ z
            exact ⟨r.1, r.2, e1, htrue r hr', (dat_hide K5 e2 (dt_noL _)).same (hide_same S57)⟩
        have kdB : ∀ p' e, partAt sp p' = some e → valV (mergeK [] kvs) (.inr (PyData.tuple p').shown) ≠ none := fun p' e he => merge_there kvs [] _ (.inr (h2 (p', e) (hall p' e he)))
        clear hM hp h1 h2 S6 S7
        -- the words asked besides
        refine fun u1 H8 S8 du1 => ?_
        refine ⟨_, "word", [cntsD [("a", 2)]], [("a", 2)], rfl, du1, (fun _ => ⟨_, rfl⟩), by decide, (fun c hc => by rw [List.mem_singleton.mp hc]; decide), fun a1 xa1 H9 n1 S9 ha1 da1 => ?_⟩
        have L1 : Ls H9 a1 _ := ⟨xa1, ha1, da1⟩
        rw [wk_word] at L1
        refine fun u2 H10 S10 du2 => ?_
        refine ⟨_, "subset", _, [], rfl, du2, (fun z => absurd z (by decide +kernel)), by decide, (fun c hc => by cases hc), fun a2 xa2 H11 n2 S11 ha2 da2 => ?_⟩
        have L2 : Ls H11 a2 _ := ⟨xa2, ha2, da2⟩
        rw [wk_sub] at L2
        refine cat_of (L1.same (S10.trans S11)) L2 (by decide +kernel) fun a3 H12 n3 S12 L3 => ?_
        refine fun a4 xs4 H13 n4 S13 h4 d4 => ?_
        refine cat_of (L3.same S13) ⟨xs4, h4, d4⟩ (by decide +kernel) fun a5 H14 n5 S14 L5 => ?_
        have S714 := S8.trans (S9.trans (S10.trans (S11.trans (S12.trans (S13.trans S14)))))
        clear S8 S9 S10 S11 S12 S13 S14 L1 L2 L3 h4 d4 du1 du2
        refine ⟨_, rfl, fun u3 H15 S15 du3 => ?_⟩
        refine ⟨_, "cycle", _, [], rfl, du3, (fun z => absurd z (by decide +kernel)), by decide, (fun c hc => by cases hc), fun a6 xa6 H16 n6 S16 ha6 da6 => ?_⟩
        have L6 : Ls H16 a6 _ := ⟨xa6, ha6, da6⟩
        rw [wk_cyc] at L6
        refine cat_of (L5.same (S15.trans S16)) L6 (by decide +kernel) fun a7 H17 n7 S17 L7 => ?_
        refine fun u4 H18 S18 du4 => ?_
        refine ⟨_, "matching", _, [], rfl, du4, (fun z => absurd z (by decide +kernel)), by decide, (fun c hc => by cases hc), fun a8 xa8 H19 n8 S19 ha8 da8 => ?_⟩
        have L8 : Ls H19 a8 _ := ⟨xa8, ha8, da8⟩
        rw [wk_mat] at L8
        refine cat_of (L7.same (S18.trans S19)) L8 (by decide +kernel) fun a9 H20 n9 S20 L9 => ?_
        have S720 := S714.trans (S15.trans (S16.trans (S17.trans (S18.trans (S19.trans S20)))))
        clear S714 S15 S16 S17 S18 S19 S20 L5 L6 L7 L8 du3 du4
        refine ⟨_, rfl, fun a10 xs10 H21 n10 S21 h10 d10 => ?_⟩
        refine cat_of (L9.same S21) ⟨xs10, h10, d10⟩ (by decide +kernel) fun ev H22 nev S22 Lev => ?_
        have Lev : Ls H22 ev everyD := Lev
        have S722 := S720.trans (S21.trans S22)
        have evn := (K7.same (S720.trans S21)).new nev
        clear S720 S21 S22 L9 h10 d10
        have K22 := K7.same S722
        have hS := hide_same (p := p) (q := q) S722
        have kept : Kept (hide p q H22) sp v ev kd := {
          sp := dv7.same hS
          ev := by
            obtain ⟨ws, h, d⟩ := Lev
            exact ⟨ws, hide_at h evn.1 evn.2, datAll_hide K22 d every_len.2.2⟩
          kd := ⟨_, hS _ _ hkd7, (fun k u hu' => by
            obtain ⟨p', e, h1, h2, h3⟩ := kdA k u hu'
            exact ⟨p', e, h1, h2, h3.same hS⟩), kdB⟩ }
        have ht22 := hS _ _ ht7
        have dx22 := dx7.same hS
        clear hS dv7 hkd7 kdA kdB ht7 dx7 Lev hkd S722 S57
        -- the first sixty parts
        refine ⟨_, rfl, 60, rfl, t, xs, rfl, SqL.of (hide_sub _ _ _ _ _ ht22), fun sl nsl => ⟨sl, rfl, ⟨_, SqL.of upd_same⟩, ?_⟩⟩
        have e60 : cutV xs none (some 60) = xs.take 60 := cut_take (n := 60)
        rw [e60]
        have S23 := same_new (o := HO.lst (xs.take 60)) nsl
        have sln := K22.new nsl
        have hsl : upd H22 sl (.lst (xs.take 60)) sl = some (.lst (xs.take 60)) := upd_same
        generalize upd H22 sl (.lst (xs.take 60)) = H23 at S23 hsl ⊢
        have K23 := K22.same S23
        have kept := kept.same (hide_same (p := p) (q := q) S23)
        have hsl := hide_at hsl sln.1 sln.2
        have dx23 := (datAll_take 60 dx22).same (hide_same (p := p) (q := q) S23)
        have xl60 : (xs.take 60).length ≤ 60 := by rw [List.length_take]; omega
        refine for_list (K := K) (a := sl) (xs := xs.take 60) (fun i2 σ Hx => ∃ (x7 x8 x9 x10 x11 x12 : Option V), σ = [some (.ref a), some (.ref p), some (.int (0 + (i : Nat))), some v, some (.ref t), some (.ref kd), some (.ref ev), x7, x8, x9, x10, x11, x12] ∧ Dk Hx p q (2000 * i + 70 + 30 * i2) ∧ Kept (hide p q Hx) sp v ev kd ∧ hide p q Hx sl = some (.lst (xs.take 60)) ∧ DatAll (hide p q Hx) (xs.take 60) ((ps.map pD).take 60))
          ⟨_, _, _, _, _, _, rfl, K23, kept, hsl, dx23⟩ (fun i2 σ Hx _ ⟨_, _, _, _, _, _, _, _, _, h, _⟩ => SqL.of (hide_sub _ _ _ _ _ h)) ?_ ?_
        · clear kept hsl dx23 K23 S23 K22 ht22 dx22 K7 K5 ht dx dv4 dv5 xl60
          rintro i2 x σ Hx hi2 ⟨x7, x8, x9, x10, x11, x12, rfl, K3, kp, hsl, dxs⟩
          have hi60 : i2 < 60 := by
            have := (List.getElem?_eq_some_iff.mp hi2).1
            rw [List.length_take] at this
            omega
          obtain ⟨d, hd, dx1⟩ := dxs.get hi2
          rw [List.getElem?_take, if_pos hi60, List.getElem?_map] at hd
          obtain ⟨r, hr', rfl⟩ := Option.map_eq_some_iff.mp hd
          have hrt := htrue r (List.mem_of_getElem? hr')
          have hrp := path_pool hok hrt
          have hrl := (path_len hrt).1
          obtain ⟨ty, w1, w2, rfl, hty, dw1, dw2⟩ : ∃ (ty : Addr) (w1 w2 : V), x = .ref ty ∧ hide p q Hx ty = some (.tup [w1, w2]) ∧ Dat (hide p q Hx) w1 (.tuple r.1) ∧ Dat (hide p q Hx) w2 (dt r.2) := by
            cases dx1 with
            | @tup ty ws _ h0 h1 =>
              obtain ⟨w1, w2, rfl, d1, d2⟩ := dat2 h1
              exact ⟨ty, w1, w2, rfl, h0, d1, d2⟩
          obtain ⟨ds', e1, e2⟩ := dt_head r.2
          obtain ⟨cs1, cs2⟩ := cntC_small (clS r.2)
          obtain ⟨cw1, cw2, cw3, cw4⟩ := cl_words (clS r.2)
          refine ⟨ty, _, rfl, SqT.of (hide_sub _ _ _ _ _ hty), rfl, _, _, rfl, _, _, rfl, rfl, ?_⟩
          -- the words of the part, and one more
          refine ⟨_, rfl, w2, _, ds', cntC (clS r.2), rfl, by rw [← e1]; exact dw2.same (hide_sub p q Hx), e2, cs1, cs2, fun aw xw H4 naw S4 haw daw => ?_⟩
          have daw : DatAll H4 xw (wordsC (clS r.2)) := daw
          have K4 := K3.same S4
          have awn := K3.new naw
          obtain ⟨evs, hev, dev⟩ := (kp.same (hide_same (p := p) (q := q) S4)).ev
          have evn := hide_ne hev
          have hevl := dev.len
          refine ⟨_, rfl, _, rfl, ?_⟩
          refine pick_of (E := E0) K4 (hide_sub _ _ _ _ _ hev) evn.1 evn.2 (by rw [hevl]; exact every_len.2.1) (by rw [hevl]; exact Nat.le_trans every_len.1 (by decide)) (by omega) fun jy y H5 hy O5 K5 => ?_
          obtain ⟨dy, hdy, ty'⟩ := dev.get hy
          have dye : dy ∈ everyD := List.mem_of_getElem? hdy
          refine ⟨(by show 1 ≤ sizeLine; decide), fun lp nlp => ?_⟩
          have y1 := same_new (o := HO.lst [y]) nlp
          refine ⟨aw, lp, xw, [y], rfl, rfl, y1 _ _ (O5 _ _ haw awn.1 awn.2), upd_same, (by rw [daw.len, sizeLine_eq]; show _ + 1 ≤ _; omega), fun lw nlw => ?_⟩
          have y2 := same_new (o := HO.lst (xw ++ [y])) nlw
          have hlw : upd (upd H5 lp (.lst [y])) lw (.lst (xw ++ [y])) lw = some (.lst (xw ++ [y])) := upd_same
          have lwn := (K5.same y1).new nlw
          have S57 := y1.trans y2
          generalize upd (upd H5 lp (.lst [y])) lw (.lst (xw ++ [y])) = H7 at hlw S57 ⊢
          have hS7 : Same (hide p q Hx) (hide p q H7) := ((hide_same S4).trans (hide_off O5)).trans (hide_same S57)
          have K7 := K5.same S57
          have kp7 := kp.same hS7
          have dw17 := dw1.same hS7
          have dw27 := dw2.same hS7
          have hsl7 := hS7 _ _ hsl
          have dxs7 := dxs.same hS7
          have dlw : DatAll (hide p q H7) (xw ++ [y]) (wordsC (clS r.2) ++ [dy]) := (datAll_append ((datAll_hide K4 daw cw2).same (hide_off O5)) (.cons (ty'.same (hide_off O5)) .nil)).same (hide_same S57)
          have okw : ∀ wd ∈ wordsC (clS r.2) ++ [dy], AskOk wd := fun wd hwd => by
            rcases List.mem_append.mp hwd with h | h
            · exact ask_word h
            · rw [List.mem_singleton.mp h]
              exact ask_every dye
          clear y1 y2 K5 K4 haw daw hev dev ty' S4 O5 S57 hS7 kp dw1 dw2 hsl dxs hty dx1 K3
          refine ⟨lw, rfl, ⟨_, SqL.of hlw⟩, for_list (K := K) (a := lw) (xs := xw ++ [y]) (fun i3 σ Hz => ∃ (x9 : Option V), σ = [some (.ref a), some (.ref p), some (.int (0 + (i : Nat))), some v, some (.ref t), some (.ref kd), some (.ref ev), some w1, some w2, x9, x10, x11, x12] ∧ Same H7 Hz) ⟨_, rfl, Same.refl H7⟩ (fun i3 σ Hz _ ⟨_, _, S⟩ => SqL.of (S _ _ hlw)) ?_ ?_⟩
          · rintro i3 wv σ Hz hi3 ⟨x9, rfl, S7⟩
            obtain ⟨wd, hwd, twd⟩ := dlw.get hi3
            obtain ⟨qs, rfl, nl, sh, ql, hk⟩ := okw wd (List.mem_of_getElem? hwd)
            have twd := (twd.same (hide_sub p q H7)).same S7
            obtain ⟨bw, qv, rfl, hbw, dqv⟩ : ∃ bw qv, wv = .ref bw ∧ Hz bw = some (.tup qv) ∧ DatAll Hz qv qs := by
              cases twd with
              | tup h0 h1 => exact ⟨_, _, rfl, h0, h1⟩
            have d1z := (dw17.same (hide_sub p q H7)).same S7
            have d2z := (dw27.same (hide_sub p q H7)).same S7
            have dvz := (kp7.sp.same (hide_sub p q H7)).same S7
            refine ⟨_, rfl, _, rfl, (by show 1 ≤ sizeLine; decide), fun c1 nc1 => ⟨_, rfl, ?_⟩⟩
            have s1 := same_new (o := HO.tup [w1]) nc1
            refine catA_of upd_same (s1 _ _ hbw) (by rw [dqv.len, sizeLine_eq]; show 1 + _ ≤ _; omega) fun c2 Hc Sc hc2 => ?_
            have Szc := s1.trans Sc
            refine ⟨v, .ref c2, sp, .tuple (.tuple r.1 :: qs), rfl, dvz.same Szc, hok, .tup hc2 (.cons (d1z.same Szc) (dqv.same Szc)), fun Hd Sd => ?_⟩
            have eb : queryB sp (.tuple (.tuple r.1 :: qs)) = (wordsC (clS r.2)).any fun y => PyData.eqv y (.tuple qs) := by
              show (match partAt sp r.1 with | some e => askB e qs | none => false) = _
              rw [hrt, ← hk]
              exact askI_eq _ _
            rw [eb]
            have Szd := Szc.trans Sd
            refine ⟨.bl _, .bool _, rfl, .bl _, (bool_repr _).1, (bool_repr _).2.1, (bool_repr _).2.2, ?_⟩
            refine ⟨_, rfl, _, rfl, w2, _, ds', cntC (clS r.2), rfl, by rw [← e1]; exact d2z.same Szd, e2, cs1, cs2, fun a5 x5 He n5 S5 h5 d5 => ?_⟩
            have d5 : DatAll He x5 (wordsC (clS r.2)) := d5
            refine ⟨.tuple qs, wordsC (clS r.2), dat_dp (.tup ((Szd.trans S5) _ _ hbw) ((dqv.same Szd).same S5)) nl, .lst (SqL.of h5) (datAll_dp d5 cw2), sh, cw4, ?_⟩
            refine ⟨.bl _, .bool _, rfl, .bl _, (bool_repr _).1, (bool_repr _).2.1, (bool_repr _).2.2, ?_⟩
            refine ⟨rfl, _, rfl, ?_⟩
            refine if_f (by rw [decide_eq_true rfl]; rfl) ?_
            exact ⟨_, rfl, S7.trans (Szd.trans S5)⟩
          · rintro σ Hz ⟨x9, rfl, S7⟩
            have Kz := K7.same S7
            have hS := hide_same (p := p) (q := q) S7
            have hSl := hS _ _ hsl7
            have kpz := kp7.same hS
            have d1z := dw17.same hS
            have d2z := dw27.same hS
            have dxz := dxs7.same hS
            clear kp7 hsl7 dxs7 dw17 dw27 dlw okw hlw hS K7
            -- the paths that may be wrong
            refine ⟨_, rfl, _, rfl, p, q, _, w1, r.1, rfl, Kz, by omega, d1z, by omega, hrp, fun ao xo es H8 n8 O8 K8 h8 d8 l8 wr8 => ⟨ao, rfl, ⟨_, SqL.of h8⟩, ?_⟩⟩
            have aon := Kz.new n8
            have hS8 := hide_off O8
            have hS8l := hS8 _ _ hSl
            have kp8 := kpz.same hS8
            have d28 := d2z.same hS8
            have dx8 := dxz.same hS8
            have h8' := hide_at h8 aon.1 aon.2
            have xol : xo.length = 8 := by rw [d8.len, l8]
            refine for_list (K := K) (a := ao) (xs := xo) (fun i4 σ Hy => ∃ (x9 x10 x11 x12 : Option V), σ = [some (.ref a), some (.ref p), some (.int (0 + (i : Nat))), some v, some (.ref t), some (.ref kd), some (.ref ev), some w1, some w2, x9, x10, x11, x12] ∧ Dk Hy p q (2000 * i + 70 + 30 * i2 + 1 + 2 + i4) ∧ Same (hide p q H8) (hide p q Hy)) ⟨_, _, _, _, rfl, K8, Same.refl _⟩ (fun i4 σ Hy _ ⟨_, _, _, _, _, _, S⟩ => SqL.of (hide_sub _ _ _ _ _ (S _ _ h8'))) ?_ ?_
            · clear Kz hSl kpz d1z d2z dxz O8 K8 n8 hS8
              rintro i4 o σ Hy hi4 ⟨x9, x10, x11, x12, rfl, Ky, Sy⟩
              have hi8 : i4 < 8 := by
                have := (List.getElem?_eq_some_iff.mp hi4).1
                omega
              obtain ⟨eo, heo, dO⟩ := d8.get hi4
              have wo := wr8 eo (List.mem_of_getElem? heo)
              obtain ⟨o1, o2, o3⟩ := wr_repr wo
              have dO := dO.same Sy
              have d2y := d28.same Sy
              have kpy := kp8.same Sy
              refine ⟨_, rfl, _, rfl, w2, _, ds', cntC (clS r.2), rfl, by rw [← e1]; exact d2y.same (hide_sub p q Hy), e2, cs1, cs2, fun a6 x6 Ha n6 S6 h6 d6 => ?_⟩
              have d6 : DatAll Ha x6 (wordsC (clS r.2)) := d6
              obtain ⟨evs, hev, dev⟩ := (kpy.same (hide_same (p := p) (q := q) S6)).ev
              have hevl := dev.len
              have el := every_len
              have x6l := d6.len
              refine ⟨_, rfl, a6, ev, x6, evs, rfl, rfl, h6, hide_sub _ _ _ _ _ hev, (by rw [x6l, hevl, sizeLine_eq]; omega), fun a7 n7 => ?_⟩
              have K6 := Ky.same S6
              have a7n := K6.new n7
              have S67 := same_new (o := HO.lst (x6 ++ evs)) n7
              have h7 : upd Ha a7 (.lst (x6 ++ evs)) a7 = some (.lst (x6 ++ evs)) := upd_same
              generalize upd Ha a7 (.lst (x6 ++ evs)) = Hb at S67 h7 ⊢
              have dall : DatAll (hide p q Hb) (x6 ++ evs) (wordsC (clS r.2) ++ everyD) := (datAll_append (datAll_hide K6 d6 cw2) dev).same (hide_same S67)
              refine pick_of (E := E0) (K6.same S67) h7 a7n.1 a7n.2 (by rw [List.length_append, x6l, hevl]; omega) (by rw [List.length_append, x6l, hevl]; omega) (by omega) fun jy y H9 hy O9 K9 => ?_
              obtain ⟨wd, hwd, twd⟩ := dall.get hy
              have hask : AskOk wd := by
                rcases List.mem_append.mp (List.mem_of_getElem? hwd) with h | h
                · exact ask_word h
                · exact ask_every h
              obtain ⟨qs, rfl, nl, sh, ql, hk⟩ := hask
              have Sy9 : Same (hide p q Hy) (hide p q H9) := ((hide_same S6).trans (hide_same S67)).trans (hide_off O9)
              have twd := (twd.same (hide_off O9)).same (hide_sub p q H9)
              have S89 := Sy.trans Sy9
              have dO9 := (dO.same Sy9).same (hide_sub p q H9)
              have kp9 := kpy.same Sy9
              clear dall dev hev h6 d6 S6 S67 O9 h7 Sy9 dO kpy d2y K6 Ky
              obtain ⟨bw, qv, rfl, hbw, dqv⟩ : ∃ bw qv, y = .ref bw ∧ H9 bw = some (.tup qv) ∧ DatAll H9 qv qs := by
                cases twd with
                | tup h0 h1 => exact ⟨_, _, rfl, h0, h1⟩
              obtain ⟨kvs, hkd, kA, kB⟩ := kp9.kd
              have hkd := hide_sub _ _ _ _ _ hkd
              refine ⟨_, rfl, kd, rfl, .inl ⟨_, .inl hkd⟩, _, rfl, o, eo, rfl, dO9, o1, o2, o3, valV kvs (.inr eo.shown), .inl ⟨kvs, .inr eo.shown, .inl hkd, rfl, rfl⟩, ?_⟩
              cases hv : valV kvs (.inr eo.shown) with
              | none =>
                refine ⟨_, rfl, rfl, _, rfl, ?_⟩
                refine if_f (by show (!decide (V.non = V.non)) = false; rw [decide_eq_true rfl]; rfl) ?_
                have hqq : queryB sp (.tuple (eo :: qs)) = false := by
                  cases eo with
                  | tuple es =>
                    show (match partAt sp es with | some e => askB e qs | none => false) = false
                    cases hp : partAt sp es with
                    | none => rfl
                    | some e' => exact absurd hv (kB es e' hp)
                  | _ => rfl
                have SX := Same.refl H9
                refine ⟨_, rfl, _, rfl, (by show 1 ≤ sizeLine; decide), fun c1 nc1 => ⟨_, rfl, ?_⟩⟩
                have s1 := same_new (o := HO.tup [o]) nc1
                refine catA_of upd_same (s1 _ _ (SX _ _ hbw)) (by rw [dqv.len, sizeLine_eq]; show 1 + _ ≤ _; omega) fun c2 Hc Sc hc2 => ?_
                have Szc := SX.trans (s1.trans Sc)
                refine ⟨v, .ref c2, sp, .tuple (eo :: qs), rfl, (kp9.sp.same (hide_sub p q H9)).same Szc, hok, .tup hc2 (.cons (dO9.same Szc) (dqv.same Szc)), fun Hd Sd => ?_⟩
                rw [hqq]
                refine ⟨.bl _, .bool _, rfl, .bl _, (bool_repr _).1, (bool_repr _).2.1, (bool_repr _).2.2, ?_⟩
                refine ⟨_, rfl, .bl _, .bool _, rfl, .bl _, (bool_repr _).1, (bool_repr _).2.1, (bool_repr _).2.2, ?_⟩
                refine ⟨rfl, _, rfl, ?_⟩
                refine if_f (by rw [decide_eq_true rfl]; rfl) ?_
                have Sfin := Szc.trans Sd
                exact ⟨_, _, _, _, rfl, (K9.same Sfin).mono (by omega), S89.trans (hide_same Sfin)⟩
              | some u =>
                obtain ⟨p', e', hk1, hp', du⟩ := kA _ u hv
                injection hk1 with hk1
                have heq := (wr_codes wo (path_pool hok hp')).mp hk1
                subst heq
                have du := du.same (hide_sub p q H9)
                obtain ⟨ds2, f1, f2⟩ := dt_head e'
                obtain ⟨g1, g2⟩ := cntC_small (clS e')
                obtain ⟨w1', w2', w3', w4'⟩ := cl_words (clS e')
                obtain ⟨uu, rfl⟩ : ∃ uu, u = V.ref uu := by
                  rw [f1] at du
                  cases du
                  exact ⟨_, rfl⟩
                refine ⟨_, rfl, rfl, _, rfl, ?_⟩
                refine if_t (by show (!decide (V.ref uu = V.non)) = true; rw [decide_eq_false (fun z => by cases z)]; rfl) ?_
                refine ⟨_, rfl, _, rfl, .ref uu, _, ds2, cntC (clS e'), rfl, by rw [← f1]; exact du, f2, g1, g2, fun a5 x5 He n5 S5 h5 d5 => ?_⟩
                have d5 : DatAll He x5 (wordsC (clS e')) := d5
                refine ⟨.tuple qs, wordsC (clS e'), dat_dp (.tup (S5 _ _ hbw) (dqv.same S5)) nl, .lst (SqL.of h5) (datAll_dp d5 w2'), sh, w4', ?_⟩
                have hqq : queryB sp (.tuple (.tuple p' :: qs)) = (wordsC (clS e')).any fun y => PyData.eqv y (.tuple qs) := by
                  show (match partAt sp p' with | some e => askB e qs | none => false) = _
                  rw [hp', ← hk]
                  exact askI_eq _ _
                have SX := S5
                refine ⟨_, rfl, _, rfl, (by show 1 ≤ sizeLine; decide), fun c1 nc1 => ⟨_, rfl, ?_⟩⟩
                have s1 := same_new (o := HO.tup [o]) nc1
                refine catA_of upd_same (s1 _ _ (SX _ _ hbw)) (by rw [dqv.len, sizeLine_eq]; show 1 + _ ≤ _; omega) fun c2 Hc Sc hc2 => ?_
                have Szc := SX.trans (s1.trans Sc)
                refine ⟨v, .ref c2, sp, .tuple (.tuple p' :: qs), rfl, (kp9.sp.same (hide_sub p q H9)).same Szc, hok, .tup hc2 (.cons (dO9.same Szc) (dqv.same Szc)), fun Hd Sd => ?_⟩
                rw [hqq]
                refine ⟨.bl _, .bool _, rfl, .bl _, (bool_repr _).1, (bool_repr _).2.1, (bool_repr _).2.2, ?_⟩
                refine ⟨_, rfl, .bl _, .bool _, rfl, .bl _, (bool_repr _).1, (bool_repr _).2.1, (bool_repr _).2.2, ?_⟩
                refine ⟨rfl, _, rfl, ?_⟩
                refine if_f (by rw [decide_eq_true rfl]; rfl) ?_
                have Sfin := Szc.trans Sd
                exact ⟨_, _, _, _, rfl, (K9.same Sfin).mono (by omega), S89.trans (hide_same Sfin)⟩
            · rintro σ Hy ⟨x9, x10, x11, x12, rfl, Ky, Sy⟩
              rw [xol] at Ky
              exact ⟨_, _, _, _, _, _, rfl, Ky.mono (by omega), kp8.same Sy, Sy _ _ hS8l, dx8.same Sy⟩
        · rintro σ Hx ⟨x7, x8, x9, x10, x11, x12, rfl, K3, _⟩
          exact ⟨_, _, _, _, _, _, _, _, _, _, _, rfl, K3.mono (by omega)⟩
    · rintro σ Hx ⟨x2, x3, x4, x5, x6, x7, x8, x9, x10, x11, x12, rfl, K2⟩
      exact fin _
end
end KA
set_option maxRecDepth 100000
set_option maxHeartbeats 8000000
namespace KA
open PySem PySem.Spec PyProof.Rows L2
/-! ### everything put together -/
theorem def_mk {K : PySem.W.Frag} {h : Heap} {mg : Str → Option Value} {x : Str} {st : Stmt} {ps : List Str} {f : Addr} {oc : Value} {od an : Option Addr} {osl : Array (Option Value)} {kV doc pm cdv ct : Value} (X : K.In h) (G : h.Ns mainGlobals mg)
    (a : PySem.W.nsIn K mainGlobals x = some (some (.ref f))) (l : K.lookup f = some ⟨oc, od, .func (PySem.W.fnOf x x (defArgs st) (defBody st) (defScope st) .none kV doc pm an cdv ct), osl⟩) (c : PySem.W.codeIn K cdv x = true) (k : PySem.W.keepIn K (.ref f) = true)
    (hb : ∀ (kV doc pm : Value) (an : Option Addr) (cdv ct : Value) (us : List Value), us.length = ps.length → bindArgs (PySem.W.fnOf x x (defArgs st) (defBody st) (defScope st) .none kV doc pm an cdv ct) ⟨us, []⟩ = pure (ps.zip us)) :
    DefOk K mg x st ps f (PySem.W.fnOf x x (defArgs st) (defBody st) (defScope st) .none kV doc pm an cdv ct) := ⟨fun_mk l c k, (fun_mk l c k).binds hb, PySem.W.mg_of X G a⟩
def SC (a b c d e g : Addr) : Addr → Option Sp := fun x => if x = a then some (spQ (okSub 2 1) (subsetB 2 1)) else if x = b then some spWd else if x = c then some (spQ (okNum 2) (cycleB 2)) else if x = d then some (spQ (okNum 2) (treeB 2)) else if x = e then some (spQ (okNum 1) (matchB 1)) else if x = g then some (spQ (fun _ _ => True) choiceB) else none
theorem all_mk {l : PySem.W.OpenLaw} {w : World} {K : PySem.W.Frag} {h : Heap} {mg : Str → Option Value} {fa dC f_isint f_btw f_tup f_next f_part f_quest f_takes f_asub f_awd f_acyc f_amat f_atree f_acho f_query f_deck f_draw f_pick f_few f_deep f_words f_nested f_parts f_wrong f_law : Addr} {d_isint d_btw d_tup d_next d_part d_quest d_takes d_asub d_awd d_acyc d_amat d_atree d_acho d_query d_deck d_draw d_pick d_few d_deep d_words d_nested d_parts d_wrong d_law : FuncData} {esC : Array DictEntry} {mC : Nat} (X : K.In h) (G : h.Ns mainGlobals mg) (hfa : mg "law" = some (.ref fa))
    (n0 : PySem.W.nsIn K mainGlobals "isinstance" = some none)
    (n1 : PySem.W.nsIn K mainGlobals "int" = some none)
    (n2 : PySem.W.nsIn K mainGlobals "bool" = some none)
    (n3 : PySem.W.nsIn K mainGlobals "str" = some none)
    (n4 : PySem.W.nsIn K mainGlobals "tuple" = some none)
    (n5 : PySem.W.nsIn K mainGlobals "len" = some none)
    (n6 : PySem.W.nsIn K mainGlobals "list" = some none)
    (n7 : PySem.W.nsIn K mainGlobals "range" = some none)
    (n8 : PySem.W.nsIn K mainGlobals "repr" = some none)
    (n9 : PySem.W.nsIn K mainGlobals "all" = some none)
    (n10 : PySem.W.nsIn K mainGlobals "any" = some none)
    (n11 : PySem.W.nsIn K mainGlobals "zip" = some none)
    (n12 : PySem.W.nsIn K mainGlobals "sum" = some none)
    (n13 : PySem.W.nsIn K mainGlobals "enumerate" = some none)
    (n14 : PySem.W.nsIn K mainGlobals "dict" = some none)
    (eS : PySem.W.nsIn K cStatics "sys.int_max_str_digits" = some none)
    (o_isint : DefOk K mg "is_integer" sIsInt ["value"] f_isint d_isint)
    (o_btw : DefOk K mg "is_between" sBtw ["value", "low", "high"] f_btw d_btw)
    (o_tup : DefOk K mg "is_tuple" sTup ["value", "least", "most"] f_tup d_tup)
    (o_next : DefOk K mg "next_part" s_next ["part", "step"] f_next d_next)
    (o_part : DefOk K mg "part_at" s_part ["space", "path"] f_part d_part)
    (o_quest : DefOk K mg "is_question" s_quest ["part", "question"] f_quest d_quest)
    (o_takes : DefOk K mg "takes_index" s_takes ["tops", "word", "arguments"] f_takes d_takes)
    (o_asub : DefOk K mg "asks_subset" s_asubset ["part", "word", "arguments"] f_asub d_asub)
    (o_awd : DefOk K mg "asks_word" s_aword ["part", "word", "arguments"] f_awd d_awd)
    (o_acyc : DefOk K mg "asks_cycle" s_acycle ["part", "word", "arguments"] f_acyc d_acyc)
    (o_amat : DefOk K mg "asks_matching" s_amatch ["part", "word", "arguments"] f_amat d_amat)
    (o_atree : DefOk K mg "asks_tree" s_atree ["part", "word", "arguments"] f_atree d_atree)
    (o_acho : DefOk K mg "asks_choice" s_achoice ["part", "word", "arguments"] f_acho d_acho)
    (o_query : DefOk K mg "is_query" s_query ["space", "value"] f_query d_query)
    (o_deck : DefOk K mg "_law_deck" sDeck ["_law_script"] f_deck d_deck)
    (o_draw : DefOk K mg "_law_draw" sDraw ["_law_deck_here", "_law_bound"] f_draw d_draw)
    (o_pick : DefOk K mg "_law_pick" sPick ["_law_deck_here", "_law_items"] f_pick d_pick)
    (o_few : DefOk K mg "_law_few" s_few ["_law_deck_here"] f_few d_few)
    (o_deep : DefOk K mg "_law_deep" s_deep ["_law_deck_here", "_law_depth"] f_deep d_deep)
    (o_words : DefOk K mg "_law_words" s_words ["_law_part"] f_words d_words)
    (o_nested : DefOk K mg "_law_nested" s_nested ["_law_part"] f_nested d_nested)
    (o_parts : DefOk K mg "_law_parts" s_parts ["_law_space"] f_parts d_parts)
    (o_wrong : DefOk K mg "_law_wrong_paths" s_wrong ["_law_deck_here", "_law_path"] f_wrong d_wrong)
    (o_law : DefOk K mg "law" s_law ["_law_script"] f_law d_law)
    (gC : PySem.W.nsIn K mainGlobals "CHECKS" = some (some (.ref dC)))
    (aC : K.lookup dC = some ⟨.type "dict", none, .dict esC mC, #[]⟩)
    (kC : PySem.W.KeysLit w.params esC.toList)
    (wC : (dC == sysModules) = false)
    (r1 : PySem.W.nsIn K dC "subset" = some (some (.ref f_asub)))
    (r2 : PySem.W.nsIn K dC "word" = some (some (.ref f_awd)))
    (r3 : PySem.W.nsIn K dC "cycle" = some (some (.ref f_acyc)))
    (r4 : PySem.W.nsIn K dC "tree" = some (some (.ref f_atree)))
    (r5 : PySem.W.nsIn K dC "matching" = some (some (.ref f_amat)))
    (r6 : PySem.W.nsIn K dC "choice" = some (some (.ref f_acho)))
    (r7 : PySem.W.nsIn K dC "decorated" = some (some (.ref f_awd)))
    (m1 : PySem.W.nsIn K dC "product" = some none)
    (m2 : PySem.W.nsIn K dC "power" = some none)
    (nd : [f_asub, f_awd, f_acyc, f_atree, f_amat, f_acho].Nodup)
    (hbind : ∀ (s : Shared) (u : Value), BindsTo s d_law ⟨[u], []⟩ [("_law_script", u)]) :
    ∃ fd : FuncData, (∀ (s : Shared) (u : Value), BindsTo s fd ⟨[u], []⟩ [("_law_script", u)]) ∧ ∀ base : Heap, K.In base → base.Ns mainGlobals mg → FnG l.prog w K mg base 10 fa fd ["_law_script"] (spLaw K) := by
  have e := hfa.symm.trans o_law.g
  cases e
  have T : Nm mg := ⟨PySem.W.mg_none_of X G n0, PySem.W.mg_none_of X G n1, PySem.W.mg_none_of X G n2, PySem.W.mg_none_of X G n3, PySem.W.mg_none_of X G n4, PySem.W.mg_none_of X G n5, PySem.W.mg_none_of X G n6, PySem.W.mg_none_of X G n7, PySem.W.mg_none_of X G n8, PySem.W.mg_none_of X G n9, PySem.W.mg_none_of X G n10, PySem.W.mg_none_of X G n11, PySem.W.mg_none_of X G n12, PySem.W.mg_none_of X G n13, PySem.W.mg_none_of X G n14⟩
  refine ⟨d_law, hbind, fun base _ _ => ?_⟩
  simp only [List.nodup_cons, List.mem_cons, List.not_mem_nil, or_false, not_or] at nd
  obtain ⟨⟨n12, n13, n14, n15, n16⟩, ⟨n23, n24, n25, n26⟩, ⟨n34, n35, n36⟩, ⟨n45, n46⟩, n56, _⟩ := nd
  have GB : FnOk l.prog w K mg base CX0 2 f_btw d_btw ["value", "low", "high"] spBtw := ok_btw o_btw.F T o_isint
  have GN : FnOk l.prog w K mg base CX0 3 f_next d_next ["part", "step"] spNext := ok_next o_next.F T o_tup o_btw GB
  have GP : FnOk l.prog w K mg base CX0 4 f_part d_part ["space", "path"] spPart := ok_part o_part.F T o_next GN
  have GT : FnOk l.prog w K mg base CX0 3 f_takes d_takes ["tops", "word", "arguments"] spTakes := ok_takes o_takes.F T o_btw GB
  have H1 : FnOk l.prog w K mg base CX0 4 f_asub d_asub ["part", "word", "arguments"] (spQ (okSub 2 1) (subsetB 2 1)) := ok_asubset o_asub.F o_takes GT
  have H2 : FnOk l.prog w K mg base CX0 4 f_awd d_awd ["part", "word", "arguments"] spWd := fn_ex fun cs : { cs : Cn // cs.length ≤ 100 } => ok_aword o_awd.F T o_takes GT o_btw GB cs.2
  have H3 : FnOk l.prog w K mg base CX0 4 f_acyc d_acyc ["part", "word", "arguments"] (spQ (okNum 2) (cycleB 2)) := ok_acycle o_acyc.F o_takes GT
  have H4 : FnOk l.prog w K mg base CX0 4 f_atree d_atree ["part", "word", "arguments"] (spQ (okNum 2) (treeB 2)) := ok_atree o_atree.F o_takes GT
  have H5 : FnOk l.prog w K mg base CX0 4 f_amat d_amat ["part", "word", "arguments"] (spQ (okNum 1) (matchB 1)) := ok_amatch o_amat.F o_takes GT (by decide)
  have H6 : FnOk l.prog w K mg base CX0 4 f_acho d_acho ["part", "word", "arguments"] (spQ (fun _ _ => True) choiceB) := ok_achoice o_acho.F T
  have Z : Chk l.prog w K mg base dC (SC f_asub f_awd f_acyc f_atree f_amat f_acho) := {
    g := PySem.W.mg_of X G gC
    k := ⟨_, _, aC, kC, wC⟩
    n1 := m1
    n2 := m2
    s1 := ⟨_, r1, by unfold SC; rw [if_pos rfl]⟩
    s2 := ⟨_, r2, by unfold SC; rw [if_neg (Ne.symm n12), if_pos rfl]⟩
    s3 := ⟨_, r3, by unfold SC; rw [if_neg (Ne.symm n13), if_neg (Ne.symm n23), if_pos rfl]⟩
    s4 := ⟨_, r4, by unfold SC; rw [if_neg (Ne.symm n14), if_neg (Ne.symm n24), if_neg (Ne.symm n34), if_pos rfl]⟩
    s5 := ⟨_, r5, by unfold SC; rw [if_neg (Ne.symm n15), if_neg (Ne.symm n25), if_neg (Ne.symm n35), if_neg (Ne.symm n45), if_pos rfl]⟩
    s6 := ⟨_, r6, by unfold SC; rw [if_neg (Ne.symm n16), if_neg (Ne.symm n26), if_neg (Ne.symm n36), if_neg (Ne.symm n46), if_neg (Ne.symm n56), if_pos rfl]⟩
    s7 := ⟨_, r7, by unfold SC; rw [if_neg (Ne.symm n12), if_pos rfl]⟩
    held := fun f sp hs => by
      unfold SC at hs
      by_cases h0 : f = f_asub
      · rw [if_pos h0] at hs
        cases hs
        rw [h0]
        exact ⟨_, _, H1, o_asub.F.kp, o_asub.b⟩
      rw [if_neg h0] at hs
      by_cases h1 : f = f_awd
      · rw [if_pos h1] at hs
        cases hs
        rw [h1]
        exact ⟨_, _, H2, o_awd.F.kp, o_awd.b⟩
      rw [if_neg h1] at hs
      by_cases h2 : f = f_acyc
      · rw [if_pos h2] at hs
        cases hs
        rw [h2]
        exact ⟨_, _, H3, o_acyc.F.kp, o_acyc.b⟩
      rw [if_neg h2] at hs
      by_cases h3 : f = f_atree
      · rw [if_pos h3] at hs
        cases hs
        rw [h3]
        exact ⟨_, _, H4, o_atree.F.kp, o_atree.b⟩
      rw [if_neg h3] at hs
      by_cases h4 : f = f_amat
      · rw [if_pos h4] at hs
        cases hs
        rw [h4]
        exact ⟨_, _, H5, o_amat.F.kp, o_amat.b⟩
      rw [if_neg h4] at hs
      by_cases h5 : f = f_acho
      · rw [if_pos h5] at hs
        cases hs
        rw [h5]
        exact ⟨_, _, H6, o_acho.F.kp, o_acho.b⟩
      rw [if_neg h5] at hs
      cases hs }
  have GQ : FnOk l.prog w K mg base CX0 5 f_quest d_quest ["part", "question"] spQuest := ok_quest o_quest.F T Z
  have GY : FnOk l.prog w K mg base CX0 6 f_query d_query ["space", "value"] spQuery := ok_query o_query.F T o_part GP o_quest GQ
  have GK : FnOk l.prog w K mg base CX0 2 f_pick d_pick ["_law_deck_here", "_law_items"] spPick := ok_pick o_pick.F T o_draw.F o_draw.b o_draw.g
  have GF : FnOk l.prog w K mg base CX0 3 f_few d_few ["_law_deck_here"] spFew := ok_few o_few.F o_pick GK
  have GD : FnOk l.prog w K mg base CX0 9 f_deep d_deep ["_law_deck_here", "_law_depth"] spDeepAny := fn_ex fun n : Fin 4 => (okl_deep o_deep.F o_deep.b o_deep.g T o_few GF o_draw (n.1 + 2)).mono (by omega)
  have GW : FnOk l.prog w K mg base CX0 1 f_words d_words ["_law_part"] spWords := ok_words o_words.F T
  have GE : FnOk l.prog w K mg base CX0 1 f_nested d_nested ["_law_part"] spNested := ok_nested o_nested.F T
  have GA : FnOk l.prog w K mg base CX0 2 f_parts d_parts ["_law_space"] spParts := ok_parts o_parts.F T o_nested GE
  have GX : FnOk l.prog w K mg base CX0 3 f_wrong d_wrong ["_law_deck_here", "_law_path"] spWrong := ok_wrong o_wrong.F T o_pick GK o_draw
  exact ok_law o_law.F T eS o_deck o_draw o_pick o_deep o_parts o_words o_wrong o_query GK GD GA GW GX GY
theorem law_sp (K : PySem.W.Frag) (H : Hp) (a : Addr) (ns : List Int) (hl : ns.length ≤ 63) (_ : Only H) (hS : SqL K H a (ns.map V.int)) : spLaw K [.ref a] H (fun v _ => v = .bl true) fun _ _ _ => False := ⟨a, ns, rfl, hS, hl, fun _ => rfl⟩
end KA
open PySem PySem.W PyProof.Rows
set_option maxRecDepth 100000 in
set_option maxHeartbeats 0 in
theorem PySem.Challenge.cw_undrawn_k10_paths_through_nested_spaces_holds : PySem.Challenge.rw_undrawn_k10_paths_through_nested_spaces.Holds := by
  w_on; o_law; k_head; (case hw => w_witness2)
  k_fill
  refine L2.walk_G (l := PySem.Challenge.rw_undrawn_k10_paths_through_nested_spaces) (n := 63) (k := 10) (x := "_law_script") (sp := KA.spLaw) rfl (by decide) rfl ⟨rfl, by decide, by decide⟩ (fun w h Y => PySem.W.kIn_of Y) ?F KA.law_sp
  case F =>
    intro w mg fa h KX G hmg
    refine' KA.all_mk KX G hmg ?n0 ?n1 ?n2 ?n3 ?n4 ?n5 ?n6 ?n7 ?n8 ?n9 ?n10 ?n11 ?n12 ?n13 ?n14 ?eS ?o_isint ?o_btw ?o_tup ?o_next ?o_part ?o_quest ?o_takes ?o_asub ?o_awd ?o_acyc ?o_amat ?o_atree ?o_acho ?o_query ?o_deck ?o_draw ?o_pick ?o_few ?o_deep ?o_words ?o_nested ?o_parts ?o_wrong ?o_law ?gC ?aC ?kC ?wC ?r1 ?r2 ?r3 ?r4 ?r5 ?r6 ?r7 ?m1 ?m2 ?nd ?hbind
    (case n0 => k_is)
    (case n1 => k_is)
    (case n2 => k_is)
    (case n3 => k_is)
    (case n4 => k_is)
    (case n5 => k_is)
    (case n6 => k_is)
    (case n7 => k_is)
    (case n8 => k_is)
    (case n9 => k_is)
    (case n10 => k_is)
    (case n11 => k_is)
    (case n12 => k_is)
    (case n13 => k_is)
    (case n14 => k_is)
    (case eS => k_is)
    (case o_isint => refine' KA.def_mk KX G ?a ?l ?c ?k (fun _ _ _ _ _ _ us hl => match us, hl with | [_], _ => rfl); (case a => k_is); (case l => k_is); (case c => k_is); (case k => k_is))
    (case o_btw => refine' KA.def_mk KX G ?a ?l ?c ?k (fun _ _ _ _ _ _ us hl => match us, hl with | [_, _, _], _ => rfl); (case a => k_is); (case l => k_is); (case c => k_is); (case k => k_is))
    (case o_tup => refine' KA.def_mk KX G ?a ?l ?c ?k (fun _ _ _ _ _ _ us hl => match us, hl with | [_, _, _], _ => rfl); (case a => k_is); (case l => k_is); (case c => k_is); (case k => k_is))
    (case o_next => refine' KA.def_mk KX G ?a ?l ?c ?k (fun _ _ _ _ _ _ us hl => match us, hl with | [_, _], _ => rfl); (case a => k_is); (case l => k_is); (case c => k_is); (case k => k_is))
    (case o_part => refine' KA.def_mk KX G ?a ?l ?c ?k (fun _ _ _ _ _ _ us hl => match us, hl with | [_, _], _ => rfl); (case a => k_is); (case l => k_is); (case c => k_is); (case k => k_is))
    (case o_quest => refine' KA.def_mk KX G ?a ?l ?c ?k (fun _ _ _ _ _ _ us hl => match us, hl with | [_, _], _ => rfl); (case a => k_is); (case l => k_is); (case c => k_is); (case k => k_is))
    (case o_takes => refine' KA.def_mk KX G ?a ?l ?c ?k (fun _ _ _ _ _ _ us hl => match us, hl with | [_, _, _], _ => rfl); (case a => k_is); (case l => k_is); (case c => k_is); (case k => k_is))
    (case o_asub => refine' KA.def_mk KX G ?a ?l ?c ?k (fun _ _ _ _ _ _ us hl => match us, hl with | [_, _, _], _ => rfl); (case a => k_is); (case l => k_is); (case c => k_is); (case k => k_is))
    (case o_awd => refine' KA.def_mk KX G ?a ?l ?c ?k (fun _ _ _ _ _ _ us hl => match us, hl with | [_, _, _], _ => rfl); (case a => k_is); (case l => k_is); (case c => k_is); (case k => k_is))
    (case o_acyc => refine' KA.def_mk KX G ?a ?l ?c ?k (fun _ _ _ _ _ _ us hl => match us, hl with | [_, _, _], _ => rfl); (case a => k_is); (case l => k_is); (case c => k_is); (case k => k_is))
    (case o_amat => refine' KA.def_mk KX G ?a ?l ?c ?k (fun _ _ _ _ _ _ us hl => match us, hl with | [_, _, _], _ => rfl); (case a => k_is); (case l => k_is); (case c => k_is); (case k => k_is))
    (case o_atree => refine' KA.def_mk KX G ?a ?l ?c ?k (fun _ _ _ _ _ _ us hl => match us, hl with | [_, _, _], _ => rfl); (case a => k_is); (case l => k_is); (case c => k_is); (case k => k_is))
    (case o_acho => refine' KA.def_mk KX G ?a ?l ?c ?k (fun _ _ _ _ _ _ us hl => match us, hl with | [_, _, _], _ => rfl); (case a => k_is); (case l => k_is); (case c => k_is); (case k => k_is))
    (case o_query => refine' KA.def_mk KX G ?a ?l ?c ?k (fun _ _ _ _ _ _ us hl => match us, hl with | [_, _], _ => rfl); (case a => k_is); (case l => k_is); (case c => k_is); (case k => k_is))
    (case o_deck => refine' KA.def_mk KX G ?a ?l ?c ?k (fun _ _ _ _ _ _ us hl => match us, hl with | [_], _ => rfl); (case a => k_is); (case l => k_is); (case c => k_is); (case k => k_is))
    (case o_draw => refine' KA.def_mk KX G ?a ?l ?c ?k (fun _ _ _ _ _ _ us hl => match us, hl with | [_, _], _ => rfl); (case a => k_is); (case l => k_is); (case c => k_is); (case k => k_is))
    (case o_pick => refine' KA.def_mk KX G ?a ?l ?c ?k (fun _ _ _ _ _ _ us hl => match us, hl with | [_, _], _ => rfl); (case a => k_is); (case l => k_is); (case c => k_is); (case k => k_is))
    (case o_few => refine' KA.def_mk KX G ?a ?l ?c ?k (fun _ _ _ _ _ _ us hl => match us, hl with | [_], _ => rfl); (case a => k_is); (case l => k_is); (case c => k_is); (case k => k_is))
    (case o_deep => refine' KA.def_mk KX G ?a ?l ?c ?k (fun _ _ _ _ _ _ us hl => match us, hl with | [_, _], _ => rfl); (case a => k_is); (case l => k_is); (case c => k_is); (case k => k_is))
    (case o_words => refine' KA.def_mk KX G ?a ?l ?c ?k (fun _ _ _ _ _ _ us hl => match us, hl with | [_], _ => rfl); (case a => k_is); (case l => k_is); (case c => k_is); (case k => k_is))
    (case o_nested => refine' KA.def_mk KX G ?a ?l ?c ?k (fun _ _ _ _ _ _ us hl => match us, hl with | [_], _ => rfl); (case a => k_is); (case l => k_is); (case c => k_is); (case k => k_is))
    (case o_parts => refine' KA.def_mk KX G ?a ?l ?c ?k (fun _ _ _ _ _ _ us hl => match us, hl with | [_], _ => rfl); (case a => k_is); (case l => k_is); (case c => k_is); (case k => k_is))
    (case o_wrong => refine' KA.def_mk KX G ?a ?l ?c ?k (fun _ _ _ _ _ _ us hl => match us, hl with | [_, _], _ => rfl); (case a => k_is); (case l => k_is); (case c => k_is); (case k => k_is))
    (case o_law => refine' KA.def_mk KX G ?a ?l ?c ?k (fun _ _ _ _ _ _ us hl => match us, hl with | [_], _ => rfl); (case a => k_is); (case l => k_is); (case c => k_is); (case k => k_is))
    (case gC => k_is)
    (case aC => k_is)
    (case kC => k_keys)
    (case wC => decide)
    (case r1 => k_is)
    (case r2 => k_is)
    (case r3 => k_is)
    (case r4 => k_is)
    (case r5 => k_is)
    (case r6 => k_is)
    (case r7 => k_is)
    (case m1 => k_is)
    (case m2 => k_is)
    (case nd => decide)
    (case hbind => exact fun s u => .of_eq rfl)
