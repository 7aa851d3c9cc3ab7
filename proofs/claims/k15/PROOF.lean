import PyProof.Rows.All
import Wide.All
import OpenK.AllK
import Wide.FinOn
import HandS.ForMost
import HandS.Style
import HandS.Codes
import HandS.Comp
import HandS.Iter
import HandS.Walk
import HandS.Text
import HandS.Zip
import HandS.IsInst
import HandS.TupAny
import KE.DataCmp
import PyProof.EqKinds
import HandS.Strs
import HandS.More
import HandS.CallLocal
import HandS.Wide
import HandS.WideBits
import KE.KMathGC
import HandS.Gcd
import HandS.Defaults
import HandS.Conv
import KE.DatumOrd
import HandS.TupLen
import PyProof.Rows.Digits
import HandS.TryMany
import HandS.ExcOwn
import HandS.WordsExc
import PyProof.ReprBulk
import PyProof.Rows.IntBool
import PyProof.Rows.EqBoolInt
import KE.KIntText
import HandS.FStr
import HandS.RaiseMore
import HandS.Small
import HandS.Deep
import HandS.Dict
import PyProof.Rows.BitMore
import HandS.TupMul
import PySem.Challenge.RW_undrawn_k15_queries_at_the_limits
set_option Elab.async false
set_option linter.all false
set_option maxRecDepth 100000
set_option maxHeartbeats 4000000
namespace KF
open PySem PySem.Spec PyProof.Rows L2
/-! ### the text by places -/
def top (i : Nat) : Stmt := PySem.Challenge.pw_undrawn_k15_queries_at_the_limits.main.body.getD i (.Pass ⟨0, 0, 0, 0⟩)
/-! ### any value that is made of None, bools, ints, texts, tuples, lists, empty dicts -/
mutual
inductive Dat (H : Hp) : V → PyData → Prop
  | non : Dat H .non .none
  | bl (b : Bool) : Dat H (.bl b) (.bool b)
  | int (i : Int) : Dat H (.int i) (.int i)
  | str (x : Str) : x.length ≤ 1000 → Dat H (.str x) (.str x)
  | lst {a : Addr} {xs : List V} {ds : List PyData} : H a = some (.lst xs) → DatAll H xs ds → Dat H (.ref a) (.list ds)
  | tup {a : Addr} {xs : List V} {ds : List PyData} : H a = some (.tup xs) → DatAll H xs ds → Dat H (.ref a) (.tuple ds)
  | d0 {a : Addr} : H a = some (.dK []) → Dat H (.ref a) (.dict [])
inductive DatAll (H : Hp) : List V → List PyData → Prop
  | nil : DatAll H [] []
  | cons {v : V} {vs : List V} {d : PyData} {ds : List PyData} : Dat H v d → DatAll H vs ds → DatAll H (v :: vs) (d :: ds)
end
mutual
theorem Dat.same {H H' : Hp} (S : Same H H') : ∀ {v : V} {d : PyData}, Dat H v d → Dat H' v d
  | _, _, .non => .non
  | _, _, .bl b => .bl b
  | _, _, .int i => .int i
  | _, _, .str x h => .str x h
  | _, _, .lst h t => .lst (S _ _ h) (DatAll.same S t)
  | _, _, .tup h t => .tup (S _ _ h) (DatAll.same S t)
  | _, _, .d0 h => .d0 (S _ _ h)
theorem DatAll.same {H H' : Hp} (S : Same H H') : ∀ {vs : List V} {ds : List PyData}, DatAll H vs ds → DatAll H' vs ds
  | _, _, .nil => .nil
  | _, _, .cons h t => .cons (Dat.same S h) (DatAll.same S t)
end
theorem DatAll.len {H : Hp} : ∀ {vs : List V} {ds : List PyData}, DatAll H vs ds → vs.length = ds.length
  | _, _, .nil => rfl
  | _, _, .cons _ t => congrArg (· + 1) (DatAll.len t)
theorem DatAll.get {H : Hp} : ∀ {xs : List V} {ds : List PyData} {j : Nat} {x : V}, DatAll H xs ds → xs[j]? = some x → ∃ d, ds[j]? = some d ∧ Dat H x d
  | _, _, _, _, .nil, e => by simp at e
  | _, _, 0, _, .cons t _, e => by
    simp at e
    subst e
    exact ⟨_, rfl, t⟩
  | _, _, j + 1, x, .cons _ ts, e => by
    obtain ⟨d, h1, h2⟩ := DatAll.get (j := j) (x := x) ts (by simpa using e)
    exact ⟨d, by simpa using h1, h2⟩
theorem DatAll.at {H : Hp} : ∀ {xs : List V} {ds : List PyData} {j : Nat} {d : PyData}, DatAll H xs ds → ds[j]? = some d → ∃ x, xs[j]? = some x ∧ Dat H x d
  | _, _, _, _, .nil, e => by simp at e
  | _, _, 0, _, .cons t _, e => by
    simp at e
    subst e
    exact ⟨_, rfl, t⟩
  | _, _, j + 1, x, .cons _ ts, e => by
    obtain ⟨d, h1, h2⟩ := DatAll.at (j := j) (d := x) ts (by simpa using e)
    exact ⟨d, by simpa using h1, h2⟩
/-- the type's name -/
def tyD : PyData → String
  | .none => "NoneType"
  | .bool _ => "bool"
  | .int _ => "int"
  | .str _ => "str"
  | .list _ => "list"
  | .tuple _ => "tuple"
  | .dict _ => "dict"
theorem Dat.ty {K : PySem.W.Frag} {H : Hp} {v : V} {d : PyData} (h : Dat H v d) : TyX K H v (.type (tyD d)) := by
  cases h with
  | non => exact .base .non
  | bl b => exact .base (.bl b)
  | int i => exact .base (.int i)
  | str x _ => exact .base (.str x)
  | lst h _ => exact .base (.lst h)
  | tup h _ => exact .base (.tup h)
  | d0 h => exact .base (.dK h)
/-! ### what the small predicates say of such values -/
def isInt : PyData → Bool
  | .int _ => true
  | _ => false
def isBool : PyData → Bool
  | .bool _ => true
  | _ => false
def isStr : PyData → Bool
  | .str _ => true
  | _ => false
def isTup : PyData → Bool
  | .tuple _ => true
  | _ => false
/-- an int from lo to hi -/
def btw (lo hi : Int) : PyData → Bool
  | .int i => decide (lo ≤ i) && decide (i ≤ hi)
  | _ => false
theorem kit_int (K : PySem.W.Frag) (d : PyData) : PySem.W.kitOne K (.type (tyD d)) (.type "int") = some (isInt d || isBool d) := by
  cases d with
  | none => exact kit_ty (a := "NoneType") (b := "int") (r := false) (by decide +kernel)
  | bool b => exact kit_ty (a := "bool") (b := "int") (r := true) (by decide +kernel)
  | int i => exact kit_ty (a := "int") (b := "int") (r := true) (by decide +kernel)
  | str x => exact kit_ty (a := "str") (b := "int") (r := false) (by decide +kernel)
  | list l => exact kit_ty (a := "list") (b := "int") (r := false) (by decide +kernel)
  | tuple l => exact kit_ty (a := "tuple") (b := "int") (r := false) (by decide +kernel)
  | dict l => exact kit_ty (a := "dict") (b := "int") (r := false) (by decide +kernel)
theorem kit_bool (K : PySem.W.Frag) (d : PyData) : PySem.W.kitOne K (.type (tyD d)) (.type "bool") = some (isBool d) := by
  cases d with
  | none => exact kit_ty (a := "NoneType") (b := "bool") (r := false) (by decide +kernel)
  | bool b => exact kit_ty (a := "bool") (b := "bool") (r := true) (by decide +kernel)
  | int i => exact kit_ty (a := "int") (b := "bool") (r := false) (by decide +kernel)
  | str x => exact kit_ty (a := "str") (b := "bool") (r := false) (by decide +kernel)
  | list l => exact kit_ty (a := "list") (b := "bool") (r := false) (by decide +kernel)
  | tuple l => exact kit_ty (a := "tuple") (b := "bool") (r := false) (by decide +kernel)
  | dict l => exact kit_ty (a := "dict") (b := "bool") (r := false) (by decide +kernel)
theorem kit_str (K : PySem.W.Frag) (d : PyData) : PySem.W.kitOne K (.type (tyD d)) (.type "str") = some (isStr d) := by
  cases d with
  | none => exact kit_ty (a := "NoneType") (b := "str") (r := false) (by decide +kernel)
  | bool b => exact kit_ty (a := "bool") (b := "str") (r := false) (by decide +kernel)
  | int i => exact kit_ty (a := "int") (b := "str") (r := false) (by decide +kernel)
  | str x => exact kit_ty (a := "str") (b := "str") (r := true) (by decide +kernel)
  | list l => exact kit_ty (a := "list") (b := "str") (r := false) (by decide +kernel)
  | tuple l => exact kit_ty (a := "tuple") (b := "str") (r := false) (by decide +kernel)
  | dict l => exact kit_ty (a := "dict") (b := "str") (r := false) (by decide +kernel)
theorem kit_tuple (K : PySem.W.Frag) (d : PyData) : PySem.W.kitOne K (.type (tyD d)) (.type "tuple") = some (isTup d) := by
  cases d with
  | none => exact kit_ty (a := "NoneType") (b := "tuple") (r := false) (by decide +kernel)
  | bool b => exact kit_ty (a := "bool") (b := "tuple") (r := false) (by decide +kernel)
  | int i => exact kit_ty (a := "int") (b := "tuple") (r := false) (by decide +kernel)
  | str x => exact kit_ty (a := "str") (b := "tuple") (r := false) (by decide +kernel)
  | list l => exact kit_ty (a := "list") (b := "tuple") (r := false) (by decide +kernel)
  | tuple l => exact kit_ty (a := "tuple") (b := "tuple") (r := true) (by decide +kernel)
  | dict l => exact kit_ty (a := "dict") (b := "tuple") (r := false) (by decide +kernel)
structure Nm (mg : Str → Option Value) : Prop where
  isinstance : mg "isinstance" = none
  int : mg "int" = none
  bool : mg "bool" = none
  str : mg "str" = none
  tuple : mg "tuple" = none
  len : mg "len" = none
  list : mg "list" = none
  range : mg "range" = none
  repr : mg "repr" = none
  all : mg "all" = none
  any : mg "any" = none
  zip : mg "zip" = none
  sum : mg "sum" = none
  enumerate : mg "enumerate" = none
  dict : mg "dict" = none
structure DefOk (K : PySem.W.Frag) (mg : Str → Option Value) (x : Str) (st : Stmt) (ps : List Str) (f : Addr) (fd : FuncData) : Prop where
  F : Fun K x x st f fd
  b : L2.Binds K fd ps []
  g : mg x = some (.ref f)
theorem same_new {H : Hp} {p : Addr} {o : HO} (h : H p = none) : Same H (upd H p o) := fun b u e => by rw [upd_ne (ne_of_none e h)]; exact e
theorem if_t {c : Bool} {A B : Prop} (hc : c = true) (h : A) : if c = true then A else B := by
  rw [if_pos hc]
  exact h
theorem if_f {c : Bool} {A B : Prop} (hc : c = false) (h : B) : if c = true then A else B := by
  rw [hc, if_neg Bool.false_ne_true]
  exact h
theorem grow {H Hx : Hp} {D : Addr} {xs : List V} {y : V} (nD : H D = none) (S : Same H Hx) : Same H (upd Hx D (.lst (xs ++ [y]))) := fun b o e => by
  have bD : b ≠ D := fun z => by
    rw [z, nD] at e
    cases e
  rw [upd_ne bD]
  exact S _ _ e
theorem datAll_append {H : Hp} : ∀ {xs ys : List V} {ds es : List PyData}, DatAll H xs ds → DatAll H ys es → DatAll H (xs ++ ys) (ds ++ es)
  | _, _, _, _, .nil, t => t
  | _, _, _, _, .cons h t, u => .cons h (datAll_append t u)
theorem nat_of {i : Int} (h : 0 ≤ i) : ∃ j : Nat, i = j := ⟨i.toNat, by omega⟩
end KF
set_option maxRecDepth 100000
set_option maxHeartbeats 4000000
namespace KF
open PySem PySem.Spec PyProof.Rows L2
abbrev sDeck : Stmt := top 34
abbrev sDraw : Stmt := top 35
abbrev sPick : Stmt := top 36
/-! ### the deck of choices -/
/-- a deck at p: its cells at q, the mixed number m, the count c -/
structure DeckAt (H : Hp) (p q : Addr) (ns : List Int) (m c : Int) : Prop where
  ob : H p = some (.lst [.ref q, .int m, .int c])
  ce : H q = some (.lst (ns.map V.int))
  m0 : 0 ≤ m
  m1 : m < 2147483587
  c0 : 0 ≤ c
  c1 : c ≤ 1000000000
  ln : ns.length ≤ 63
theorem DeckAt.ne {H : Hp} {p q : Addr} {ns : List Int} {m c : Int} (D : DeckAt H p q ns m c) : p ≠ q := fun e => by
  have z := D.ce
  rw [← e, D.ob] at z
  have z' := Option.some.inj z
  injection z' with z''
  cases ns with
  | nil => cases z''
  | cons a l => injection z'' with y _; cases y
theorem DeckAt.same {H H' : Hp} {p q : Addr} {ns : List Int} {m c : Int} (D : DeckAt H p q ns m c) (S : Same H H') : DeckAt H' p q ns m c := ⟨S _ _ D.ob, S _ _ D.ce, D.m0, D.m1, D.c0, D.c1, D.ln⟩
/-- what was tracked, but at p and q -/
def Off (p q : Addr) (H H' : Hp) : Prop := ∀ b o, H b = some o → b ≠ p → b ≠ q → H' b = some o
theorem Off.of_same {p q : Addr} {H H' : Hp} (S : Same H H') : Off p q H H' := fun b o e _ _ => S b o e
theorem Off.trans {p q : Addr} {H H1 H2 : Hp} (a : Off p q H H1) (b : Off p q H1 H2) : Off p q H H2 := fun c o e h1 h2 => b c o (a c o e h1 h2) h1 h2
theorem Off.refl {p q : Addr} {H : Hp} : Off p q H H := fun _ _ e _ _ => e
theorem dp_ints {K : PySem.W.Frag} {H : Hp} : ∀ ns : List Int, DpAll K H (ns.map V.int) (ns.map PyData.int)
  | [] => .nil
  | a :: l => .cons (.int a) (dp_ints l)
theorem lay_ints : ∀ ns : List Int, PyData.canLayAll0 (ns.map PyData.int) = true
  | [] => by simp [PyData.canLayAll0]
  | a :: l => by simp [PyData.canLayAll0, PyData.canLay0, lay_ints l]
theorem depth_ints : ∀ ns : List Int, PyData.depthAll (ns.map PyData.int) = 0
  | [] => by simp [PyData.depthAll]
  | a :: l => by simp [PyData.depthAll, PyData.depth, depth_ints l]
theorem shaped_ints (ns : List Int) : SeqAt.shaped (.list (ns.map PyData.int)) = true := by
  have h2 : PyData.depth (.list (ns.map PyData.int)) ≤ 64 := by
    rw [PyData.depth, depth_ints]
    decide
  unfold SeqAt.shaped
  rw [Bool.and_eq_true, PyData.canLay0]
  exact ⟨lay_ints ns, decide_eq_true h2⟩
def spDeck (K : PySem.W.Frag) : Sp := fun vs H Q _ => ∃ (a : Addr) (ns : List Int), vs = [.ref a] ∧ SqL K H a (ns.map V.int) ∧ ns.length ≤ 63 ∧
  ∀ (p q : Addr) (ms : List Int) (m : Int) (H' : Hp), Same H H' → H p = none → H q = none → DeckAt H' p q ms m 0 → Q (.ref p) H'
def spDraw : Sp := fun vs H Q _ => ∃ (p q : Addr) (ns : List Int) (m c n : Int), vs = [.ref p, .int n] ∧ 0 < n ∧ n ≤ 1000000 ∧ DeckAt H p q ns m c ∧ c + 1 ≤ 1000000000 ∧
  ∀ (i : Int) (ns' : List Int) (H' : Hp), 0 ≤ i → i < n → Off p q H H' → DeckAt H' p q ns' m (c + 1) → Q (.int i) H'
section
variable {P : Program} {w : World} {K : PySem.W.Frag} {mg : Str → Option Value} {base : Heap}
theorem scDeck : FnScope ["_law_script", "_law_cells", "_law_mix", "_law_cell"] ["_law_script"] (defScope sDeck) := ⟨rfl, rfl, rfl, by decide +kernel, rfl, by decide +kernel, by decide +kernel⟩
theorem ok_deck {f : Addr} {fd : FuncData} (F : Fun K "_law_deck" "_law_deck" sDeck f fd) (T : Nm mg) (Tl : mg "list" = none) : FnOk P w K mg base CX0 1 f fd ["_law_script"] (spDeck K) := by
  refine F.ok scDeck (fun vs H Q E h => ?_) (fun cdv A outer s H vs Q E hr h => ?_)
  · obtain ⟨a, ns, rfl, _⟩ := h
    rfl
  · obtain ⟨a, ns, rfl, hS, hl, k⟩ := h
    refine ⟨_, pss_cons (ps_par (i := 1) (j := 2) rfl scDeck.nd rfl rfl (by decide) rfl rfl (pa_cons (pe_callTy call_list_of (by rfl) Tl (by decide +kernel) (pa_cons (pe_slice sl_list (pv 0) po_none (po_some pe_int)) pa_nil)) (pa_cons pe_int pa_nil)) (by rfl))
      (pss_cons (ps_for PassesOwn.never rfl (pi_list (pv 1)) (pg_name (i := 3) scDeck.nd rfl (Or.inl rfl))
        (pss_one (ps_set (i := 2) scDeck.nd rfl (Or.inl rfl) (pe_op op_mod (pe_op op_add (pe_op op_add (pe_op op_mul (pv 2) pe_int) (pe_op op_mod (pv 3) pe_int)) pe_int) pe_int))))
      (pss_one (ps_ret (pe_lst (pa_cons (pe_revL (pv 1)) (pa_cons (pv 2) (pa_cons pe_int pa_nil))))))), ?_⟩
    -- script[:63]; list(..)
    refine ⟨_, rfl, 63, rfl, a, _, rfl, hS, fun p1 np1 => ?_⟩
    have hcut : (cutV (ns.map V.int) none (some 63)).length ≤ 63 := by
      have z := cutV_length (ns.map V.int) none (some 63)
      rw [List.length_map] at z
      omega
    obtain ⟨cs, hcs, hcl⟩ : ∃ cs : List Int, cutV (ns.map V.int) none (some 63) = cs.map V.int ∧ cs.length ≤ 63 := by
      refine ⟨(ns.drop (HT.sIx ns.length 0 none)).take (HT.sIx ns.length ns.length (some 63) - HT.sIx ns.length 0 none), ?_, ?_⟩
      · unfold cutV
        rw [List.length_map, List.map_take, List.map_drop]
      · rw [List.length_take, List.length_drop]
        omega
    rw [hcs]
    refine ⟨p1, _, rfl, .inl (.inl (.inl upd_same)), fun q1 nq1 => ⟨_, _, rfl, ?_⟩⟩
    have s1 : Same H (upd (upd H p1 (.lst (cs.map V.int))) q1 (.lst (cs.map V.int))) := (same_new np1).trans (same_new nq1)
    -- the loop
    refine ⟨_, rfl, q1, rfl, ⟨_, .inl (.inl upd_same)⟩, for_list (K := K) (a := q1) (xs := cs.map V.int) (fun i σ H' => ∃ (m : Int) (v : Option V), σ = [some (.ref a), some (.ref q1), some (.int m), v] ∧ H' = upd (upd H p1 (.lst (cs.map V.int))) q1 (.lst (cs.map V.int)) ∧ 0 ≤ m ∧ m < 2147483587)
      ⟨50077, none, rfl, rfl, by decide, by decide⟩ (fun i σ H' _ ⟨_, _, _, e, _⟩ => by rw [e]; exact .inl (.inl upd_same)) ?_ ?_⟩
    · rintro i y σ H' hi ⟨m, v, rfl, rfl, h0, h1⟩
      obtain ⟨z, rfl⟩ : ∃ z, y = V.int z := by
        rw [List.getElem?_map] at hi
        cases e : cs[i]? with
        | none =>
          rw [e] at hi
          cases hi
        | some z =>
          rw [e] at hi
          exact ⟨z, (Option.some.inj hi).symm⟩
      refine ⟨_, rfl, _, _, rfl, rfl, .inl ⟨by omega, by omega⟩, ?_⟩
      refine ⟨_, rfl, _, _, rfl, rfl, (by show (0 : Int) < _; decide), _, _, rfl, rfl, _, _, rfl, rfl, _, _, rfl, rfl, (by show (0 : Int) < _; decide), ?_⟩
      exact ⟨_, _, rfl, rfl, Int.emod_nonneg _ (by decide), Int.emod_lt_of_pos _ (by decide)⟩
    · rintro σ H' ⟨m, v, rfl, rfl, h0, h1⟩
      refine ⟨_, rfl, q1, _, rfl, .inl (.inl upd_same), fun r1 nr1 => ⟨_, rfl, (by show 3 ≤ sizeLine; decide), fun d nd => ?_⟩⟩
      rw [← List.map_reverse] at nd ⊢
      refine k d r1 cs.reverse m _ ((s1.trans (same_new nr1)).trans (same_new nd)) ?_ ?_ ⟨upd_same, ?_, h0, h1, by decide, by decide, by rw [List.length_reverse]; exact hcl⟩
      · exact ((s1.trans (same_new nr1))).free nd
      · exact s1.free nr1
      · rw [upd_ne (ne_of_none upd_same nd), upd_same]
theorem scDraw : FnScope ["_law_deck_here", "_law_bound", "_law_cell", "_law_mixed"] ["_law_deck_here", "_law_bound"] (defScope sDraw) := ⟨rfl, rfl, rfl, by decide +kernel, rfl, by decide +kernel, by decide +kernel⟩
theorem ok_draw {f : Addr} {fd : FuncData} (F : Fun K "_law_draw" "_law_draw" sDraw f fd) : FnOk P w K mg base CX0 1 f fd ["_law_deck_here", "_law_bound"] spDraw := by
  refine F.ok scDraw (fun vs H Q E h => ?_) (fun cdv A outer s H vs Q E hr h => ?_)
  · obtain ⟨p, q, ns, m, c, n, rfl, _⟩ := h
    rfl
  · obtain ⟨p, q, ns, m, c, n, rfl, hn0, hn1, D, hc, k⟩ := h
    have hu := hr.units
    have hpq := D.ne
    refine ⟨_, pss_cons (ps_asg (pe_op op_add (pe_ix ix_list (pv 0) pe_int (fun _ _ => rfl)) pe_int) (pg_sub (pv 0) pe_int set_list (fun _ => rfl)))
      (pss_cons (ps_set (i := 2) scDraw.nd rfl (Or.inl rfl) (pe_ix ix_list (pv 0) pe_int (fun _ _ => rfl)))
      (C8.pss_cut (ps_if (pt_cmpR (op_neD hu) (pe_ix ix_list (pv 0) pe_int (fun _ _ => rfl)) (pe_lst pa_nil) (nomark _))
          (pss_cons (ps_set (i := 2) scDraw.nd rfl (Or.inl rfl) (pe_bm0 PySem.F.plainAttrs_list PySem.F.slot_list_pop PySem.F.type_list_pop mt_pop (pe_ix ix_list (pv 0) pe_int (fun _ _ => rfl))))
          (pss_cons (ps_if (pt_cmpR op_ge (pv 2) (pe_op op_pow pe_int pe_int) (nomark _))
              (pss_cons (ps_expr (pe_bm PySem.F.plainAttrs_list PySem.F.slot_list_append PySem.F.type_list_append mt_append (pe_ix ix_list (pv 0) pe_int (fun _ _ => rfl)) (pa_cons (pe_op op_fdivN (pv 2) (pv 1)) pa_nil)))
              (pss_one (ps_ret (pe_op op_mod (pv 2) (pv 1))))) pss_nil)
          (pss_one (ps_set (i := 2) scDraw.nd rfl (Or.inl rfl) (pe_op op_add (pv 2) (pe_ix ix_list (pv 0) pe_int (fun _ _ => rfl))))))) pss_nil)
      (pss_cons (ps_set (i := 3) scDraw.nd rfl (Or.inl rfl) (pe_op op_mod (pe_op op_mul (pe_op op_add (pe_op op_add (pe_op op_mod (pv 2) pe_int) (pe_op op_mul (pe_op op_mul pe_int (pe_ix ix_list (pv 0) pe_int (fun _ _ => rfl))) (pe_ix ix_list (pv 0) pe_int (fun _ _ => rfl)))) pe_int) pe_int) pe_int))
      (pss_cons (ps_set (i := 3) scDraw.nd rfl (Or.inl rfl) (pe_op op_mod (pe_op op_add (pe_op op_add (pe_op op_mul (pv 3) (pv 3)) (pe_op op_mul pe_int (pe_ix ix_list (pv 0) pe_int (fun _ _ => rfl)))) pe_int) pe_int))
      (pss_one (ps_ret (pe_op op_mod (pe_op op_fdiv (pe_op op_mod (pe_op op_mul (pv 3) pe_int) pe_int) pe_int) (pv 1)))))))), ?_⟩
    have c2 : ∀ {x y z : V}, atI [x, y, z] 2 = some z := fun {x y z} => atI_nat (xs := [x, y, z]) (j := 2) rfl
    have c1 : ∀ {x y z : V}, atI [x, y, z] 1 = some y := fun {x y z} => atI_nat (xs := [x, y, z]) (j := 1) rfl
    have c0 : ∀ {x y z : V}, atI [x, y, z] 0 = some x := fun {x y z} => atI_nat (xs := [x, y, z]) (j := 0) rfl
    -- deck[2] = deck[2] + 1
    refine ⟨_, rfl, p, _, _, _, rfl, rfl, SqL.of D.ob, c2, _, _, rfl, rfl, _, rfl, p, _, _, 2, rfl, rfl, D.ob, rfl, ?_⟩
    have eset : ([V.ref q, V.int m, V.int c].set 2 (V.int (c + 1))) = [V.ref q, V.int m, V.int (c + 1)] := rfl
    rw [eset]
    have D1 : DeckAt (upd H p (.lst [.ref q, .int m, .int (c + 1)])) p q ns m (c + 1) :=
      ⟨upd_same, by rw [upd_ne hpq.symm]; exact D.ce, D.m0, D.m1, by have := D.c0; omega, hc, D.ln⟩
    have off1 : Off p q H (upd H p (.lst [.ref q, .int m, .int (c + 1)])) := fun b o e h1 _ => by rw [upd_ne h1]; exact e
    -- cell = deck[1]
    refine ⟨_, rfl, p, _, _, _, rfl, rfl, SqL.of D1.ob, c1, ?_⟩
    -- if deck[0] != []: .. ; what follows holds for any cell
    refine ⟨fun σ H' => ∃ (z : Int) (ns' : List Int), σ = [some (.ref p), some (.int n), some (.int z), none] ∧ Off p q H H' ∧ DeckAt H' p q ns' m (c + 1), ?_, ?_⟩
    · refine ⟨_, rfl, p, _, _, _, rfl, rfl, SqL.of D1.ob, c0, (by show 0 ≤ sizeLine; decide), fun e ne => ?_⟩
      have D2 : DeckAt (upd (upd H p (.lst [.ref q, .int m, .int (c + 1)])) e (.lst [])) p q ns m (c + 1) := D1.same (same_new ne)
      have off2 : Off p q H (upd (upd H p (.lst [.ref q, .int m, .int (c + 1)])) e (.lst [])) := off1.trans (.of_same (same_new ne))
      refine ⟨.list (ns.map .int), .list [], .lst (SqL.of D2.ce) (dp_ints ns), .lst (SqL.of upd_same) .nil, shaped_ints ns, shaped_ints [], _, rfl, ?_⟩
      generalize hH2 : upd (upd H p (.lst [.ref q, .int m, .int (c + 1)])) e (.lst []) = H2 at D2 off2 ⊢
      cases hns : ns with
      | nil =>
        have e0 : PyData.eqv (.list (([] : List Int).map PyData.int)) (.list []) = true := by simp [PyData.eqv, PyData.eqvAll]
        rw [e0]
        refine iteF ?_
        exact ⟨m, [], rfl, off2, by rw [hns] at D2; exact D2⟩
      | cons a l =>
        have e0 : PyData.eqv (.list ((a :: l).map PyData.int)) (.list []) = false := by simp [PyData.eqv, PyData.eqvAll]
        rw [e0]
        refine iteT ?_
        rw [hns] at D2
        -- cell = deck[0].pop()
        obtain ⟨l', z, hz⟩ : ∃ (l' : List Int) (z : Int), a :: l = l' ++ [z] := ⟨(a :: l).dropLast, (a :: l).getLast (by simp), (List.dropLast_concat_getLast (by simp)).symm⟩
        rw [hz] at D2
        have hln : l'.length + 1 ≤ 63 := by
          have z1 := D2.ln
          rw [List.length_append] at z1
          exact z1
        have elast : ((l' ++ [z]).map V.int)[((l' ++ [z]).map V.int).length - 1]? = some (.int z) := by simp
        have edrop : ((l' ++ [z]).map V.int).dropLast = l'.map V.int := by simp
        refine ⟨_, rfl, p, _, _, _, rfl, rfl, SqL.of D2.ob, c0, .inl ⟨rfl, _, SqL.of D2.ce⟩, q, _, _, rfl, rfl, D2.ce, elast, ?_⟩
        rw [edrop]
        have D3 : DeckAt (upd H2 q (.lst (l'.map V.int))) p q l' m (c + 1) := ⟨by rw [upd_ne hpq]; exact D2.ob, upd_same, D2.m0, D2.m1, D2.c0, D2.c1, by omega⟩
        have off3 : Off p q H (upd H2 q (.lst (l'.map V.int))) := off2.trans fun b o e _ h2 => by rw [upd_ne h2]; exact e
        generalize upd H2 q (.lst (l'.map V.int)) = H3 at D3 off3 ⊢
        -- if cell >= 10 ** 18
        refine ⟨_, rfl, _, _, rfl, rfl, ⟨by decide, by decide, by decide⟩, _, _, rfl, rfl, _, rfl, ?_⟩
        refine ite2 (fun _ => ?_) (fun _ => ?_)
        · refine ⟨_, rfl, p, _, _, _, rfl, rfl, SqL.of D3.ob, c0, .inl ⟨rfl, _, SqL.of D3.ce⟩, _, rfl, _, rfl, _, _, rfl, rfl, ⟨by omega, by omega⟩, q, _, _, rfl, rfl, D3.ce, (by rw [List.length_map, sizeLine_eq]; omega), ?_⟩
          have eapp : l'.map V.int ++ [V.int (z.fdiv n)] = (l' ++ [z.fdiv n]).map V.int := by simp
          rw [eapp]
          have D4 : DeckAt (upd H3 q (.lst ((l' ++ [z.fdiv n]).map V.int))) p q (l' ++ [z.fdiv n]) m (c + 1) :=
            ⟨by rw [upd_ne hpq]; exact D3.ob, upd_same, D3.m0, D3.m1, D3.c0, D3.c1, by rw [List.length_append]; exact hln⟩
          refine ⟨_, rfl, _, rfl, _, _, rfl, rfl, hn0, ?_⟩
          exact k _ _ _ (Int.emod_nonneg _ (by omega)) (Int.emod_lt_of_pos _ hn0) (off3.trans fun b o e _ h2 => by rw [upd_ne h2]; exact e) D4
        · refine ⟨_, rfl, _, rfl, p, _, _, _, rfl, rfl, SqL.of D3.ob, c1, _, _, rfl, rfl, ?_⟩
          exact ⟨_, l', rfl, off3, D3⟩
    · rintro σ' H' ⟨z, ns', rfl, off', D'⟩
      have ix2 := fun (g : Hp → Prop) => g
      refine ⟨_, rfl, _, _, rfl, rfl, (by show (0 : Int) < _; decide), _, rfl, p, _, _, _, rfl, rfl, SqL.of D'.ob, c2, _, _, rfl, rfl, .inl ⟨by decide, by decide⟩, _, rfl, p, _, _, _, rfl, rfl, SqL.of D'.ob, c2, _, _, rfl, rfl, .inl ⟨by have := D'.c0; omega, by have := D'.c1; omega⟩,
        _, _, rfl, rfl, _, _, rfl, rfl, _, _, rfl, rfl, .inr ⟨by decide, by decide⟩, _, _, rfl, rfl, (by show (0 : Int) < _; decide), ?_⟩
      generalize hx : (z % 2147483629 + 65581 * (c + 1) * (c + 1) + 47) * 16807 % 2147483647 = x
      have x0 : 0 ≤ x := by rw [← hx]; exact Int.emod_nonneg _ (by decide)
      have x1 : x < 2147483647 := by rw [← hx]; exact Int.emod_lt_of_pos _ (by decide)
      refine ⟨_, rfl, _, rfl, _, _, rfl, rfl, .inl ⟨by omega, by omega⟩, _, rfl, p, _, _, _, rfl, rfl, SqL.of D'.ob, c2, _, _, rfl, rfl, .inl ⟨by decide, by decide⟩, _, _, rfl, rfl, _, _, rfl, rfl, _, _, rfl, rfl, (by show (0 : Int) < _; decide), ?_⟩
      refine ⟨_, rfl, _, _, rfl, rfl, .inr ⟨by decide, by decide⟩, _, _, rfl, rfl, (by show (0 : Int) < _; decide), _, _, rfl, rfl, ⟨by decide, by decide⟩, _, rfl, _, _, rfl, rfl, hn0, ?_⟩
      exact k _ ns' H' (Int.emod_nonneg _ (by omega)) (Int.emod_lt_of_pos _ hn0) off' D'
theorem scPick : FnScope ["_law_deck_here", "_law_items"] ["_law_deck_here", "_law_items"] (defScope sPick) := ⟨rfl, rfl, rfl, by decide +kernel, rfl, by decide +kernel, by decide +kernel⟩
/-- one of the items, at some place -/
def spPick : Sp := fun vs H Q _ => ∃ (p q t : Addr) (ns : List Int) (m c : Int) (xs : List V), vs = [.ref p, .ref t] ∧ H t = some (.lst xs) ∧ t ≠ p ∧ t ≠ q ∧ 0 < xs.length ∧ xs.length ≤ 1000 ∧ DeckAt H p q ns m c ∧ c + 1 ≤ 1000000000 ∧
  ∀ (j : Nat) (x : V) (ns' : List Int) (H' : Hp), xs[j]? = some x → Off p q H H' → DeckAt H' p q ns' m (c + 1) → Q x H'
theorem ok_pick {f fD : Addr} {fd fdD : FuncData} (F : Fun K "_law_pick" "_law_pick" sPick f fd) (T : Nm mg) (FD : Fun K "_law_draw" "_law_draw" sDraw fD fdD) (bD : Binds K fdD ["_law_deck_here", "_law_bound"] []) (gD : mg "_law_draw" = some (.ref fD)) :
    FnOk P w K mg base CX0 2 f fd ["_law_deck_here", "_law_items"] spPick := by
  have GD : FnOk P w K mg base CX0 1 fD fdD ["_law_deck_here", "_law_bound"] spDraw := ok_draw FD
  refine F.ok scPick (fun vs H Q E h => ?_) (fun cdv A outer s H vs Q E hr h => ?_)
  · obtain ⟨p, q, t, ns, m, c, xs, rfl, _⟩ := h
    rfl
  · obtain ⟨p, q, t, ns, m, c, xs, rfl, ht, tp, tq, hx0, hx1, D, hc, k⟩ := h
    refine ⟨_, pss_one (ps_ret (pe_ix ix_list (pv 1) (pe_call GD hr rfl gD FD.kp bD .nil pass0 (pa_cons (pv 0) (pa_cons (pe_callB call_len_seq (by rfl) T.len PySem.boot_len (pa_cons (pv 1) pa_nil)) pa_nil))) (fun _ _ => rfl))), ?_⟩
    refine ⟨_, rfl, _, rfl, _, rfl, t, _, rfl, .inl (SqL.of ht), p, q, ns, m, c, (xs.length : Int), rfl, by omega, by omega, D, hc, fun i ns' H' h0 h1 off D' => ?_⟩
    obtain ⟨j, rfl⟩ : ∃ j : Nat, i = (j : Int) := ⟨i.toNat, by omega⟩
    have hj : j < xs.length := by omega
    exact ⟨t, xs, _, xs[j], rfl, rfl, SqL.of (off _ _ ht tp tq), atI_nat (List.getElem?_eq_getElem hj), k j _ ns' H' (List.getElem?_eq_getElem hj) off D'⟩
end
/-! ### the deck stands apart -/
def hide (p q : Addr) (H : Hp) : Hp := fun b => if b = p ∨ b = q then none else H b
/-- a deck at p with its cells at q, at most b choices made -/
def Dk (H : Hp) (p q : Addr) (b : Nat) : Prop := ∃ ns m c, DeckAt H p q ns m c ∧ c ≤ (b : Int)
section
variable {H H' : Hp} {p q t : Addr} {b : Nat}
theorem hide_sub (p q : Addr) (H : Hp) : Same (hide p q H) H := fun c o e => by
  unfold hide at e
  split at e
  · cases e
  · exact e
theorem hide_at {c : Addr} {o : HO} (h : H c = some o) (hp : c ≠ p) (hq : c ≠ q) : hide p q H c = some o := by
  unfold hide
  rw [if_neg (fun z => z.elim hp hq)]
  exact h
theorem hide_same (S : Same H H') : Same (hide p q H) (hide p q H') := fun c o e => by
  unfold hide at e ⊢
  split at e
  · cases e
  · rename_i h
    rw [if_neg h]
    exact S _ _ e
theorem hide_off (O : Off p q H H') : Same (hide p q H) (hide p q H') := fun c o e => by
  unfold hide at e ⊢
  split at e
  · cases e
  · rename_i h
    rw [if_neg h]
    exact O _ _ e (fun z => h (.inl z)) (fun z => h (.inr z))
theorem Dk.same (D : Dk H p q b) (S : Same H H') : Dk H' p q b := by
  obtain ⟨ns, m, c, D, h⟩ := D
  exact ⟨ns, m, c, D.same S, h⟩
theorem Dk.mono {b' : Nat} (D : Dk H p q b) (h : b ≤ b') : Dk H p q b' := by
  obtain ⟨ns, m, c, D, hc⟩ := D
  exact ⟨ns, m, c, D, by omega⟩
theorem Dk.new (D : Dk H p q b) (n : H t = none) : t ≠ p ∧ t ≠ q := by
  obtain ⟨ns, m, c, D, hc⟩ := D
  refine ⟨fun e => ?_, fun e => ?_⟩
  · rw [e, D.ob] at n
    cases n
  · rw [e, D.ce] at n
    cases n
theorem hide_new {o : HO} (D : Dk H p q b) (n : H t = none) : hide p q (upd H t o) t = some o := hide_at upd_same (D.new n).1 (D.new n).2
theorem hide_none (h : hide p q H t = none) (hp : t ≠ p) (hq : t ≠ q) : H t = none := by
  unfold hide at h
  rw [if_neg (fun z => z.elim hp hq)] at h
  exact h
/-- a choice of n -/
theorem draw_of {n : Int} {Q : VK} {E : XK} (D : Dk H p q b) (h0 : 0 < n) (h1 : n ≤ 1000000) (hb : b < 100000000) (k : ∀ (i : Nat) (H' : Hp), (i : Int) < n → Off p q H H' → Dk H' p q (b + 1) → Q (.int (i : Nat)) H') : spDraw [.ref p, .int n] H Q E := by
  obtain ⟨ns, m, c, D, hc⟩ := D
  refine ⟨p, q, ns, m, c, n, rfl, h0, h1, D, by omega, fun i ns' H' i0 i1 off D' => ?_⟩
  obtain ⟨j, rfl⟩ : ∃ j : Nat, i = j := ⟨i.toNat, by omega⟩
  exact k j H' i1 off ⟨ns', m, c + 1, D', by omega⟩
/-- one of the items of a list -/
theorem pick_of {xs : List V} {Q : VK} {E : XK} (D : Dk H p q b) (ht : H t = some (.lst xs)) (tp : t ≠ p) (tq : t ≠ q) (h0 : 0 < xs.length) (h1 : xs.length ≤ 1000) (hb : b < 100000000) (k : ∀ (j : Nat) (x : V) (H' : Hp), xs[j]? = some x → Off p q H H' → Dk H' p q (b + 1) → Q x H') : spPick [.ref p, .ref t] H Q E := by
  obtain ⟨ns, m, c, D, hc⟩ := D
  exact ⟨p, q, t, ns, m, c, xs, rfl, ht, tp, tq, h0, h1, D, by omega, fun j x ns' H' hx off D' => k j x H' hx off ⟨ns', m, c + 1, D', by omega⟩⟩
end
theorem dk_upd {H : Hp} {p q r : Addr} {b : Nat} {o : HO} (D : Dk H p q b) (h1 : r ≠ p) (h2 : r ≠ q) : Dk (upd H r o) p q b := by
  obtain ⟨ns, m, c, D, hc⟩ := D
  exact ⟨ns, m, c, ⟨by rw [upd_ne h1.symm]; exact D.ob, by rw [upd_ne h2.symm]; exact D.ce, D.m0, D.m1, D.c0, D.c1, D.ln⟩, hc⟩
theorem dk_ne {H : Hp} {p q a : Addr} {b : Nat} {xs : List V} (D : Dk H p q b) (h : H a = some (.tup xs)) : a ≠ p ∧ a ≠ q := by
  obtain ⟨ns, m, c, D, hc⟩ := D
  refine ⟨fun e => ?_, fun e => ?_⟩
  · rw [e, D.ob] at h
    cases h
  · rw [e, D.ce] at h
    cases h
end KF
set_option maxRecDepth 100000
set_option maxHeartbeats 4000000
namespace L2
open PySem PySem.Spec PyProof.Rows
section
variable {X : Cx}
/-- a list beside an empty list, a tuple beside an empty tuple -/
def rEmpty (neg : Bool) : R2 := fun x y H Q => ∃ (a b : Addr) (xs : List V), x = .ref a ∧ y = .ref b ∧ ((H a = some (.lst xs) ∧ H b = some (.lst [])) ∨ (H a = some (.tup xs) ∧ H b = some (.tup []))) ∧ Q (.bl (if neg then !xs.isEmpty else xs.isEmpty)) H
theorem nil_of {us : List Value} (r : Vals ([] : List V) us) : us = [] := by
  cases r
  rfl
theorem op_empty (hu : X.A.units < cLine) : OpR X (compareOp .Eq) (rEmpty false) := by
  intro pins s σ H x y v u Q I rx ry h
  obtain ⟨a, b, xs, rfl, rfl, h, q⟩ := h
  cases rx
  cases ry
  rcases h with ⟨ha, hb⟩ | ⟨ha, hb⟩
  · obtain ⟨its, rv, p, _⟩ := I.list (SqL.of ha)
    obtain ⟨its2, rv2, p2, _⟩ := I.list (SqL.of hb)
    obtain rfl := nil_of rv2
    cases xs with
    | nil =>
      obtain rfl := nil_of rv
      exact SeqAt.eq_listAt (e := fun _ => true) p.isList p2.isList rfl hu (fun j h1 h2 => absurd h1 (Nat.not_lt_zero _)) ⟨.bl true, H, I, rfl, q⟩
    | cons x0 l =>
      cases rv with
      | cons r0 rs => exact SeqAt.eq_list_lengthsAt p.isList p2.isList (by simp) hu ⟨.bl false, H, I, rfl, q⟩
  · obtain ⟨its, rv, p, _⟩ := I.tuple (SqT.of ha)
    obtain ⟨its2, rv2, p2, _⟩ := I.tuple (SqT.of hb)
    obtain rfl := nil_of rv2
    cases xs with
    | nil =>
      obtain rfl := nil_of rv
      exact SeqAt.eq_tupleAt (e := fun _ => true) p p2 hu (fun j h1 h2 => absurd h1 (Nat.not_lt_zero _)) ⟨.bl true, H, I, rfl, q⟩
    | cons x0 l =>
      cases rv with
      | cons r0 rs => exact SeqAt.eq_tupleAt (e := fun _ => true) p p2 hu (fun j h1 h2 => absurd h2 (Nat.not_lt_zero _)) ⟨.bl false, H, I, by simp [RelV], q⟩
theorem op_nempty (hu : X.A.units < cLine) : OpR X (compareOp .NotEq) (rEmpty true) := by
  intro pins s σ H x y v u Q I rx ry h
  obtain ⟨a, b, xs, rfl, rfl, h, q⟩ := h
  cases rx
  cases ry
  rcases h with ⟨ha, hb⟩ | ⟨ha, hb⟩
  · obtain ⟨its, rv, p, _⟩ := I.list (SqL.of ha)
    obtain ⟨its2, rv2, p2, _⟩ := I.list (SqL.of hb)
    obtain rfl := nil_of rv2
    cases xs with
    | nil =>
      obtain rfl := nil_of rv
      exact SeqAt.RcNeAt.lists (e := fun _ => true) p.isList p2.isList rfl hu (fun j h1 h2 => absurd h1 (Nat.not_lt_zero _)) _ _ _ _ ⟨.bl false, H, I, rfl, q⟩
    | cons x0 l =>
      cases rv with
      | cons r0 rs => exact SeqAt.RcNeAt.lists_lengths p.isList p2.isList (by simp) hu _ _ _ _ ⟨.bl true, H, I, rfl, q⟩
  · obtain ⟨its, rv, p, _⟩ := I.tuple (SqT.of ha)
    obtain ⟨its2, rv2, p2, _⟩ := I.tuple (SqT.of hb)
    obtain rfl := nil_of rv2
    cases xs with
    | nil =>
      obtain rfl := nil_of rv
      exact SeqAt.RcNeAt.tuples (e := fun _ => true) p p2 hu (fun j h1 h2 => absurd h1 (Nat.not_lt_zero _)) _ _ _ _ ⟨.bl false, H, I, rfl, q⟩
    | cons x0 l =>
      cases rv with
      | cons r0 rs => exact SeqAt.RcNeAt.tuples (e := fun _ => true) p p2 hu (fun j h1 h2 => absurd h2 (Nat.not_lt_zero _)) _ _ _ _ ⟨.bl true, H, I, by simp [RelV], q⟩
end
end L2
namespace L2
open PySem PySem.Spec PyProof.Rows
/-! ### repr of any such value, with ints of up to 4,300 digits and empty dicts at any place -/
mutual
def okInt : PyData → Prop
  | .int i => i.natAbs < 10 ^ 4300
  | .list l => okInts l
  | .tuple l => okInts l
  | _ => True
def okInts : List PyData → Prop
  | [] => True
  | d :: ds => okInt d ∧ okInts ds
end
section
variable {prog : Program} {w : World} {A : Around} {E : Value → Shared → Prop} {s : Shared}
theorem call_int_reprS {a : Int} {t : Tok} {Q : Value → Shared → Prop} (hn : s.heap.NoDigits) (hlt : a.natAbs < 10 ^ 4300) (h : Q (.str (toString a) s.toks) { s with toks := s.toks + 1 }) :
    wpAny (model prog w) A (call (.builtin "int.__repr__") [.int a t]) Q E s := by
  (refine wpAny_call_entry F.slot_int_repr (typeIs_int s a t) F.entry_int_repr ?_ (F.args_int_repr_1 _); unfold Builtin.«int.__repr__»)
  show wpAny (model prog w) _ (do let r ← Builtin.overDigitLimit? a; _) _ _ s
  exact wpAny_bind (overDigitLimit_any hn (fun _ => wpAny_bind (wpAny_mkStr (wpAny_pure ⟨_, rfl, h⟩) (int_text_fits10 hlt))) (fun hge => absurd hlt (Nat.not_lt.mpr hge)))
theorem pyReprObj_intS {a : Int} {t : Tok} {Q : Value → Shared → Prop} (hu : A.units < cLine) (hn : s.heap.NoDigits) (hlt : a.natAbs < 10 ^ 4300) (h : Q (.str (toString a) s.toks) { s with toks := s.toks + 1 }) :
    wpAny (model prog w) A (pyReprObj (.int a t)) Q E s :=
  wpAny_pyReprObj_slot hu (typeIs_int s a t) F.slot_int_repr.toG (call_int_reprS hn hlt ⟨_, _, rfl, h⟩)
theorem reprK_int {h₀ : Heap} {as : List Addr} {d : Nat} {a : Int} (t : Tok) (hn : h₀.NoDigits) (hlt : a.natAbs < 10 ^ 4300) : ReprK prog w as h₀ d (.int a t) (toString a) := by
  intro base hb A g E s Q _ _ hu hk0 hQ
  have hn' : base ≤ sizeLine := by omega
  (rw [pyReprUnder_leaf (v := .int a t) hn' (fun _ e => nomatch e)]; unfold pyRepr)
  exact wpAny_bind (pyReprObj_intS (by omega) (hn.keeps hk0) hlt (wpAny_pure (hQ s.heap _ fun _ _ e => e)))
end
end L2
namespace KF
open PySem PySem.Spec PyProof.Rows L2
section
variable {P : Program} {w : World} {H : Hp} {h : Heap}
mutual
theorem dat_repr (ok : HOk P w H h) (nd : h.NoDigits) : ∀ {v : V} {d : PyData} {u : Value}, Dat H v d → RelV v u → okInt d → d.shown.length ≤ sizeLine → ∃ as bs, Reads h u d as ∧ ReadAtMost h d.depth bs ∧ ReprK P w bs h d.depth u d.shown
  | _, _, _, .non, r, _, _ => by
    cases r
    exact ⟨[], [], .none, (fun _ z => nomatch z), by simp only [PyData.shown]; exact .of_is ReprIs.none _ _ _⟩
  | _, _, _, .bl b, r, _, _ => by
    cases r
    exact ⟨[], [], .bool b, (fun _ z => nomatch z), by simp only [PyData.shown]; exact .of_is (ReprIs.bool b) _ _ _⟩
  | _, _, _, .int i, r, hi, _ => by
    obtain ⟨t, rfl⟩ := r
    exact ⟨[], [], .int i t, (fun _ z => nomatch z), by simp only [PyData.shown]; exact reprK_int t nd (by simpa only [okInt] using hi)⟩
  | _, _, _, .str x _, r, _, hz => by
    obtain ⟨t, rfl⟩ := r
    exact ⟨[], [], .str x t, (fun _ z => nomatch z), by simp only [PyData.shown]; exact .of_is (ReprIs.str x t (by simpa only [PyData.shown] using hz)) _ _ _⟩
  | _, _, _, .lst (a := a) (xs := xs) (ds := ds) e t, r, hi, hz => by
    cases r
    obtain ⟨_, its, m, rv, ho⟩ := (show ObjOk P w H h a (.lst xs) from ok a _ e)
    have hz' : (listText (PyData.shownAll ds)).length ≤ sizeLine := by simpa only [PyData.shown] using hz
    obtain ⟨as, bs, ra, hb, hk⟩ := datAll_repr ok nd t rv (by simpa only [okInt] using hi) (fun q hq => Nat.le_trans (listText_mem_le hq) hz')
    have rl : Reads h (.ref a) (.list ds) _ := .list ho rfl rfl ra
    refine ⟨_, a :: bs, rl, ReadAtMost.cons rl (by simp only [PyData.depth]; omega) hb, ?_⟩
    have hna : a ∉ bs := not_mem_of_deeper rl (by simp only [PyData.depth]; omega) hb
    simp only [PyData.depth, PyData.shown]
    cases its with
    | nil =>
      cases ra
      simp only [PyData.shownAll, listText_nil]
      exact ReprK.listEmpty ho rfl rfl
    | cons x l => exact ReprK.list (na := _) ho rfl rfl hna (by simpa using hk.length_eq) (fun i y e' => hk.item i y (by simpa using e'))
  | _, _, _, .tup (a := a) (xs := xs) (ds := ds) e t, r, hi, hz => by
    cases r
    obtain ⟨_, its, rv, o, ho, hc, m, hd⟩ := (show ObjOk P w H h a (.tup xs) from ok a _ e)
    have hz' : (tupleText (PyData.shownAll ds)).length ≤ sizeLine := by simpa only [PyData.shown] using hz
    obtain ⟨as, bs, ra, hb, hk⟩ := datAll_repr ok nd t rv (by simpa only [okInt] using hi) (fun q hq => Nat.le_trans (tupleText_mem_le hq) hz')
    have rl : Reads h (.ref a) (.tuple ds) _ := .tuple ho hc hd ra
    refine ⟨_, a :: bs, rl, ReadAtMost.cons rl (by simp only [PyData.depth]; omega) hb, ?_⟩
    have hna : a ∉ bs := not_mem_of_deeper rl (by simp only [PyData.depth]; omega) hb
    simp only [PyData.depth, PyData.shown]
    exact ReprK.tuple ho hc hd hna hk
  | _, _, _, .d0 (a := a) e, r, _, _ => by
    cases r
    obtain ⟨_, ns, vs, kv, o, es, ep, ho, hx, hd, hk, hp, _⟩ := (show ObjOk P w H h a (.dK []) from ok a _ e)
    cases kv
    have e0 : es.toList = [] := by
      generalize es.toList = l at hp
      cases hp
      rfl
    have rl : Reads h (.ref a) (.dict []) (a :: [] ++ []) := .dict (kvs := []) ho hx.1 hd (by rw [e0]; exact .nil) (by rw [e0]; exact .nil)
    have hsys : (a == sysModules) = false := beq_eq_false_iff_ne.mpr fun z => by
      rw [z] at ns
      simp at ns
    refine ⟨_, [a], rl, ReadAtMost.cons (n := 0) rl (Nat.zero_le _) (fun _ z => nomatch z), ?_⟩
    have k := ReprK.dict (prog := P) (w := w) (as := []) (d := 0) (ps := []) ho hx.1 hd hsys (by simp) (by rw [e0]; exact .nil)
    have k' := k.level_le (d' := (PyData.dict []).depth) (by simp [PyData.depth, PyData.depthKv])
    simpa only [PyData.shown, PyData.shownKv] using k'
theorem datAll_repr (ok : HOk P w H h) (nd : h.NoDigits) : ∀ {vs : List V} {ds : List PyData} {us : List Value}, DatAll H vs ds → Vals vs us → okInts ds → (∀ t ∈ PyData.shownAll ds, t.length ≤ sizeLine) →
    ∃ as bs, ReadsAll h us ds as ∧ ReadAtMost h (PyData.depthAll ds) bs ∧ ReprAllK P w bs h (PyData.depthAll ds) us (PyData.shownAll ds)
  | _, _, _, .nil, .nil, _, _ => ⟨[], [], .nil, (fun _ z => nomatch z), by simp only [PyData.shownAll]; exact .nil⟩
  | _, _, _, .cons (d := d) (ds := ds) t ts, .cons r rs, hi, hz => by
    have hi' : okInt d ∧ okInts ds := by simpa only [okInts] using hi
    obtain ⟨as, b1, ra, hb1, k1⟩ := dat_repr ok nd t r hi'.1 (hz _ (by simp only [PyData.shownAll]; exact List.mem_cons_self ..))
    obtain ⟨cs, b2, rb, hb2, k2⟩ := datAll_repr ok nd ts rs hi'.2 (fun q hq => hz q (by simp only [PyData.shownAll]; exact List.mem_cons_of_mem _ hq))
    refine ⟨as ++ cs, b1 ++ b2, .cons ra rb, ?_, ?_⟩
    · simp only [PyData.depthAll]
      exact (hb1.mono (Nat.le_max_left _ _)).append (hb2.mono (Nat.le_max_right _ _))
    · simp only [PyData.depthAll, PyData.shownAll]
      refine .cons ((k1.more fun b hb => List.mem_append_left _ hb).level_le (Nat.le_max_left _ _)) ?_
      exact k2.more_le (fun b hb => List.mem_append_right _ hb) (Nat.le_max_right _ _)
end
end
section
variable {X : Cx}
theorem nodig {K : PySem.W.Frag} {mg : Str → Option Value} {h : Heap} (M : L2.Mod K mg h) (e : PySem.W.nsIn K cStatics "sys.int_max_str_digits" = some none) : h.NoDigits := by
  obtain ⟨mc, h1, _⟩ := M.nolimit
  exact ⟨mc, h1, PySem.W.ns_none_of M.kin h1 e⟩
def rReprD : List V → Hp → VK → Prop := fun xs H Q => ∃ v d, xs = [v] ∧ Dat H v d ∧ okInt d ∧ d.depth ≤ 64 ∧ d.shown.length ≤ sizeLine ∧ Q (.str d.shown) H
theorem call_reprD (hg : X.A.guards = some []) (hu : X.A.units + 128 < cLine) (e : PySem.W.nsIn X.K cStatics "sys.int_max_str_digits" = some none) : CallR X (.builtin "repr") rReprD := by
  intro pins s σ H xs us Q I r hh
  obtain ⟨v, d, rfl, th, hi, hd, hz, q⟩ := hh
  obtain ⟨u, rfl, ru⟩ := vals1 r
  have nd : s.heap.NoDigits := (nodig I.ok.mod e).keeps I.bk
  have done : ∀ (h' : Heap) (u tk : Nat), (∀ b o, s.heap.get? b = some o → h'.get? b = some o) → EP X pins σ Q (.str d.shown u) { s with heap := h', toks := tk } := fun h' u tk k => ⟨.str _, H, I.kept (t' := tk) k, ⟨_, rfl⟩, q⟩
  cases th with
  | non =>
    cases ru
    exact PySem.P.repr_of_none (by simpa only [PyData.shown] using done s.heap _ _ fun _ _ e => e)
  | bl b =>
    cases ru
    exact PySem.P.repr_of_bool (by simpa only [PyData.shown] using done s.heap _ _ fun _ _ e => e)
  | str x _ =>
    obtain ⟨t, rfl⟩ := ru
    exact PySem.P.repr_of_str (by simpa only [PyData.shown] using done s.heap _ _ fun _ _ e => e) (by simpa only [PyData.shown] using hz)
  | int i =>
    obtain ⟨t, rfl⟩ := ru
    refine call_repr_slot (by omega) (typeIs_int s i t) F.slot_int_repr.toG (call_int_reprS nd (by simpa only [okInt] using hi) ⟨_, _, rfl, ?_⟩)
    simpa only [PyData.shown] using done s.heap _ _ fun _ _ e => e
  | @lst a vs ds e1 t =>
    cases ru
    obtain ⟨_, its, m, rv, ho⟩ := (show ObjOk X.prog X.w H s.heap a (.lst vs) from I.hok a _ e1)
    have hz' : (listText (PyData.shownAll ds)).length ≤ sizeLine := by simpa only [PyData.shown] using hz
    obtain ⟨as, bs, ra, hb, hk⟩ := datAll_repr I.hok nd t rv (by simpa only [okInt] using hi) (fun q hq => Nat.le_trans (listText_mem_le hq) hz')
    have rl : Reads s.heap (.ref a) (.list ds) _ := .list ho rfl rfl ra
    have hna : a ∉ bs := not_mem_of_deeper rl (by simp only [PyData.depth]; omega) hb
    simp only [PyData.depth] at hd
    simp only [PyData.shown] at done
    refine call_repr_slot (by omega) ⟨_, ho, rfl⟩ F.slot_list_repr.toG ?_
    cases its with
    | nil =>
      cases ra
      simp only [PyData.shownAll, listText_nil] at done
      exact call_list_repr_empty ⟨_, ho, rfl⟩ ho rfl ⟨_, _, rfl, done s.heap _ _ fun _ _ e => e⟩
    | cons x l => exact call_list_reprK (h₀ := s.heap) ho rfl rfl hna (by simpa using hk.length_eq) (fun i y e => hk.item i y (by simpa using e)) (A := X.A.in1) (g := []) hg (fun b _ => Clear.nil b) (by show X.A.units + 1 + (PyData.depthAll ds + 1) < cLine; omega) (fun _ _ e => e) (fun h' u tk k => ⟨_, _, rfl, done h' u tk k⟩) hz'
  | @tup a vs ds e1 t =>
    cases ru
    obtain ⟨_, its, rv, o, ho, hc, m, hdd⟩ := (show ObjOk X.prog X.w H s.heap a (.tup vs) from I.hok a _ e1)
    have hz' : (tupleText (PyData.shownAll ds)).length ≤ sizeLine := by simpa only [PyData.shown] using hz
    obtain ⟨as, bs, ra, hb, hk⟩ := datAll_repr I.hok nd t rv (by simpa only [okInt] using hi) (fun q hq => Nat.le_trans (tupleText_mem_le hq) hz')
    have rl : Reads s.heap (.ref a) (.tuple ds) _ := .tuple ho hc hdd ra
    have hna : a ∉ bs := not_mem_of_deeper rl (by simp only [PyData.depth]; omega) hb
    simp only [PyData.depth] at hd
    simp only [PyData.shown] at done
    refine call_repr_slot (by omega) ⟨_, ho, hc⟩ F.slot_tuple_repr ?_
    exact call_tuple_reprK (h₀ := s.heap) ho hc hdd hna hk (A := X.A.in1) (g := []) hg (fun b _ => Clear.nil b) (by show X.A.units + 1 + (PyData.depthAll ds + 1) < cLine; omega) (fun _ _ e => e) (fun h' u tk k => ⟨_, _, rfl, done h' u tk k⟩) hz'
  | @d0 a e1 =>
    cases ru
    obtain ⟨_, ns, vs, kv, o, es, ep, ho, hx, hdd, hk, hp, _⟩ := (show ObjOk X.prog X.w H s.heap a (.dK []) from I.hok a _ e1)
    cases kv
    have e0 : es.toList = [] := by
      generalize es.toList = l at hp
      cases hp
      rfl
    have hsys : (a == sysModules) = false := beq_eq_false_iff_ne.mpr fun z => by
      rw [z] at ns
      simp at ns
    simp only [PyData.shown, PyData.shownKv] at done
    refine call_repr_slot (by omega) ⟨_, ho, hx.1⟩ F.slot_dict_repr ?_
    exact call_dict_reprK (h₀ := s.heap) (as := []) (d := 0) (ps := []) ho hx.1 hdd hsys (by simp) (by rw [e0]; exact .nil) (A := X.A.in1) (g := []) hg (fun b _ => Clear.nil b) (by show X.A.units + 1 + 1 < cLine; omega) (fun _ _ e => e) (fun h' u tk k => ⟨_, _, rfl, done h' u tk k⟩)
end
end KF
namespace L2
open PySem PySem.Spec PyProof.Rows
/-! ### a def that is called where no repr runs -/
structure FnG (P : Program) (w : World) (K : PySem.W.Frag) (mg : Str → Option Value) (base : Heap) (k : Nat) (f : Addr) (fd : FuncData) (ps : List Str) (sp : Sp) : Prop where
  len : ∀ vs H Q E, sp vs H Q E → vs.length = ps.length
  run : ∀ (A : Around) (outer : List Env) (s : Shared) (H : Hp) (args : Args) (us : List Value) (vs : List V) (Q : VK) (E : XK), A.guards = some [] → Room k A → Env0 P w K mg base A outer s H → BindsTo s fd args (ps.zip us) → Vals vs us → sp vs H Q E →
    codeAny (model P w) A (.call (.ref f) args) (CR CX0 outer P w H s Q E) s
section
variable {P : Program} {w : World} {K : PySem.W.Frag} {mg : Str → Option Value} {base : Heap}
theorem Fun.okG {x qual : Str} {st : Stmt} {f : Addr} {fd : FuncData} {N ps : List Str} {k : Nat} {sp : Sp} (F : Fun K x qual st f fd) (S : FnScope N ps (defScope st)) (len : ∀ vs H Q E, sp vs H Q E → vs.length = ps.length)
    (hbody : ∀ (cdv : Value) (A : Around) (outer : List Env) (s : Shared) (H : Hp) (vs : List V) (Q : VK) (E : XK), A.guards = some [] → Room k (A.deeper (envOfC qual (defScope st) s.heap.objs.size f cdv)) → sp vs H Q E →
      ∃ t, PSs (cxOf CX0 P w K mg base N qual (defScope st) f cdv A outer s H E).nox (defBody st) t ∧ t { nx := fun _ H' => Q .non H', rt := Q } (start N vs) H) : FnG P w K mg base (k + 1) f fd ps sp := by
  obtain ⟨oc, od, kV, doc, pm, an, cdv, ct, osl, rfl, lk, hcd⟩ := F.ex
  refine ⟨len, fun A outer s H args us vs Q E hg hr e0 hb r hsp => ?_⟩
  obtain ⟨t, ht, hq⟩ := hbody cdv A outer s H vs Q E hg (hr.deeper _) hsp
  have KX : K.In s.heap := e0.mod.kin.keeps fun b o z => (e0.bs b o z).1
  have inPar : ∀ y ∈ ps.zip us, (defScope st).names.lookup y.1 = some .local ∨ ((defScope st).names.lookup y.1 = some .cell ∧ ((cellsFrom (s.heap.objs.size + 1) (defScope st).names []).lookup y.1).isSome = true) := by
    intro y hy
    have hin : y.1 ∈ ps := (List.of_mem_zip (a := y.1) (b := y.2) hy).1
    rcases S.par y.1 hin with z | z
    · exact .inl z
    · exact .inr ⟨z, PySem.W.cellsFrom_some _ _ _ (.inl z)⟩
  refine codeAny_call_function hr.depth (KX _ _ lk) rfl S.co S.gen rfl (PySem.W.codeRec_of KX hcd) (hb _ _ _ _ ?_)
  refine wpAny_newFunctionEnv_cells S.kind inPar fun env he s1 ic => ?_
  subst he
  have I := inv_start (CX := CX0) (E := E) (cd := cdv) (qual := qual) (f := f) S hr.hd e0 (len _ _ _ _ hsp) r ic
  refine ⟨(e0.mod.nolimit.keeps fun b o z => (e0.bs b o z).1).keeps ic.toInCall.keep, codeAny_func ?_⟩
  refine wpAny_mono (ht.nox.run [] s1 (start N vs) H _ I hq) (fun fl s' q => ?_) fun _ _ z => z
  cases fl with
  | next =>
    obtain ⟨σ', H', J, z⟩ := q
    exact ⟨.non, H', J.os, J.bare, J.base, J.hok, rfl, z⟩
  | ret u =>
    obtain ⟨v, σ', H', J, rv, z⟩ := q
    exact ⟨v, H', J.os, J.bare, J.base, J.hok, rv, z⟩
  | brk =>
    obtain ⟨_, _, _, z⟩ := q
    exact z.elim
  | cont =>
    obtain ⟨_, _, _, z⟩ := q
    exact z.elim
end
section
variable {X : Cx} {k : Nat} {f : Addr} {fd : FuncData} {ps : List Str} {sp : Sp} {x : Str} {p pos : Pos} {e : Expr} {es : List Expr} {t : TA}
theorem pe_callG (F : FnG X.prog X.w X.K X.mg X.base k f fd ps sp) (hg : X.A.guards = some []) (hr : Room k X.A) (gl : Gl X x) (hm : X.mg x = some (.ref f)) (hk : PySem.W.keepIn X.K (.ref f) = true) (hb : Binds X.K fd ps []) (ha : PA X (e :: es) t)
    (hdb : (x == ("__debug__" : Str)) = false := by decide) (he : starEach (e :: es) X.env = (false, eval e X.env) :: starEach es X.env := by rfl) (hpl : (backTo pos (starEach es X.env)).any (·.1) = false := by rfl) :
    PE X (.Call (.Name x p) (e :: es) [] pos) (tCall sp [] E0 t) := by
  refine ⟨fun pins s σ H Q I h => ?_⟩
  refine wpAny_Call_Name_kw (ld_glob I gl hm ?_ hdb)
  refine PySem.W.callWith_K (h₀ := X.base) I.ok.mod.kin hk (thn (ha.run pos pins s σ H _ I h) fun us s1 hh => ?_) he hpl
  obtain ⟨vs, H1, I1, r, q⟩ := hh
  refine ⟨I1.kIn, ?_⟩
  have q' : sp vs H1 Q E0 := by
    have z : sp (vs ++ []) H1 Q E0 := q
    rw [List.append_nil] at z
    exact z
  have hl : us.length = ps.length := r.length.symm.trans (F.len _ _ _ _ q')
  have b := hb s1 us I1.kIn (by rw [List.append_nil]; exact hl)
  rw [List.append_nil] at b
  refine wpAny_call (codeAny_mono (F.run X.A X.stack s1 H1 ⟨us, []⟩ us vs Q E0 hg hr I1.env0 b r q') fun res s' z => ?_)
  cases res with
  | error er => exact False.elim z
  | ok fl =>
    cases fl with
    | ret u => exact I1.after z
    | next => exact False.elim z
    | brk => exact False.elim z
    | cont => exact False.elim z
end
end L2
namespace L2
open PySem PySem.Spec PyProof.Rows
section
variable {P : Program} {w : World} {K : PySem.W.Frag} {mg mb : Str → Option Value} {k : Nat} {fa a : Addr} {fd : FuncData} {x : Str} {sp : Sp} {s1 : Shared} {vs : List Value} {ns : List Int}
/-- the law's call where at most the script is tracked (at a) -/
theorem callG_at (KX : K.In s1.heap) (hns : s1.heap.Ns mainGlobals mg) (hb : s1.heap.Ns builtinsNs mb) (hbb : ∀ x : Str, x ≠ "__name__" → mb x = bootBuiltins x) (hlim : s1.heap.NoLimit) (hg : s1.gens = #[])
    (ha : s1.heap.get? a = some { cls := .type "list", data := .seq vs.toArray }) (hr : Room k callerA) (F : ∀ base : Heap, K.In base → base.Ns mainGlobals mg → FnG P w K mg base k fa fd [x] sp)
    (hbind : ∀ (s : Shared) (u : Value), BindsTo s fd ⟨[u], []⟩ [(x, u)]) (H : Hp) (hO : Only H) (hok : HOk P w H s1.heap) (hA : ∀ b, H b ≠ none → b = a) (hK : H a ≠ none → K.lookup a = none)
    (hsp : sp [.ref a] H (fun v _ => v = .bl true) fun _ _ _ => False) :
    codeAny (model P w) callerA (.call (.ref fa) ⟨[.ref a], []⟩) (fun r s' => r = .ok (.ret (.bool true)) ∧ OldK s1.heap s'.heap ∧ s'.os = s1.os ∧ AllBare s'.gens) s1 := by
  have free : ∀ {b : Addr} {o : Obj}, s1.heap.get? b = some o → o.data ≠ .seq vs.toArray → H b = none := by
    intro b o e hd
    cases q : H b with
    | none => rfl
    | some u =>
      have eb := hA b (by rw [q]; exact fun z => nomatch z)
      rw [eb, ha] at e
      cases e
      exact absurd rfl hd
  have nsB : ∀ {b : Addr} {m : Str → Option Value}, s1.heap.Ns b m → (hidT s1.heap H).Ns b m := by
    intro b m hn
    refine hn.at fun o e => hidT_get e ?_
    obtain ⟨o', es, ep, e', d, -⟩ := hn
    rw [e] at e'
    cases e'
    exact free e (by rw [d]; exact fun z => nomatch z)
  have KB : K.In (hidT s1.heap H) := fun b o e => by
    refine hidT_get (KX b o e) ?_
    cases q : H b with
    | none => rfl
    | some u =>
      have hb0 : H b ≠ none := by rw [q]; exact fun z => nomatch z
      have eb := hA b hb0
      rw [eb] at hb0 e
      rw [hK hb0] at e
      cases e
  have M : Mod K mg (hidT s1.heap H) := ⟨KB, nsB hns, ⟨mb, nsB hb, hbb⟩, by obtain ⟨mc, h1, h2⟩ := hlim; exact ⟨mc, nsB h1, h2⟩⟩
  have e0 : Env0 P w K mg (hidT s1.heap H) callerA [] s1 H := ⟨rfl, M, fun _ _ e => of_hidT e, Nat.le_of_eq (hidT_size _ _), trivial, fun b z => absurd (show b ∈ ([] : List Addr) from z) (List.not_mem_nil), hok, .of_eq hg⟩
  refine codeAny_mono ((F _ KB (nsB hns)).run callerA [] s1 H ⟨[.ref a], []⟩ [.ref a] [.ref a] _ _ rfl hr e0 (hbind s1 (.ref a)) (.cons rfl .nil) hsp) fun r s' z => ?_
  cases r with
  | error e => exact False.elim z
  | ok fl =>
    cases fl with
    | next => exact False.elim z
    | brk => exact False.elim z
    | cont => exact False.elim z
    | ret u =>
      obtain ⟨v, H', os, bare, un, hok', rv, q⟩ := z
      have q' : v = .bl true := q
      subst q'
      obtain rfl : u = Value.bool true := rv
      refine ⟨rfl, OldK.of_keep fun b o e => ?_, os, bare⟩
      cases qb : H b with
      | none => exact un.keep b o e qb (fun z => absurd (show b ∈ ([] : List Addr) from z) (List.not_mem_nil)) (List.not_mem_nil)
      | some y =>
        rcases hO b with z | ⟨ob, xs, z⟩
        · rw [qb] at z
          cases z
        · have e1 := (hok b _ z).1
          have e2 := (hok' b _ (un.frzs b ob _ z)).1
          rw [e] at e1
          cases e1
          exact e2
end
theorem walk_G {l : PySem.W.OpenLaw} {n k : Nat} {q : Program} {loose : List Str} {XP : (Str → Option Value) → Heap → Prop} {YP : World → Heap → Prop} {d : DefRec} {K : Params → PySem.W.Frag} {sp : PySem.W.Frag → Sp} {x : Str}
    (hn : l.most = some n) (hn2 : n ≤ sizeLine) (hdf : d.params.defaults = []) (hr : Room k callerA) (hY : ∀ (w : World) (h : Heap), YP w h → (K w.params).In h)
    (F : ∀ (w : World) (mg : Str → Option Value) (fa : Addr) (h : Heap), (K w.params).In h → h.Ns mainGlobals mg → mg d.name = some (.ref fa) →
      ∃ fd : FuncData, (∀ (s : Shared) (u : Value), BindsTo s fd ⟨[u], []⟩ [(x, u)]) ∧ ∀ base : Heap, (K w.params).In base → base.Ns mainGlobals mg → FnG l.prog w (K w.params) mg base k fa fd [x] (sp (K w.params)))
    (hsp : ∀ (K : PySem.W.Frag) (H : Hp) (a : Addr) (ns : List Int), ns.length ≤ n → Only H → SqL K H a (ns.map V.int) → sp K [.ref a] H (fun v _ => v = .bl true) fun _ _ _ => False) :
    PySem.W.WalkO q loose XP YP l.row.toRowW d [] (fun f vs => PySem.call f vs) := by
  refine Att.attach_call hn hdf fun w s₀ s1 mg mb fa o pm cd doc a vs ns G Y ho hd hcd hmg hobj hints hlen hg => ?_
  have KX := hY w _ Y
  obtain ⟨fd, hb, hF⟩ := F w mg fa _ KX G.T.g hmg
  have hl : ns.length ≤ sizeLine := Nat.le_trans hlen hn2
  have rv := vals_ints hints
  cases hk : (K w.params).lookup a with
  | some oa =>
    have e := KX a oa hk
    rw [hobj] at e
    cases e
    refine callG_at KX G.T.g G.T.b G.T.builtins G.T.nolimit hg hobj hr hF hb (fun _ => none) (fun _ => .inl rfl) (fun b u z => nomatch z) (fun b z => absurd rfl z) (fun z => absurd rfl z) (hsp _ _ a ns hlen (fun _ => .inl rfl) ?_)
    exact .inr ⟨_, vs.toArray, _, hk, rfl, rfl, rfl, by rw [List.size_toArray, hints.length]; exact hl, by simpa using rv⟩
  | none =>
    let H : Hp := fun b => if b = a then some (.frz { cls := .type "list", data := .seq vs.toArray } (.lst (ns.map V.int))) else none
    have Ha : H a = some (.frz { cls := .type "list", data := .seq vs.toArray } (.lst (ns.map V.int))) := if_pos rfl
    have Hn : ∀ {b : Addr}, b ≠ a → H b = none := fun h => if_neg h
    have only : Only H := fun b => by
      by_cases hb : b = a
      · exact .inr ⟨_, _, by rw [hb]; exact Ha⟩
      · exact .inl (Hn hb)
    refine callG_at KX G.T.g G.T.b G.T.builtins G.T.nolimit hg hobj hr hF hb H only (fun b u z => ?_) (fun b z => ?_) (fun _ => hk) (hsp _ H a ns hlen only (.inl (.inr ⟨_, Ha⟩)))
    · by_cases hb : b = a
      · rw [hb, Ha] at z
        cases z
        rw [hb]
        exact ⟨hobj, by rw [List.length_map]; exact hl, vs, _, rv, hobj⟩
      · rw [Hn hb] at z
        cases z
    · by_cases hb : b = a
      · exact hb
      · exact absurd (Hn hb) z
end L2
namespace L2
open PySem PySem.Spec PyProof.Rows
/-! ### f(k = v, ..), nothing by position -/
def tCallKw (sp : Sp) (gV : List V → List V → List V) (E : XK) (tk : TA) : TE := fun σ H Q => tk σ H fun zs H1 => sp (gV [] zs) H1 Q E
section
variable {X : Cx} {CX : CXT} {k : Nat} {f : Addr} {fd : FuncData} {ps ks : List Str} {sp : Sp} {E : XK} {x : Str} {p pos : Pos} {kws : List Keyword} {tk : TA} {g : List Value → List Value → List Value} {gV : List V → List V → List V}
theorem pe_callKw (F : FnOk X.prog X.w X.K X.mg X.base CX k f fd ps sp) (hr : Room k X.A) (hg : Gl X x) (hm : X.mg x = some (.ref f)) (hk : PySem.W.keepIn X.K (.ref f) = true) (hb : KBinds X.K fd ps ks g gV) (hx : Passes CX X E)
    (hkw : PK X kws tk) (hall : (backToKw pos (keywordEach kws X.env)).all (·.1.isSome) = true := by rfl) (hks : (backToKw pos (keywordEach kws X.env)).filterMap (·.1) = ks := by rfl) (hdb : (x == ("__debug__" : Str)) = false := by decide)
    (hpl : ((backTo pos (starEach [] X.env)).any (·.1) || (backToKw pos (keywordEach kws X.env)).any (·.1.isNone)) = false := by rfl) :
    PE X (.Call (.Name x p) [] kws pos) (tCallKw sp gV E tk) := by
  refine ⟨fun pins s σ H Q I h => wpAny_Call_Name_kw (ld_glob I hg hm ?_ hdb)⟩
  refine PySem.W.callWith_KW0 (h₀ := X.base) I.ok.mod.kin hk hall (thn (hkw.run pos pins s σ H _ I h) fun ws s2 hh => ?_) hpl
  obtain ⟨zs, H2, I2, rz, q2⟩ := hh
  refine ⟨I2.kIn, ?_⟩
  rw [hks]
  exact run_fnk (us := []) (vs := []) F hr hb hx I2 .nil rz q2
end
end L2
namespace KF
open PySem PySem.Spec PyProof.Rows L2
/-! ### written data: what it is, wherever it lies -/
def tDat (d : PyData) : TE := fun _ H Q => ∀ (v : V) (H' : Hp), Same H H' → Dat H' v d → Q v H'
def tDats (ds : List PyData) : TA := fun _ H Q => ∀ (vs : List V) (H' : Hp), Same H H' → DatAll H' vs ds → Q vs H'
section
variable {X : Cx} {e : Expr} {es : List Expr} {d : PyData} {ds : List PyData}
theorem pe_weak {t t' : TE} (h : PE X e t) (w : ∀ σ H Q, t' σ H Q → t σ H Q) : PE X e t' := ⟨fun pins s σ H Q I hq => h.run pins s σ H Q I (w σ H Q hq)⟩
theorem pa_weak {t t' : TA} (h : PA X es t) (w : ∀ σ H Q, t' σ H Q → t σ H Q) : PA X es t' := ⟨fun pos pins s σ H Q I hq => h.run pos pins s σ H Q I (w σ H Q hq)⟩
theorem pd_nil : PA X [] (tDats []) := pa_weak pa_nil fun σ H Q h => h [] H (Same.refl H) .nil
theorem pd_cons (a : PE X e (tDat d)) (b : PA X es (tDats ds)) (hs : starEach (e :: es) X.env = (false, eval e X.env) :: starEach es X.env := by rfl) : PA X (e :: es) (tDats (d :: ds)) :=
  pa_weak (pa_cons a b hs) fun σ H Q h v H1 S1 dv vs H2 S2 dvs => h (v :: vs) H2 (S1.trans S2) (.cons (dv.same S2) dvs)
theorem pd_tup {ctx : Nat} {pos : Pos} (hl : ds.length ≤ 1000) (a : PA X es (tDats ds)) : PE X (.Tuple es ctx pos) (tDat (.tuple ds)) :=
  pe_weak (pe_tup a) fun σ H Q h vs H1 S1 dvs => ⟨by rw [dvs.len, sizeLine_eq]; omega, fun p np => h (.ref p) _ (S1.trans (same_new np)) (.tup upd_same (dvs.same (same_new np)))⟩
theorem pd_lst {pos : Pos} (hl : ds.length ≤ 1000) (a : PA X es (tDats ds)) : PE X (.List es pos) (tDat (.list ds)) :=
  pe_weak (pe_lst a) fun σ H Q h vs H1 S1 dvs => ⟨by rw [dvs.len, sizeLine_eq]; omega, fun p np => h (.ref p) _ (S1.trans (same_new np)) (.lst upd_same (dvs.same (same_new np)))⟩
theorem pd_of {v : V} (a : PE X e (tC v)) (h : ∀ H : Hp, Dat H v d) : PE X e (tDat d) := pe_weak a fun σ H Q q => q v H (Same.refl H) (h H)
theorem pd_none (a : PE X e (tC .non)) : PE X e (tDat .none) := pd_of a fun _ => .non
theorem pd_bool {b : Bool} (a : PE X e (tC (.bl b))) : PE X e (tDat (.bool b)) := pd_of a fun _ => .bl b
theorem pd_int {i : Int} (a : PE X e (tC (.int i))) : PE X e (tDat (.int i)) := pd_of a fun _ => .int i
theorem pd_str {x : Str} (hx : x.length ≤ 1000) (a : PE X e (tC (.str x))) : PE X e (tDat (.str x)) := pd_of a fun _ => .str x hx
theorem pd_neg {i : Int} {pos : Pos} (a : PE X e (tC (.int i))) : PE X (.UnaryOp .USub e pos) (tDat (.int (-i))) := pe_weak (pe_un un_neg a) fun σ H Q q => ⟨i, rfl, q _ H (Same.refl H) (.int _)⟩
theorem pd_dict {pos : Pos} : PE X (.Dict [] [] pos) (tDat (.dict [])) := pe_weak pe_dnewK fun σ H Q q p np => q (.ref p) _ (same_new np) (.d0 upd_same)
end
end KF
set_option maxRecDepth 100000
set_option maxHeartbeats 4000000
namespace KF
open PySem PySem.Spec PyProof.Rows L2
/-! ### counts of letters, numbers between -/
abbrev Cn : Type := List (Str × Nat)
def cntsD (cs : Cn) : PyData := .tuple (cs.map fun c => .tuple [.str c.1, .int (c.2 : Nat)])
def isS (z : Str) : PyData → Bool
  | .str y => decide (y = z)
  | _ => false
def intOf : PyData → Int
  | .int i => i
  | _ => 0
theorem btw_int {lo hi : Int} {d : PyData} (h : btw lo hi d = true) : ∃ i, d = .int i ∧ lo ≤ i ∧ i ≤ hi := by
  cases d with
  | int i =>
    have h' : (decide (lo ≤ i) && decide (i ≤ hi)) = true := h
    rw [Bool.and_eq_true] at h'
    exact ⟨i, rfl, of_decide_eq_true h'.1, of_decide_eq_true h'.2⟩
  | _ => cases h
theorem btw_mk {lo hi i : Int} (h1 : lo ≤ i) (h2 : i ≤ hi) : btw lo hi (.int i) = true := by
  show (decide (lo ≤ i) && decide (i ≤ hi)) = true
  rw [decide_eq_true h1, decide_eq_true h2]
  rfl
theorem isS_iff {z : Str} {d : PyData} : isS z d = true ↔ d = .str z := by
  cases d with
  | str y =>
    show decide (y = z) = true ↔ _
    rw [decide_eq_true_iff]
    constructor
    · rintro rfl
      rfl
    · intro h
      injection h
  | _ => exact ⟨(fun h => by cases h), (fun h => by cases h)⟩
end KF
set_option maxRecDepth 100000
set_option maxHeartbeats 4000000
namespace KF
open PySem PySem.Spec PyProof.Rows
open PySem.AutoSeq1 (wpAny_loadPart')
/-! ### a dict beside a text -/
theorem sub_str_dict : isSubtype (.type "str") (.type "dict") = pure false := by
  rw [isSubtype_type]
  kernel_rfl
theorem sub_dict_str : isSubtype (.type "dict") (.type "str") = pure false := by
  rw [isSubtype_type]
  kernel_rfl
theorem dict_no_str (l : Addr) (dd : Option Addr) (es : Array DictEntry) (ep : Nat) (sl : Array (Option Value)) (b : Str) (u : Tok) :
    Meets (Builtin.«dict.__eq__» ⟨[.ref l, .str b u], []⟩) (fun _ R s => s.heap.get? l = some { cls := .type "dict", dict := dd, data := .dict es ep, slots := sl } ∧ R (.ok (.ret .notImplemented)) s) :=
  .of_wp fun prog w A R s h => by
    obtain ⟨hp, g, d, tk, os⟩ := s
    obtain ⟨hl, h⟩ := h
    have f1 := sub_str_dict
    wp_walk using wpAny_loadPart' hl
    exact ⟨_, rfl, h⟩
theorem str_no_dict (l : Addr) (dd : Option Addr) (es : Array DictEntry) (ep : Nat) (sl : Array (Option Value)) (b : Str) (u : Tok) :
    Meets (Builtin.«str.__eq__» ⟨[.str b u, .ref l], []⟩) (fun _ R s => s.heap.get? l = some { cls := .type "dict", dict := dd, data := .dict es ep, slots := sl } ∧ R (.ok (.ret .notImplemented)) s) :=
  .of_wp fun prog w A R s h => by
    obtain ⟨hp, g, d, tk, os⟩ := s
    obtain ⟨hl, h⟩ := h
    wp_walk using wpAny_loadPart' hl, wpAny_load hl
    exact ⟨_, rfl, h⟩
end KF
namespace PySem.SeqAt
open PySem PyProof.Rows
theorem k2_dict_str {A : Around} {s : Shared} {l : Addr} {dd : Option Addr} {es : Array DictEntry} {ep : Nat} {sl : Array (Option Value)} (b : Str) (u : Tok) (hl : s.heap.get? l = some { cls := .type "dict", dict := dd, data := .dict es ep, slots := sl }) (hu : A.units < cLine) :
    RcAt A s (.ref l) (.str b u) false := fun prog w E Q h =>
  rc_eq_decline_or (k := false) ⟨_, hl, rfl⟩ (typeIs_str s b u) (by decide) KF.sub_str_dict PySem.F.slot_dict_eq F.slot_str_eq_refl
    (fun _ hq => call_meets PySem.F.slot_dict_eq ⟨_, hl, rfl⟩ PySem.F.entry_dict_eq (PySem.F.args_dict_eq_2 _ _) (KF.dict_no_str l dd es ep sl b u) ⟨hl, hq⟩)
    (fun _ hq => call_meets F.slot_str_eq_refl (typeIs_str s b u) F.entry_str_eq (F.args_str_eq_2 _ _) (KF.str_no_dict l dd es ep sl b u) ⟨hl, hq⟩)
    (fun _ hq => wpAny_of_eq (rfl : isSame (.ref l) (.str b u) = pure false) hq) (.inr hu) h
end PySem.SeqAt
namespace KF
open PySem PySem.Spec PyProof.Rows L2
/-- any value beside a text -/
def eqStr (z : Str) : PyData → Bool
  | .str x => x == z
  | _ => false
def rEqStr : R2 := fun x y H Q => ∃ d z, Dat H x d ∧ y = .str z ∧ Q (.bl (eqStr z d)) H
section
variable {X : Cx}
theorem op_eqStr (hu : X.A.units < cLine) : OpR X (compareOp .Eq) rEqStr := by
  intro pins s σ H x y v u Q I rx ry h
  obtain ⟨d, z, hd, rfl, q⟩ := h
  obtain ⟨t, rfl⟩ := ry
  have fin : ∀ k : Bool, k = eqStr z d → EP X pins σ Q (.bool k) s := fun k e => ⟨.bl k, H, I, rfl, by rw [e]; exact q⟩
  cases hd with
  | non =>
    cases rx
    exact PySem.SeqAt.RcAt.none_str z t _ _ _ _ (fin _ rfl)
  | bl b =>
    cases rx
    exact PySem.SeqAt.RcAt.bool_str b z t _ _ _ _ (fin _ rfl)
  | int i =>
    obtain ⟨t2, rfl⟩ := rx
    exact PySem.SeqAt.RcAt.int_str i t2 z t _ _ _ _ (fin _ rfl)
  | str x hx =>
    obtain ⟨t2, rfl⟩ := rx
    exact PySem.SeqAt.RcAt.str_str x t2 z t _ _ _ _ (fin _ rfl)
  | @lst a xs ds ha hx =>
    cases rx
    obtain ⟨its, rv, p, _⟩ := I.list (SqL.of ha)
    exact PySem.SeqAt.RcAt.list_str z t p.isList hu _ _ _ _ (fin _ rfl)
  | @tup a xs ds ha hx =>
    cases rx
    obtain ⟨its, rv, p, _⟩ := I.tuple (SqT.of ha)
    exact PySem.SeqAt.RcAt.tuple_str z t p hu _ _ _ _ (fin _ rfl)
  | @d0 a ha =>
    cases rx
    obtain ⟨_, ns, vs, kv, o, es, ep, ho, hx, hd, hk, hp, _⟩ := (show ObjOk X.prog X.w H s.heap a (.dK []) from I.hok a _ ha)
    obtain ⟨oc, od, dt, sl⟩ := o
    have e1 : oc = .type "dict" := hx.1
    have e2 : dt = .dict es ep := hd
    subst e1 e2
    exact PySem.SeqAt.k2_dict_str z t ho hu _ _ _ _ (fin _ rfl)
end
end KF
namespace PySem.SeqAt
open PySem PyProof.Rows
theorem k2_str_dict {A : Around} {s : Shared} {l : Addr} {dd : Option Addr} {es : Array DictEntry} {ep : Nat} {sl : Array (Option Value)} (b : Str) (u : Tok) (hl : s.heap.get? l = some { cls := .type "dict", dict := dd, data := .dict es ep, slots := sl }) (hu : A.units < cLine) :
    EqAt A s (.str b u) (.ref l) false := fun prog w E Q h => by
  unfold eqBool
  refine wpAny_holding (wpAny_ite_split (fun hab => absurd (eq_of_beq hab) nofun) fun _ => wpAny_bind ?_)
  exact rc_eq_decline_or (k := false) (typeIs_str s b u) ⟨_, hl, rfl⟩ (by decide) KF.sub_dict_str F.slot_str_eq PySem.F.slot_dict_eq_refl
    (fun _ hq => call_meets F.slot_str_eq (typeIs_str s b u) F.entry_str_eq (F.args_str_eq_2 _ _) (KF.str_no_dict l dd es ep sl b u) ⟨hl, hq⟩)
    (fun _ hq => call_meets PySem.F.slot_dict_eq_refl ⟨_, hl, rfl⟩ PySem.F.entry_dict_eq (PySem.F.args_dict_eq_2 _ _) (KF.dict_no_str l dd es ep sl b u) ⟨hl, hq⟩)
    (fun _ hq => wpAny_of_eq (rfl : isSame (.str b u) (.ref l) = pure false) hq) (.inr hu) (wpAny_truthy_bool h)
end PySem.SeqAt
namespace KF
open PySem PySem.Spec PyProof.Rows L2
section
variable {X : Cx}
/-- a text among the items, held against any value -/
theorem str_eqAt {pins : List (Addr × Obj)} {σ : L2.St} {H : Hp} {s : Shared} {x : V} {v : Value} {d : PyData} (I : Inv X pins σ H s) (hd : Dat H x d) (rx : RelV x v) {A : Around} (hu : A.units < cLine) (z : Str) (t : Tok) : SeqAt.EqAt A s (.str z t) v (eqStr z d) := by
  cases hd with
  | non =>
    cases rx
    exact SeqAt.EqAt.str_none z t
  | bl b =>
    cases rx
    exact SeqAt.EqAt.str_bool z t b
  | int i =>
    obtain ⟨t2, rfl⟩ := rx
    exact SeqAt.EqAt.str_int z t i t2
  | str y hy =>
    obtain ⟨t2, rfl⟩ := rx
    have e : eqStr z (.str y) = (z == y) := by
      show (y == z) = (z == y)
      by_cases h : y = z
      · rw [h]
      · rw [beq_eq_false_iff_ne.mpr h, beq_eq_false_iff_ne.mpr (Ne.symm h)]
    rw [e]
    exact SeqAt.EqAt.str_str z t y t2
  | @lst a xs ds ha hx =>
    cases rx
    obtain ⟨its, rv, p, _⟩ := I.list (SqL.of ha)
    exact SeqAt.EqAt.str_list z t p.isList hu
  | @tup a xs ds ha hx =>
    cases rx
    obtain ⟨its, rv, p, _⟩ := I.tuple (SqT.of ha)
    exact SeqAt.EqAt.str_tuple z t p hu
  | @d0 a ha =>
    cases rx
    obtain ⟨_, ns, vs, kv, o, es, ep, ho, hx, hd, hk, hp, _⟩ := (show ObjOk X.prog X.w H s.heap a (.dK []) from I.hok a _ ha)
    obtain ⟨oc, od, dt, sl⟩ := o
    have e1 : oc = .type "dict" := hx.1
    have e2 : dt = .dict es ep := hd
    subst e1 e2
    exact SeqAt.k2_str_dict z t ho hu
/-- x in (texts), x not in (texts) -/
def rInStrs (neg : Bool) : R2 := fun x y H Q => ∃ (d : PyData) (p : Addr) (zs : List Str), Dat H x d ∧ y = .ref p ∧ H p = some (.tup (zs.map V.str)) ∧ Q (.bl (if neg then !zs.any fun z => eqStr z d else zs.any fun z => eqStr z d)) H
def eStr (d : PyData) : Value → Bool
  | .str z _ => eqStr z d
  | _ => false
theorem any_strs {d : PyData} : ∀ {zs : List Str} {its : List Value}, Vals (zs.map V.str) its → its.any (eStr d) = zs.any fun z => eqStr z d
  | [], _, .nil => rfl
  | z :: zs, _, .cons r rs => by
    obtain ⟨t, rfl⟩ := r
    rw [List.any_cons, List.any_cons, any_strs rs]
    rfl
theorem mem_strs {zs : List Str} {its : List Value} (r : Vals (zs.map V.str) its) : ∀ y ∈ its, ∃ z t, y = .str z t := by
  intro y hy
  obtain ⟨i, hi⟩ := List.mem_iff_getElem?.mp hy
  have hl := r.length
  have hlt := (List.getElem?_eq_some_iff.mp hi).1
  obtain ⟨x, hx⟩ : ∃ x, (zs.map V.str)[i]? = some x := ⟨_, List.getElem?_eq_getElem (by omega)⟩
  obtain ⟨u, hu, ru⟩ := r.get hx
  rw [hi] at hu
  cases hu
  rw [List.getElem?_map] at hx
  cases e : zs[i]? with
  | none =>
    rw [e] at hx
    cases hx
  | some z =>
    rw [e] at hx
    cases hx
    obtain ⟨t, rfl⟩ := ru
    exact ⟨z, t, rfl⟩
theorem op_notInStrs (hu : X.A.units + 1 < cLine) : OpR X (compareOp .NotIn) (rInStrs true) := by
  intro pins s σ H x y v u Q I rx ry h
  obtain ⟨d, p, zs, hd, rfl, hp, q⟩ := h
  cases ry
  obtain ⟨its, r, pl, _⟩ := I.tuple (SqT.of hp)
  refine SeqAt.notIn_tupleAt (eStr d) pl (fun w hw => ?_) ⟨.bl _, H, I, rfl, ?_⟩
  · obtain ⟨z, t, rfl⟩ := mem_strs r w (by simpa using hw)
    exact str_eqAt I hd rx hu z t
  · rw [show its.toArray.any (eStr d) = its.any (eStr d) by simp, any_strs r]
    exact q
theorem op_inStrs (hu : X.A.units + 1 < cLine) : OpR X (compareOp .In) (rInStrs false) := by
  intro pins s σ H x y v u Q I rx ry h
  obtain ⟨d, p, zs, hd, rfl, hp, q⟩ := h
  cases ry
  obtain ⟨its, r, pl, _⟩ := I.tuple (SqT.of hp)
  refine SeqAt.in_tupleAt (eStr d) pl (fun w hw => ?_) ⟨.bl _, H, I, rfl, ?_⟩
  · obtain ⟨z, t, rfl⟩ := mem_strs r w (by simpa using hw)
    exact str_eqAt I hd rx hu z t
  · rw [show its.toArray.any (eStr d) = its.any (eStr d) by simp, any_strs r]
    exact q
end
end KF
namespace KF
open PySem PySem.Spec PyProof.Rows L2
/-! ### promises -/
/-- a predicate of one value; no tracked object changes -/
def spP (f : PyData → Bool) : Sp := fun vs H Q _ => ∃ (v : V) (d : PyData), vs = [v] ∧ Dat H v d ∧ ∀ H', Same H H' → Q (.bl (f d)) H'
def spBtw : Sp := fun vs H Q _ => ∃ (v : V) (d : PyData) (lo hi : Int), vs = [v, .int lo, .int hi] ∧ Dat H v d ∧ ∀ H', Same H H' → Q (.bl (btw lo hi d)) H'
/-- a tuple of lo to hi items -/
def tupOf (lo hi : Int) : PyData → Bool
  | .tuple ds => decide (lo ≤ (ds.length : Int)) && decide ((ds.length : Int) ≤ hi)
  | _ => false
def spTup : Sp := fun vs H Q _ => ∃ (v : V) (d : PyData) (lo hi : Int), vs = [v, .int lo, .int hi] ∧ Dat H v d ∧ ∀ H', Same H H' → Q (.bl (tupOf lo hi d)) H'
abbrev sIsInt : Stmt := top 3
abbrev sBtw : Stmt := top 4
abbrev sTup : Stmt := top 6
section
variable {P : Program} {w : World} {K : PySem.W.Frag} {mg : Str → Option Value} {base : Heap}
theorem scIsInt : FnScope ["value"] ["value"] (defScope sIsInt) := ⟨rfl, rfl, rfl, by decide +kernel, rfl, by decide +kernel, by decide +kernel⟩
theorem scBtw : FnScope ["value", "low", "high"] ["value", "low", "high"] (defScope sBtw) := ⟨rfl, rfl, rfl, by decide +kernel, rfl, by decide +kernel, by decide +kernel⟩
theorem scTup : FnScope ["value", "least", "most"] ["value", "least", "most"] (defScope sTup) := ⟨rfl, rfl, rfl, by decide +kernel, rfl, by decide +kernel, by decide +kernel⟩
theorem ok_isint {f : Addr} {fd : FuncData} (F : Fun K "is_integer" "is_integer" sIsInt f fd) (T : Nm mg) : FnOk P w K mg base CX0 1 f fd ["value"] (spP isInt) := by
  refine F.ok scIsInt (fun vs H Q E h => ?_) (fun cdv A outer s H vs Q E hr h => ?_)
  · obtain ⟨v, d, rfl, _⟩ := h
    rfl
  · obtain ⟨v, d, rfl, hd, q⟩ := h
    refine ⟨_, pss_one (ps_ret (pe_and (pe_callB call_isi (by rfl) T.isinstance boot_isinstance (pa_cons (pv 0) (pa_cons (pe_bltn (v := .ty "int") rfl T.int (by decide +kernel) rfl) pa_nil)))
      (pe_one (pe_not (pe_callB call_isi (by rfl) T.isinstance boot_isinstance (pa_cons (pv 0) (pa_cons (pe_bltn (v := .ty "bool") rfl T.bool (by decide +kernel) rfl) pa_nil))))))), ?_⟩
    refine ⟨_, rfl, v, .ty "int", _, _, _, rfl, .ty _, hd.ty, kit_int _ d, _, rfl, ?_⟩
    have q' := q H fun _ _ e => e
    cases d with
    | int i => exact ⟨_, rfl, v, .ty "bool", _, _, _, rfl, .ty _, hd.ty, kit_bool _ _, _, rfl, q'⟩
    | bool b => exact ⟨_, rfl, v, .ty "bool", _, _, _, rfl, .ty _, hd.ty, kit_bool _ _, _, rfl, q'⟩
    | none => exact q'
    | str x => exact q'
    | list ds => exact q'
    | tuple ds => exact q'
    | dict kv => exact q'
theorem ok_btw {f fI : Addr} {fd fdI : FuncData} (F : Fun K "is_between" "is_between" sBtw f fd) (T : Nm mg) (I : DefOk K mg "is_integer" sIsInt ["value"] fI fdI) : FnOk P w K mg base CX0 2 f fd ["value", "low", "high"] spBtw := by
  have GI : FnOk P w K mg base CX0 1 fI fdI ["value"] (spP isInt) := ok_isint I.F T
  refine F.ok scBtw (fun vs H Q E h => ?_) (fun cdv A outer s H vs Q E hr h => ?_)
  · obtain ⟨v, d, lo, hi, rfl, _⟩ := h
    rfl
  · obtain ⟨v, d, lo, hi, rfl, hd, q⟩ := h
    refine ⟨_, pss_one (ps_ret (pe_and (pe_call GI hr rfl I.g I.F.kp I.b .nil pass0 (pa_cons (pv 0) pa_nil)) (pe_one (pe_chain op_le op_le (pv 1) (pv 0) (pv 2))))), ?_⟩
    refine ⟨_, rfl, v, d, rfl, hd, fun H' S => ⟨_, rfl, ?_⟩⟩
    have q' := q H' S
    cases d with
    | int i =>
      cases hd
      refine ⟨_, rfl, _, rfl, _, _, rfl, rfl, _, rfl, ?_⟩
      by_cases h : lo ≤ i
      · have e : btw lo hi (.int i) = decide (i ≤ hi) := by
          show (decide (lo ≤ i) && decide (i ≤ hi)) = _
          rw [decide_eq_true h, Bool.true_and]
        rw [e] at q'
        rw [if_pos (decide_eq_true h)]
        exact ⟨_, rfl, _, _, rfl, rfl, q'⟩
      · have e : btw lo hi (.int i) = false := by
          show (decide (lo ≤ i) && decide (i ≤ hi)) = _
          rw [decide_eq_false h, Bool.false_and]
        rw [e] at q'
        rw [if_neg (by rw [decide_eq_false h]; exact Bool.false_ne_true)]
        exact q'
    | bool b => exact q'
    | none => exact q'
    | str x => exact q'
    | list ds => exact q'
    | tuple ds => exact q'
    | dict kv => exact q'
theorem ok_tup {f : Addr} {fd : FuncData} (F : Fun K "is_tuple" "is_tuple" sTup f fd) (T : Nm mg) : FnOk P w K mg base CX0 1 f fd ["value", "least", "most"] spTup := by
  refine F.ok scTup (fun vs H Q E h => ?_) (fun cdv A outer s H vs Q E hr h => ?_)
  · obtain ⟨v, d, lo, hi, rfl, _⟩ := h
    rfl
  · obtain ⟨v, d, lo, hi, rfl, hd, q⟩ := h
    refine ⟨_, pss_one (ps_ret (pe_and (pe_callB call_isi (by rfl) T.isinstance boot_isinstance (pa_cons (pv 0) (pa_cons (pe_bltn (v := .ty "tuple") rfl T.tuple (by decide +kernel) rfl) pa_nil)))
      (pe_one (pe_chain op_le op_le (pv 1) (pe_callB call_len_seq (by rfl) T.len PySem.boot_len (pa_cons (pv 0) pa_nil)) (pv 2))))), ?_⟩
    have q' := q H fun _ _ e => e
    refine ⟨_, rfl, v, .ty "tuple", _, _, _, rfl, .ty _, hd.ty, kit_tuple _ d, _, rfl, ?_⟩
    cases d with
    | tuple ds =>
      cases hd with
      | @tup a xs _ ha hx =>
        have el : (xs.length : Int) = (ds.length : Int) := by rw [hx.len]
        refine ⟨_, rfl, _, rfl, a, xs, rfl, .inr (SqT.of ha), _, _, rfl, rfl, _, rfl, ?_⟩
        rw [el]
        by_cases h : lo ≤ (ds.length : Int)
        · have e : tupOf lo hi (.tuple ds) = decide ((ds.length : Int) ≤ hi) := by
            show (decide (lo ≤ (ds.length : Int)) && decide ((ds.length : Int) ≤ hi)) = _
            rw [decide_eq_true h, Bool.true_and]
          rw [e] at q'
          rw [if_pos (decide_eq_true h)]
          exact ⟨_, rfl, _, _, rfl, rfl, q'⟩
        · have e : tupOf lo hi (.tuple ds) = false := by
            show (decide (lo ≤ (ds.length : Int)) && decide ((ds.length : Int) ≤ hi)) = _
            rw [decide_eq_false h, Bool.false_and]
          rw [e] at q'
          rw [if_neg (by rw [decide_eq_false h]; exact Bool.false_ne_true)]
          exact q'
    | int i => exact q'
    | bool b => exact q'
    | none => exact q'
    | str x => exact q'
    | list ds => exact q'
    | dict kv => exact q'
end
end KF
set_option maxRecDepth 100000
set_option maxHeartbeats 4000000
namespace KF
open PySem PySem.Spec PyProof.Rows L2
/-- [f(x) for x in a tuple] -/
theorem lc_map {K : PySem.W.Frag} {H : Hp} {a : Addr} {xs : List V} {ds : List PyData} {g : TG} {te : TE} {vs : List Nat} {σ : L2.St} {D : Addr} {Qd : Hp → Prop} (f : PyData → V) (ha : H a = some (.tup xs)) (hx : DatAll H xs ds) (hz : xs.length ≤ 1000000) (nD : H D = none)
    (hs : ∀ (i : Nat) (x : V) (d : PyData) (Hx : Hp), xs[i]? = some x → ds[i]? = some d → Dat Hx x d → Same H Hx → ∀ R : VK, (∀ H', Same Hx H' → R (f d) H') → g x (wipe σ vs) Hx fun σ2 H2 => wipe σ2 vs = wipe σ vs ∧ te σ2 H2 R)
    (mono : ∀ (x : V) (Hx : Hp) (A B : L2.St → Hp → Prop), (∀ σ2 H2, A σ2 H2 → B σ2 H2) → g x (wipe σ vs) Hx A → g x (wipe σ vs) Hx B)
    (hd : ∀ Hx, Same H Hx → Hx D = some (.lst (ds.map f)) → Qd Hx) :
    ∃ W : Nat → Nat → Hp → Prop, (∃ m, W 0 m (upd H D (.lst []))) ∧ ∀ i m H, W i m H →
      ((Itt K a).stop i H ∧ Qd H) ∨ ((Itt K a).go i H ∧ ∃ Nx : Hp → Prop, (∀ H', Nx H' → ∃ m', m' < m ∧ W (i + 1) m' H') ∧ ∀ x H', (Itt K a).yld i H x H' → g x (wipe σ vs) H' fun σ2 H2 => wipe σ2 vs = wipe σ vs ∧ tYes σ2 H2 fun b H3 =>
        if b = true then te σ2 H3 fun y H4 => ∃ acc, H4 D = some (.lst acc) ∧ acc.length < sizeLine ∧ Nx (upd H4 D (.lst (acc ++ [y]))) else Nx H3) := by
  refine lc_tup (K := K) (a := a) (xs := xs) (fun j Hx => Same H Hx ∧ Hx D = some (.lst ((ds.take j).map f))) ⟨same_new nD, upd_same⟩ (fun j Hx _ ⟨S, _⟩ => SqT.of (S _ _ ha)) ?_ ?_
  · rintro i x Hx hi ⟨S, hD⟩
    obtain ⟨d, hdi, td⟩ := hx.get hi
    refine mono x Hx _ _ (fun σ2 H2 h => ⟨h.1, ?_⟩) (hs i x d Hx hi hdi (td.same S) S (fun y H4 => ∃ acc, H4 D = some (.lst acc) ∧ acc.length < sizeLine ∧ Same H (upd H4 D (.lst (acc ++ [y]))) ∧ upd H4 D (.lst (acc ++ [y])) D = some (.lst ((ds.take (i + 1)).map f))) fun H' S' => ?_)
    · dsimp only [tYes]
      first
        | exact if_t rfl h.2
        | exact h.2
    · have hi' : i < xs.length := (List.getElem?_eq_some_iff.mp hi).1
      refine ⟨_, S' _ _ hD, ?_, grow nD (S.trans S'), ?_⟩
      · rw [List.length_map, List.length_take, sizeLine_eq]
        omega
      · rw [upd_same, List.take_add_one, hdi]
        simp
  · rintro Hx ⟨S, hD⟩
    refine hd Hx S ?_
    rw [hD, hx.len, List.take_length]
theorem mono_name {i : Nat} {vs : List Nat} {σ : L2.St} : ∀ (x : V) (Hx : Hp) (A B : L2.St → Hp → Prop), (∀ σ2 H2, A σ2 H2 → B σ2 H2) → gName i x (wipe σ vs) Hx A → gName i x (wipe σ vs) Hx B := fun x Hx A B h a => h _ _ a
/-- any part of a tuple -/
theorem slAny_of {K : PySem.W.Frag} {H : Hp} {a : Addr} {xs : List V} {lo hi : Option Int} {Q : VK} (ha : H a = some (.tup xs)) (hq : ∀ (b : Addr) (Hb : Hp), Same H Hb → Hb b = some (.tup (cutV xs lo hi)) → Q (.ref b) Hb) : rSlA K (.ref a) lo hi H Q := by
  refine ⟨a, xs, rfl, SqT.of ha, fun z => hq a H (Same.refl H) ?_, fun _ p np => hq p _ (same_new np) upd_same⟩
  rw [ha]
  have e : cutV xs lo hi = xs := by
    unfold cutV
    rw [z.1, z.2, List.drop_zero, Nat.sub_zero, List.take_length]
  rw [e]
/-- two tuples, one behind the other -/
theorem catA_of {K : PySem.W.Frag} {H : Hp} {a b : Addr} {xs ys : List V} {Q : VK} (ha : H a = some (.tup xs)) (hb : H b = some (.tup ys)) (hz : xs.length + ys.length ≤ sizeLine) (hq : ∀ (c : Addr) (Hc : Hp), Same H Hc → Hc c = some (.tup (xs ++ ys)) → Q (.ref c) Hc) : rCatA K (.ref a) (.ref b) H Q := by
  refine ⟨a, b, xs, ys, rfl, rfl, SqT.of ha, SqT.of hb, hz, fun e => hq b H (Same.refl H) ?_, fun _ e => hq a H (Same.refl H) ?_, fun _ _ p np => hq p _ (same_new np) upd_same⟩
  · rw [hb, e, List.nil_append]
  · rw [ha, e, List.append_nil]
/-! ### questions of the parts -/
abbrev s_takes : Stmt := top 18
abbrev s_asubset : Stmt := top 19
abbrev s_aword : Stmt := top 20
abbrev s_acycle : Stmt := top 23
abbrev s_amatch : Stmt := top 24
abbrev s_atree : Stmt := top 26
abbrev s_achoice : Stmt := top 29
abbrev Tops : Type := List (Str × Int)
def kvT (t : Tops) : List (Key × V) := t.map fun p => (.inr p.1, .int p.2)
def takesB (t : Tops) (z : Str) (as : List PyData) : Bool := match t.lookup z, as with
  | some m, [a] => btw 0 m a
  | _, _ => false
theorem kv_get : ∀ (t : Tops) (z : Str), valV (kvT t) (.inr z) = (t.lookup z).map V.int
  | [], z => rfl
  | p :: t, z => by
    unfold kvT
    rw [List.map_cons, List.lookup]
    by_cases h : z = p.1
    · rw [show (z == p.1) = true by rw [h]; exact beq_self_eq_true _]
      exact valV_pos (by rw [h])
    · rw [beq_eq_false_iff_ne.mpr h]
      rw [valV_neg (fun e => h (by injection e with e; exact e.symm))]
      exact kv_get t z
def spTakes : Sp := fun vs H Q _ => ∃ (t a : Addr) (tp : Tops) (z : Str) (xs : List V) (as : List PyData), vs = [.ref t, .str z, .ref a] ∧ H t = some (.dK (kvT tp)) ∧ H a = some (.tup xs) ∧ DatAll H xs as ∧ ∀ H', Same H H' → Q (.bl (takesB tp z as)) H'
/-- what a question's def gets: a part, the word, the arguments -/
def spQ (ok : Hp → List V → Prop) (f : Str → List PyData → Bool) : Sp := fun vs H Q _ => ∃ (a0 a : Addr) (ps : List V) (z : Str) (xs : List V) (as : List PyData), vs = [.ref a0, .str z, .ref a] ∧ H a0 = some (.tup ps) ∧ ok H ps ∧ z.length ≤ 1000 ∧ H a = some (.tup xs) ∧ DatAll H xs as ∧ ∀ H', Same H H' → Q (.bl (f z as)) H'
def subsetB (n k : Int) (z : Str) (as : List PyData) : Bool := takesB [("contains", n - 1), ("rank", n), ("select", k - 1)] z as
def cycleB (n : Int) (z : Str) (as : List PyData) : Bool := takesB [("successor", n - 1), ("predecessor", n - 1)] z as
def matchB (n : Int) (z : Str) (as : List PyData) : Bool := takesB [("partner", 2 * n - 1)] z as
def treeB (n : Int) (z : Str) (as : List PyData) : Bool := takesB [("parent", n - 1)] z as && !decide (intOf (as.headD .none) = 0)
def choiceB (z : Str) (as : List PyData) : Bool := decide (z = "selected") && decide (as.length = 0)
def totC (cs : Cn) : Int := (cs.map fun c => (c.2 : Int)).sum
def selB (cs : Cn) (l o : PyData) : Bool := cs.any fun c => eqStr c.1 l && btw 0 ((c.2 : Int) - 1) o
def wordB (cs : Cn) (z : Str) (as : List PyData) : Bool := if (decide (z = "select") && decide (as.length = 2)) = true then selB cs (as.getD 0 .none) (as.getD 1 .none) else takesB [("letter", totC cs - 1), ("prefix", totC cs), ("entry", totC cs - 1)] z as
def okSub (n k : Int) : Hp → List V → Prop := fun _ ps => ∃ x0, ps = [x0, .int n, .int k]
def okNum (n : Int) : Hp → List V → Prop := fun _ ps => ∃ x0 r, ps = x0 :: .int n :: r
def okCnt (cs : Cn) : Hp → List V → Prop := fun H ps => ∃ x0 x1 r, ps = x0 :: x1 :: r ∧ Dat H x1 (cntsD cs)
section
variable {P : Program} {w : World} {K : PySem.W.Frag} {mg : Str → Option Value} {base : Heap}
theorem sc_takes : FnScope ["tops", "word", "arguments"] ["tops", "word", "arguments"] (defScope s_takes) := ⟨rfl, rfl, rfl, by decide +kernel, rfl, by decide +kernel, by decide +kernel⟩
theorem sc_asubset : FnScope ["part", "word", "arguments", "n", "k"] ["part", "word", "arguments"] (defScope s_asubset) := ⟨rfl, rfl, rfl, by decide +kernel, rfl, by decide +kernel, by decide +kernel⟩
theorem sc_aword : FnScope ["part", "word", "arguments", "counts", "n", "letter", "occurrence", "pair"] ["part", "word", "arguments"] (defScope s_aword) := ⟨rfl, rfl, rfl, by decide +kernel, rfl, by decide +kernel, by decide +kernel⟩
theorem sc_acycle : FnScope ["part", "word", "arguments"] ["part", "word", "arguments"] (defScope s_acycle) := ⟨rfl, rfl, rfl, by decide +kernel, rfl, by decide +kernel, by decide +kernel⟩
theorem sc_amatch : FnScope ["part", "word", "arguments"] ["part", "word", "arguments"] (defScope s_amatch) := ⟨rfl, rfl, rfl, by decide +kernel, rfl, by decide +kernel, by decide +kernel⟩
theorem sc_atree : FnScope ["part", "word", "arguments"] ["part", "word", "arguments"] (defScope s_atree) := ⟨rfl, rfl, rfl, by decide +kernel, rfl, by decide +kernel, by decide +kernel⟩
theorem sc_achoice : FnScope ["part", "word", "arguments"] ["part", "word", "arguments"] (defScope s_achoice) := ⟨rfl, rfl, rfl, by decide +kernel, rfl, by decide +kernel, by decide +kernel⟩
theorem ok_takes {f fB : Addr} {fd fdB : FuncData} (F : Fun K "takes_index" "takes_index" s_takes f fd) (T : Nm mg) (B : DefOk K mg "is_between" sBtw ["value", "low", "high"] fB fdB) (GB : FnOk P w K mg base CX0 2 fB fdB ["value", "low", "high"] spBtw) : FnOk P w K mg base CX0 3 f fd ["tops", "word", "arguments"] spTakes := by
  refine F.ok sc_takes (fun vs H Q E h => ?_) (fun cdv A outer s H vs Q E hr h => ?_)
  · obtain ⟨t, a, tp, z, xs, as, rfl, _⟩ := h
    rfl
  · obtain ⟨t, a, tp, z, xs, as, rfl, ht, ha, hx, q⟩ := h
    have hu1 := hu_of hr
    refine ⟨_, (pss_one (ps_ret (pe_and (pe_cmp (pc_din hu1 (pv 1) (pv 0)) rfl) (pe_and (pe_cmpR op_eq (pe_callB call_len_seq (by rfl) T.len PySem.boot_len (pa_cons (pv 2) pa_nil)) pe_int (nomark _)) (pe_one (pe_call GB hr rfl B.g B.F.kp B.b .nil pass0 (pa_cons (pe_ix ix_tup (pv 2) pe_int (fun _ _ => rfl)) (pa_cons pe_int (pa_cons (pe_dget hu1 (pv 0) (pv 1) (fun _ _ => rfl)) pa_nil))))))))), ?_⟩
    have q0 := q H (Same.refl H)
    refine ⟨_, rfl, _, rfl, t, _, rfl, DGet.k (k := .inr z) ht, _, rfl, ?_⟩
    rw [kv_get]
    unfold takesB at q q0
    cases e : tp.lookup z with
    | none =>
      rw [e] at q0
      exact if_f rfl q0
    | some m =>
      rw [e] at q q0
      refine if_t rfl ⟨_, rfl, a, xs, rfl, .inr (SqT.of ha), rfl, _, rfl, ?_⟩
      match as, xs, hx, q, q0 with
      | [], [], _, q, q0 => exact if_f rfl q0
      | [d], [x], .cons dx .nil, q, q0 =>
        refine if_t rfl ⟨_, rfl, a, _, _, x, rfl, rfl, SqT.of ha, atI_nat (j := 0) rfl, _, rfl, _, rfl, t, .int m, rfl, ?_, x, d, 0, m, rfl, dx, fun H' S => q H' S⟩
        have g := DGet.k (k := .inr z) ht
        rw [kv_get, e] at g
        exact g
      | d :: d2 :: ds, x :: x2 :: xs, _, q, q0 =>
        refine if_f (decide_eq_false fun y => ?_) q0
        injection y with y
        rw [List.length_cons, List.length_cons] at y
        omega
theorem ok_asubset {n k : Int} {f fT : Addr} {fd fdT : FuncData} (F : Fun K "asks_subset" "asks_subset" s_asubset f fd) (T : DefOk K mg "takes_index" s_takes ["tops", "word", "arguments"] fT fdT) (G : FnOk P w K mg base CX0 3 fT fdT ["tops", "word", "arguments"] spTakes) : FnOk P w K mg base CX0 4 f fd ["part", "word", "arguments"] (spQ (okSub n k) (subsetB n k)) := by
  refine F.ok sc_asubset (fun vs H Q E h => ?_) (fun cdv A outer s H vs Q E hr h => ?_)
  · obtain ⟨a0, a, ps, z, xs, as, rfl, _⟩ := h
    rfl
  · obtain ⟨a0, a, ps, z, xs, as, rfl, h0, ⟨x0, rfl⟩, hz, ha, hx, q⟩ := h
    refine ⟨_, (pss_cons (ps_asg (pe_slice sl_tupA (pv 0) (po_some pe_int) po_none) (pg_tup rfl (pgs_cons (pg_name (i := 3) sc_asubset.nd rfl (Or.inl rfl)) (pgs_cons (pg_name (i := 4) sc_asubset.nd rfl (Or.inl rfl)) pgs_nil))))
      (pss_one (ps_ret (pe_call G hr rfl T.g T.F.kp T.b .nil pass0 (pa_cons (pe_disp (pps_cons pe_str (pe_op op_sub (pv 3) pe_int) (pps_cons pe_str (pv 3) (pps_cons pe_str (pe_op op_sub (pv 4) pe_int) pps_nil))) (by rfl) (by rfl) (fun z => by cases z) (by decide)) (pa_cons (pv 1) (pa_cons (pv 2) pa_nil))))))), ?_⟩
    refine ⟨_, rfl, 1, rfl, ?_⟩
    dsimp only [tNoPart]
    refine slAny_of h0 fun b H1 S1 hb => ⟨b, _, rfl, SqT.of hb, rfl, _, _, rfl, _, _, rfl, rfl, ?_⟩
    refine fun p np => ⟨_, rfl, _, _, rfl, rfl, _, rfl, _, rfl, _, _, rfl, rfl, upd_same, kvT [("contains", n - 1), ("rank", n), ("select", k - 1)], rfl, (by show 3 ≤ 15; decide), ?_⟩
    have S2 := same_new (o := HO.dK []) np
    have g : upd (upd H1 p (.dK [])) p (.dK (mergeK [] (kvT [("contains", n - 1), ("rank", n), ("select", k - 1)]))) p = some (.dK (kvT [("contains", n - 1), ("rank", n), ("select", k - 1)])) := upd_same
    have S3 : Same H1 (upd (upd H1 p (.dK [])) p (.dK (mergeK [] (kvT [("contains", n - 1), ("rank", n), ("select", k - 1)])))) := fun c o e => by
      rw [upd_ne (ne_of_none e np), upd_ne (ne_of_none e np)]
      exact e
    generalize upd (upd H1 p (.dK [])) p (.dK (mergeK [] (kvT [("contains", n - 1), ("rank", n), ("select", k - 1)]))) = H2 at g S3 ⊢
    have S := S1.trans S3
    exact ⟨_, rfl, _, rfl, p, a, _, z, xs, as, rfl, g, S _ _ ha, hx.same S, fun H' S' => q H' (S.trans S')⟩
theorem disp_same {H1 : Hp} {p : Addr} {o : HO} (np : H1 p = none) : Same H1 (upd (upd H1 p (.dK [])) p o) := fun c o e => by
  rw [upd_ne (ne_of_none e np), upd_ne (ne_of_none e np)]
  exact e
theorem ok_acycle {n : Int} {f fT : Addr} {fd fdT : FuncData} (F : Fun K "asks_cycle" "asks_cycle" s_acycle f fd) (T : DefOk K mg "takes_index" s_takes ["tops", "word", "arguments"] fT fdT) (G : FnOk P w K mg base CX0 3 fT fdT ["tops", "word", "arguments"] spTakes) : FnOk P w K mg base CX0 4 f fd ["part", "word", "arguments"] (spQ (okNum n) (cycleB n)) := by
  refine F.ok sc_acycle (fun vs H Q E h => ?_) (fun cdv A outer s H vs Q E hr h => ?_)
  · obtain ⟨a0, a, ps, z, xs, as, rfl, _⟩ := h
    rfl
  · obtain ⟨a0, a, ps, z, xs, as, rfl, h0, ⟨x0, r, rfl⟩, hz, ha, hx, q⟩ := h
    refine ⟨_, (pss_one (ps_ret (pe_call G hr rfl T.g T.F.kp T.b .nil pass0 (pa_cons (pe_disp (pps_cons pe_str (pe_op op_sub (pe_ix ix_tup (pv 0) pe_int (fun _ _ => rfl)) pe_int) (pps_cons pe_str (pe_op op_sub (pe_ix ix_tup (pv 0) pe_int (fun _ _ => rfl)) pe_int) pps_nil)) (by rfl) (by rfl) (fun z => by cases z) (by decide)) (pa_cons (pv 1) (pa_cons (pv 2) pa_nil)))))), ?_⟩
    refine fun p np => ?_
    have h1 := same_new (o := HO.dK []) np _ _ h0
    refine ⟨_, rfl, a0, _, _, _, rfl, rfl, SqT.of h1, atI_nat (j := 1) rfl, _, _, rfl, rfl, _, rfl, a0, _, _, _, rfl, rfl, SqT.of h1, atI_nat (j := 1) rfl, _, _, rfl, rfl, upd_same, kvT [("successor", n - 1), ("predecessor", n - 1)], rfl, (by show 2 ≤ 15; decide), ?_⟩
    have g : upd (upd H p (.dK [])) p (.dK (mergeK [] (kvT [("successor", n - 1), ("predecessor", n - 1)]))) p = some (.dK (kvT [("successor", n - 1), ("predecessor", n - 1)])) := upd_same
    have S := disp_same (o := .dK (mergeK [] (kvT [("successor", n - 1), ("predecessor", n - 1)]))) np
    generalize upd (upd H p (.dK [])) p (.dK (mergeK [] (kvT [("successor", n - 1), ("predecessor", n - 1)]))) = H2 at g S ⊢
    exact ⟨_, rfl, _, rfl, p, a, _, z, xs, as, rfl, g, S _ _ ha, hx.same S, fun H' S' => q H' (S.trans S')⟩
theorem ok_amatch {n : Int} {f fT : Addr} {fd fdT : FuncData} (F : Fun K "asks_matching" "asks_matching" s_amatch f fd) (T : DefOk K mg "takes_index" s_takes ["tops", "word", "arguments"] fT fdT) (G : FnOk P w K mg base CX0 3 fT fdT ["tops", "word", "arguments"] spTakes) (hn : 0 ≤ n ∧ n ≤ 1000) : FnOk P w K mg base CX0 4 f fd ["part", "word", "arguments"] (spQ (okNum n) (matchB n)) := by
  refine F.ok sc_amatch (fun vs H Q E h => ?_) (fun cdv A outer s H vs Q E hr h => ?_)
  · obtain ⟨a0, a, ps, z, xs, as, rfl, _⟩ := h
    rfl
  · obtain ⟨a0, a, ps, z, xs, as, rfl, h0, ⟨x0, r, rfl⟩, hz, ha, hx, q⟩ := h
    refine ⟨_, (pss_one (ps_ret (pe_call G hr rfl T.g T.F.kp T.b .nil pass0 (pa_cons (pe_disp (pps_cons pe_str (pe_op op_sub (pe_op op_mul pe_int (pe_ix ix_tup (pv 0) pe_int (fun _ _ => rfl))) pe_int) pps_nil) (by rfl) (by rfl) (fun z => by cases z) (by decide)) (pa_cons (pv 1) (pa_cons (pv 2) pa_nil)))))), ?_⟩
    refine fun p np => ?_
    have h1 := same_new (o := HO.dK []) np _ _ h0
    refine ⟨_, rfl, a0, _, _, _, rfl, rfl, SqT.of h1, atI_nat (j := 1) rfl, _, _, rfl, rfl, .inl ⟨by decide, by decide⟩, _, _, rfl, rfl, upd_same, kvT [("partner", 2 * n - 1)], rfl, (by show 1 ≤ 15; decide), ?_⟩
    have g : upd (upd H p (.dK [])) p (.dK (mergeK [] (kvT [("partner", 2 * n - 1)]))) p = some (.dK (kvT [("partner", 2 * n - 1)])) := upd_same
    have S := disp_same (o := .dK (mergeK [] (kvT [("partner", 2 * n - 1)]))) np
    generalize upd (upd H p (.dK [])) p (.dK (mergeK [] (kvT [("partner", 2 * n - 1)]))) = H2 at g S ⊢
    exact ⟨_, rfl, _, rfl, p, a, _, z, xs, as, rfl, g, S _ _ ha, hx.same S, fun H' S' => q H' (S.trans S')⟩
theorem takes_one {t : Tops} {z : Str} {as : List PyData} (h : takesB t z as = true) : ∃ i : Int, as = [.int i] := by
  unfold takesB at h
  split at h
  · obtain ⟨i, rfl, _⟩ := btw_int h
    exact ⟨i, rfl⟩
  · cases h
theorem ok_atree {n : Int} {f fT : Addr} {fd fdT : FuncData} (F : Fun K "asks_tree" "asks_tree" s_atree f fd) (T : DefOk K mg "takes_index" s_takes ["tops", "word", "arguments"] fT fdT) (G : FnOk P w K mg base CX0 3 fT fdT ["tops", "word", "arguments"] spTakes) : FnOk P w K mg base CX0 4 f fd ["part", "word", "arguments"] (spQ (okNum n) (treeB n)) := by
  refine F.ok sc_atree (fun vs H Q E h => ?_) (fun cdv A outer s H vs Q E hr h => ?_)
  · obtain ⟨a0, a, ps, z, xs, as, rfl, _⟩ := h
    rfl
  · obtain ⟨a0, a, ps, z, xs, as, rfl, h0, ⟨x0, r, rfl⟩, hz, ha, hx, q⟩ := h
    refine ⟨_, (pss_one (ps_ret (pe_and (pe_call G hr rfl T.g T.F.kp T.b .nil pass0 (pa_cons (pe_disp (pps_cons pe_str (pe_op op_sub (pe_ix ix_tup (pv 0) pe_int (fun _ _ => rfl)) pe_int) pps_nil) (by rfl) (by rfl) (fun z => by cases z) (by decide)) (pa_cons (pv 1) (pa_cons (pv 2) pa_nil)))) (pe_one (pe_cmpR op_ne (pe_ix ix_tup (pv 2) pe_int (fun _ _ => rfl)) pe_int (nomark _)))))), ?_⟩
    refine fun p np => ?_
    have h1 := same_new (o := HO.dK []) np _ _ h0
    refine ⟨_, rfl, a0, _, _, _, rfl, rfl, SqT.of h1, atI_nat (j := 1) rfl, _, _, rfl, rfl, upd_same, kvT [("parent", n - 1)], rfl, (by show 1 ≤ 15; decide), ?_⟩
    have g : upd (upd H p (.dK [])) p (.dK (mergeK [] (kvT [("parent", n - 1)]))) p = some (.dK (kvT [("parent", n - 1)])) := upd_same
    have S := disp_same (o := .dK (mergeK [] (kvT [("parent", n - 1)]))) np
    generalize upd (upd H p (.dK [])) p (.dK (mergeK [] (kvT [("parent", n - 1)]))) = H2 at g S ⊢
    refine ⟨_, rfl, _, rfl, p, a, _, z, xs, as, rfl, g, S _ _ ha, hx.same S, fun H' S' => ⟨_, rfl, ?_⟩⟩
    have q' := q H' (S.trans S')
    unfold treeB at q'
    cases e : takesB [("parent", n - 1)] z as with
    | false =>
      rw [e] at q'
      exact if_f rfl q'
    | true =>
      rw [e] at q'
      obtain ⟨i, rfl⟩ := takes_one e
      cases hx with
      | cons d0 d1 =>
        cases d0
        cases d1
        refine if_t rfl ⟨_, rfl, a, _, _, _, rfl, rfl, SqT.of ((S.trans S') _ _ ha), atI_nat (j := 0) rfl, rfl, ?_⟩
        have e2 : decide (V.int i = V.int 0) = decide (i = 0) := by
          by_cases h : i = 0
          · rw [decide_eq_true h, decide_eq_true (by rw [h])]
          · rw [decide_eq_false h, decide_eq_false fun y => h (V.int.inj y)]
        rw [e2]
        exact q'
theorem ok_achoice {ok : Hp → List V → Prop} {f : Addr} {fd : FuncData} (F : Fun K "asks_choice" "asks_choice" s_achoice f fd) (T : Nm mg) : FnOk P w K mg base CX0 4 f fd ["part", "word", "arguments"] (spQ ok choiceB) := by
  refine F.ok sc_achoice (fun vs H Q E h => ?_) (fun cdv A outer s H vs Q E hr h => ?_)
  · obtain ⟨a0, a, ps, z, xs, as, rfl, _⟩ := h
    rfl
  · obtain ⟨a0, a, ps, z, xs, as, rfl, h0, _, hz, ha, hx, q⟩ := h
    refine ⟨_, (pss_one (ps_ret (pe_and (pe_cmpR op_eq (pv 1) pe_str (nomark _)) (pe_one (pe_cmpR op_eq (pe_callB call_len_seq (by rfl) T.len PySem.boot_len (pa_cons (pv 2) pa_nil)) pe_int (nomark _)))))), ?_⟩
    have q0 := q H (Same.refl H)
    unfold choiceB at q0
    have e1 : decide (V.str z = V.str "selected") = decide (z = "selected") := by
      by_cases h : z = "selected"
      · rw [decide_eq_true h, decide_eq_true (by rw [h])]
      · rw [decide_eq_false h, decide_eq_false fun y => h (by injection y)]
    refine ⟨_, rfl, rfl, _, rfl, ?_⟩
    rw [e1]
    cases e : decide (z = ("selected" : Str)) with
    | false =>
      rw [e] at q0
      exact if_f rfl q0
    | true =>
      rw [e] at q0
      refine if_t rfl ⟨_, rfl, a, xs, rfl, .inr (SqT.of ha), rfl, ?_⟩
      have e2 : decide (V.int ((xs.length : Nat) : Int) = V.int 0) = decide (as.length = 0) := by
        rw [hx.len]
        by_cases h : as.length = 0
        · rw [decide_eq_true h, decide_eq_true (by rw [h]; rfl)]
        · rw [decide_eq_false h, decide_eq_false fun y => h (by have := V.int.inj y; omega)]
      rw [e2]
      exact q0
end
end KF
set_option maxRecDepth 100000
set_option maxHeartbeats 4000000
namespace KF
open PySem PySem.Spec PyProof.Rows L2
/-! ### questions of words and decorated spaces -/
def cntD (c : Str × Nat) : PyData := .tuple [.str c.1, .int (c.2 : Nat)]
def cN : PyData → Int
  | .tuple [_, .int n] => n
  | _ => 0
def cS : PyData → Str
  | .tuple [.str s, _] => s
  | _ => ""
theorem cnt_at {H : Hp} {x : V} {c : Str × Nat} (h : Dat H x (cntD c)) : ∃ b : Addr, x = .ref b ∧ H b = some (.tup [.str c.1, .int (c.2 : Nat)]) := by
  unfold cntD at h
  cases h with
  | @tup b ys _ hb hy =>
    cases hy with
    | cons h0 t0 =>
      cases t0 with
      | cons h1 t1 =>
        cases h0
        cases h1
        cases t1
        exact ⟨b, rfl, hb⟩
theorem sum_len10 : ∀ cs : Cn, ((cs.map cntD).map fun d => V.int (cN d)) = (cs.map fun c => (c.2 : Int)).map V.int
  | [] => rfl
  | c :: cs => by
    rw [List.map_cons, List.map_cons, List.map_cons, List.map_cons, sum_len10 cs]
    rfl
theorem sel_any (cs : Cn) (l o : PyData) : ((cs.map cntD).map fun d => V.bl (eqStr (cS d) l && btw 0 (cN d - 1) o)) = (cs.map fun c => (eqStr c.1 l && btw 0 ((c.2 : Int) - 1) o)).map V.bl := by
  rw [List.map_map, List.map_map]
  rfl
section
variable {P : Program} {w : World} {K : PySem.W.Frag} {mg : Str → Option Value} {base : Heap}
theorem ok_aword {cs : Cn} {f fT fB : Addr} {fd fdT fdB : FuncData} (F : Fun K "asks_word" "asks_word" s_aword f fd) (N : Nm mg) (T : DefOk K mg "takes_index" s_takes ["tops", "word", "arguments"] fT fdT) (G : FnOk P w K mg base CX0 3 fT fdT ["tops", "word", "arguments"] spTakes)
    (B : DefOk K mg "is_between" sBtw ["value", "low", "high"] fB fdB) (GB : FnOk P w K mg base CX0 2 fB fdB ["value", "low", "high"] spBtw) (hc : cs.length ≤ 100) : FnOk P w K mg base CX0 4 f fd ["part", "word", "arguments"] (spQ (okCnt cs) (wordB cs)) := by
  refine F.ok sc_aword (fun vs H Q E h => ?_) (fun cdv A outer s H vs Q E hr h => ?_)
  · obtain ⟨a0, a, ps, z, xs, as, rfl, _⟩ := h
    rfl
  · obtain ⟨a0, a, ps, z, xs, as, rfl, h0, ⟨x0, x1, r, rfl, hd1⟩, hz, ha, hx, q⟩ := h
    have hu0 := hr.units0
    have hr2 : Room 2 _ := hr.mono (by decide)
    refine ⟨_, (pss_cons (ps_set (i := 3) sc_aword.nd rfl (Or.inl rfl) (pe_ix ix_tup (pv 0) pe_int (fun _ _ => rfl)))
      (pss_cons (ps_set (i := 4) sc_aword.nd rfl (Or.inl rfl) (pe_callB (cr_sum rfl) (by rfl) N.sum boot_sum (pa_cons (pe_lc (own := [("pair", 7)]) (g := (gName 7)) (tt := tYes) (te := tOp (rIxT K) (tVar 7) (tC (.int 1))) rfl sc_aword.nd (pi_tup (pv 3)) (blkOk_by (N := ["part", "word", "arguments", "counts", "n", "letter", "occurrence", "pair"]) (sc := defScope s_aword) (by decide +kernel))
          (fun _ _ _ _ _ => (pg_name (i := 7) sc_aword.nd rfl (Or.inl rfl))) (fun _ _ _ _ _ => pts_nil) (fun _ _ _ _ _ => (pe_ix ix_tup (pv 7) pe_int (fun _ _ => rfl)))) pa_nil)))
      (pss_cons (ps_if (PW.pt (pw_and (pt_cmpR op_eq (pv 1) pe_str (nomark _)) (pw_and1 (pt_cmpR op_eq (pe_callB call_len_seq (by rfl) N.len PySem.boot_len (pa_cons (pv 2) pa_nil)) pe_int (nomark _)))))
        (pss_cons (ps_asg (pv 2) (pg_tup rfl (pgs_cons (pg_name (i := 5) sc_aword.nd rfl (Or.inr rfl)) (pgs_cons (pg_name (i := 6) sc_aword.nd rfl (Or.inr rfl)) pgs_nil))))
        (pss_one (ps_ret (pe_callB (cr_any rfl) (by rfl) N.any boot_any (pa_cons (pe_lc (own := [("pair", 7)]) (g := (gName 7)) (tt := tYes) (te := tAndV (tOp rEqStr (tVar 5) (tOp (rIxT K) (tVar 7) (tC (.int 0)))) (tCall spBtw [] E0 (tCons (tVar 6) (tCons (tC (.int 0)) (tCons (tOp (rI0 fun i j => .int (i - j)) (tOp (rIxT K) (tVar 7) (tC (.int 1))) (tC (.int 1))) tNil))))) rfl sc_aword.nd (pi_tup (pv 3)) (blkOk_by (N := ["part", "word", "arguments", "counts", "n", "letter", "occurrence", "pair"]) (sc := defScope s_aword) (by decide +kernel))
          (fun _ _ _ _ _ => (pg_name (i := 7) sc_aword.nd rfl (Or.inl rfl))) (fun _ _ _ _ _ => pts_nil) (fun _ _ _ _ _ => (pe_and (pe_cmpR (op_eqStr hu0) (pv 5) (pe_ix ix_tup (pv 7) pe_int (fun _ _ => rfl)) (nomark _)) (pe_one (pe_call GB hr2 rfl B.g B.F.kp B.b .nil pass0 (pa_cons (pv 6) (pa_cons pe_int (pa_cons (pe_op op_sub (pe_ix ix_tup (pv 7) pe_int (fun _ _ => rfl)) pe_int) pa_nil)))))))) pa_nil)))))
        pss_nil)
      (pss_one (ps_ret (pe_call G hr rfl T.g T.F.kp T.b .nil pass0 (pa_cons (pe_disp (pps_cons pe_str (pe_op op_sub (pv 4) pe_int) (pps_cons pe_str (pv 4) (pps_cons pe_str (pe_op op_sub (pv 4) pe_int) pps_nil))) (by rfl) (by rfl) (fun z => by cases z) (by decide)) (pa_cons (pv 1) (pa_cons (pv 2) pa_nil))))))))), ?_⟩
    obtain ⟨bc, xc, rfl, hbc, hxc⟩ : ∃ (bc : Addr) (xc : List V), x1 = .ref bc ∧ H bc = some (.tup xc) ∧ DatAll H xc (cs.map cntD) := by
      cases hd1 with
      | @tup b ys _ hb hy => exact ⟨b, ys, rfl, hb, hy⟩
    have lc := hxc.len
    rw [List.length_map] at lc
    refine ⟨_, rfl, a0, _, _, _, rfl, rfl, SqT.of h0, atI_nat (j := 1) rfl, ?_⟩
    refine ⟨_, rfl, bc, rfl, ⟨_, SqT.of hbc⟩, fun D nD => lc_map (K := K) (fun d => .int (cN d)) hbc hxc (by omega) nD (fun i x d Hx hi hdi td S R hR => ?_) mono_name fun H1 S1 hD => ?_⟩
    · obtain ⟨c, hc', rfl⟩ := List.mem_map.mp (List.mem_of_getElem? hdi)
      obtain ⟨b, rfl, hb⟩ := cnt_at td
      exact ⟨rfl, _, rfl, b, _, _, _, rfl, rfl, SqT.of hb, atI_nat (j := 1) rfl, hR Hx (Same.refl Hx)⟩
    refine ⟨D, cs.map fun c => (c.2 : Int), rfl, by rw [← sum_len10]; exact SqL.of hD, ?_⟩
    have q1 := fun H' S' => q H' (S1.trans S')
    have e1 : decide (V.str z = V.str "select") = decide (z = "select") := by
      by_cases h : z = "select"
      · rw [decide_eq_true h, decide_eq_true (by rw [h])]
      · rw [decide_eq_false h, decide_eq_false fun y => h (by injection y)]
    have e2 : decide (V.int ((xs.length : Nat) : Int) = V.int 2) = decide (as.length = 2) := by
      rw [hx.len]
      by_cases h : as.length = 2
      · rw [decide_eq_true h, decide_eq_true (by rw [h]; rfl)]
      · rw [decide_eq_false h, decide_eq_false fun y => h (by have := V.int.inj y; omega)]
    have rest : (decide (z = "select") && decide (as.length = 2)) = false → ∀ (G' : VK), (∀ H', Same H1 H' → G' (.bl (takesB [("letter", totC cs - 1), ("prefix", totC cs), ("entry", totC cs - 1)] z as)) H') → ∀ p, H1 p = none → (kvT [("letter", totC cs - 1), ("prefix", totC cs), ("entry", totC cs - 1)]).length ≤ 15 ∧
        ∃ H2, H2 = upd (upd H1 p (.dK [])) p (.dK (mergeK [] (kvT [("letter", totC cs - 1), ("prefix", totC cs), ("entry", totC cs - 1)]))) ∧ H2 p = some (.dK (kvT [("letter", totC cs - 1), ("prefix", totC cs), ("entry", totC cs - 1)])) ∧ Same H1 H2 := fun _ G' _ p np =>
      ⟨(by show 3 ≤ 15; decide), _, rfl, upd_same, disp_same np⟩
    refine ⟨_, rfl, rfl, _, rfl, ?_⟩
    rw [e1]
    have fin : (decide (z = "select") && decide (as.length = 2)) = false → ∀ p, H1 p = none → ∃ H2, H2 = upd (upd H1 p (.dK [])) p (.dK (mergeK [] (kvT [("letter", totC cs - 1), ("prefix", totC cs), ("entry", totC cs - 1)]))) ∧ spTakes [.ref p, .str z, .ref a] H2 Q E0 := fun hb p np => by
      obtain ⟨_, H2, e, g, S⟩ := rest hb Q (fun H' S' => by
        have z1 := q1 H' S'
        unfold wordB at z1
        rw [hb] at z1
        exact z1) p np
      refine ⟨H2, e, p, a, _, z, xs, as, rfl, g, S _ _ (S1 _ _ ha), (hx.same S1).same S, fun H' S' => ?_⟩
      have z1 := q1 H' (S.trans S')
      unfold wordB at z1
      rw [hb] at z1
      exact z1
    cases ez : decide (z = ("select" : Str)) with
    | false =>
      refine if_f rfl (if_f rfl ?_)
      refine fun p np => ⟨_, rfl, _, _, rfl, rfl, _, rfl, _, rfl, _, _, rfl, rfl, upd_same, kvT [("letter", totC cs - 1), ("prefix", totC cs), ("entry", totC cs - 1)], rfl, (by show 3 ≤ 15; decide), _, rfl, _, rfl, ?_⟩
      obtain ⟨H2, e, sp⟩ := fin (by rw [ez]; rfl) p np
      rw [e] at sp
      exact sp
    | true =>
      refine if_t rfl ⟨_, rfl, a, xs, rfl, .inr (SqT.of (S1 _ _ ha)), rfl, _, rfl, ?_⟩
      rw [e2]
      cases el : decide (as.length = 2) with
      | false =>
        refine if_f rfl ?_
        refine fun p np => ⟨_, rfl, _, _, rfl, rfl, _, rfl, _, rfl, _, _, rfl, rfl, upd_same, kvT [("letter", totC cs - 1), ("prefix", totC cs), ("entry", totC cs - 1)], rfl, (by show 3 ≤ 15; decide), _, rfl, _, rfl, ?_⟩
        obtain ⟨H2, e, sp⟩ := fin (by rw [ez, el]; rfl) p np
        rw [e] at sp
        exact sp
      | true =>
        refine if_t rfl ?_
        have hl2 := of_decide_eq_true el
        match as, xs, hx, hl2, q1 with
        | [l, o], [xl, xo], .cons dl (.cons dO .nil), _, q1 =>
          refine ⟨_, rfl, a, _, rfl, SqT.of (S1 _ _ ha), rfl, _, _, rfl, _, _, rfl, rfl, ?_⟩
          refine ⟨_, rfl, bc, rfl, ⟨_, SqT.of (S1 _ _ hbc)⟩, fun D2 nD2 => lc_map (K := K) (fun d => .bl (eqStr (cS d) l && btw 0 (cN d - 1) o)) (S1 _ _ hbc) (hxc.same S1) (by omega) nD2 (fun i x d Hx hi hdi td S R hR => ?_) mono_name fun H2 S2 hD2 => ?_⟩
          · obtain ⟨c, hc', rfl⟩ := List.mem_map.mp (List.mem_of_getElem? hdi)
            obtain ⟨b, rfl, hb⟩ := cnt_at td
            refine ⟨rfl, _, rfl, _, rfl, b, _, _, _, rfl, rfl, SqT.of hb, atI_nat (j := 0) rfl, l, c.1, (dl.same S1).same S, rfl, _, rfl, ?_⟩
            have hR' : ∀ H', Same Hx H' → R (.bl (eqStr c.1 l && btw 0 ((c.2 : Int) - 1) o)) H' := hR
            cases e : eqStr c.1 l with
            | false =>
              rw [e] at hR'
              exact if_f rfl (hR' Hx (Same.refl Hx))
            | true =>
              rw [e] at hR'
              exact if_t rfl ⟨_, rfl, _, rfl, b, _, _, _, rfl, rfl, SqT.of hb, atI_nat (j := 1) rfl, _, _, rfl, rfl, xo, o, 0, _, rfl, (dO.same S1).same S, hR'⟩
          · refine ⟨D2, cs.map fun c => (eqStr c.1 l && btw 0 ((c.2 : Int) - 1) o), rfl, by rw [← sel_any]; exact SqL.of hD2, ?_⟩
            have z1 := q1 H2 S2
            unfold wordB at z1
            rw [ez] at z1
            have e3 : ((cs.map fun c => (eqStr c.1 l && btw 0 ((c.2 : Int) - 1) o)).any id) = selB cs l o := by
              unfold selB
              rw [List.any_map]
              rfl
            rw [e3]
            exact z1
end
end KF
set_option maxRecDepth 100000
set_option maxHeartbeats 8000000
namespace KF
open PySem PySem.Spec PyProof.Rows L2
abbrev sName : Stmt := top 5
abbrev sAsc : Stmt := top 7
/-! ### names -/
/-- one sign from a to z -/
def azB (c : Nat) : Bool := !decide ([c] < ("a" : Str).cps.toList) && !decide (("z" : Str).cps.toList < [c])
def nameS (s : Str) : Bool := decide (1 ≤ (s.length : Int)) && decide ((s.length : Int) ≤ 6) && s.cps.toList.all azB
def nameB : PyData → Bool
  | .str s => nameS s
  | _ => false
section
variable {P : Program} {w : World} {K : PySem.W.Frag} {mg : Str → Option Value} {base : Heap}
theorem scName : FnScope ["value", "letter"] ["value"] (defScope sName) := ⟨rfl, rfl, rfl, by decide +kernel, rfl, by decide +kernel, by decide +kernel⟩
theorem ok_name {f : Addr} {fd : FuncData} (F : Fun K "is_name" "is_name" sName f fd) (T : Nm mg) (c6 : ∃ t, mg "LONGEST_NAME" = some (.int 6 t)) : FnOk P w K mg base CX0 1 f fd ["value"] (spP nameB) := by
  obtain ⟨t6, c6⟩ := c6
  refine F.ok scName (fun vs H Q E h => ?_) (fun cdv A outer s H vs Q E hr h => ?_)
  · obtain ⟨v, d, rfl, _⟩ := h
    rfl
  · obtain ⟨v, d, rfl, hd, q⟩ := h
    refine ⟨_, pss_cons (ps_if (PW.pt (pw_or (pt_not (pt_val (pe_callB call_isi (by rfl) T.isinstance boot_isinstance (pa_cons (pv 0) (pa_cons (pe_bltn (v := .ty "str") rfl T.str (by decide +kernel) rfl) pa_nil)))))
        (pw_or1 (pt_not (pt_chain op_le op_le pe_int (pe_callB call_len_str (by rfl) T.len PySem.boot_len (pa_cons (pv 0) pa_nil)) (pe_glob (v := .int 6) rfl c6 ⟨_, rfl⟩)))))) (pss_one (ps_ret pe_bl)) pss_nil)
      (pss_one (ps_ret (pe_callB (cr_all rfl) (by rfl) T.all boot_all (pa_cons (pe_lc (own := [("letter", 1)]) (g := gName 1) (tt := tYes) rfl scName.nd (pi_str (pv 0)) (blkOk_by (N := ["value", "letter"]) (sc := defScope sName) (by decide +kernel))
        (fun _ _ _ _ _ => pg_name (i := 1) scName.nd rfl (Or.inl rfl)) (fun _ _ _ _ _ => pts_nil) (fun _ _ _ _ _ => pe_chain op_le_str op_le_str pe_str (pv 1) pe_str)) pa_nil)))), ?_⟩
    refine ⟨_, rfl, v, .ty "str", _, _, _, rfl, .ty _, hd.ty, kit_str _ d, _, rfl, ?_⟩
    have q0 := q H fun _ _ e => e
    cases d with
    | str x =>
      cases hd with
      | str _ hx =>
        refine if_f rfl ⟨_, rfl, x, rfl, Nat.le_trans hx (by decide), _, _, rfl, rfl, _, rfl, ?_⟩
        by_cases h1 : (1 : Int) ≤ (x.length : Int)
        · rw [if_pos (decide_eq_true h1)]
          refine ⟨_, _, rfl, rfl, _, rfl, ?_⟩
          by_cases h6 : (x.length : Int) ≤ 6
          · refine if_f (by rw [decide_eq_true h6]; rfl) ?_
            refine ⟨_, rfl, x, rfl, fun D nD => lc_it (walk_str (z := x)) (fun j Hx => Same H Hx ∧ Hx D = some (.lst ((x.cps.toList.take j).map fun c => V.bl (azB c)))) ⟨same_new nD, upd_same⟩ (fun _ _ _ _ => trivial) ?_ ?_⟩
            · rintro j y Hx Hy hj ⟨S, hD⟩ ⟨rfl, c, hc, rfl⟩
              have hcl : x.cps.toList[j]? = some c := by simpa using hc
              have et : (x.cps.toList.take (j + 1)).map (fun c => V.bl (azB c)) = (x.cps.toList.take j).map (fun c => V.bl (azB c)) ++ [V.bl (azB c)] := by
                rw [List.take_add_one, hcl]
                simp
              have fin : ∀ b : Bool, b = azB c → ∃ acc, Hy D = some (.lst acc) ∧ acc.length < sizeLine ∧ Same H (upd Hy D (.lst (acc ++ [V.bl b]))) ∧ upd Hy D (.lst (acc ++ [V.bl b])) D = some (.lst ((x.cps.toList.take (j + 1)).map fun c => V.bl (azB c))) := by
                rintro b rfl
                refine ⟨_, hD, ?_, grow nD S, by rw [upd_same, et]⟩
                rw [List.length_map, List.length_take, sizeLine_eq]
                have : j < x.cps.size := hj
                have : x.cps.size = x.length := rfl
                omega
              refine ⟨rfl, _, rfl, _, _, rfl, rfl, _, rfl, ?_⟩
              by_cases ha : [c] < ("a" : Str).cps.toList
              · refine if_f (by rw [decide_eq_true ha]; rfl) (fin _ ?_)
                unfold azB
                rw [decide_eq_true ha]
                rfl
              · refine if_t (by rw [decide_eq_false ha]; rfl) ⟨_, _, rfl, rfl, fin _ ?_⟩
                unfold azB
                rw [decide_eq_false ha]
                rfl
            · rintro Hx ⟨S, hD⟩
              have el : x.cps.toList.take x.cps.size = x.cps.toList := List.take_of_length_le (by simp)
              rw [el] at hD
              have q1 := q Hx S
              have e : nameB (.str x) = x.cps.toList.all azB := by
                show (decide (1 ≤ (x.length : Int)) && decide ((x.length : Int) ≤ 6) && x.cps.toList.all azB) = _
                rw [decide_eq_true h1, decide_eq_true h6]
                rfl
              rw [e] at q1
              refine ⟨D, x.cps.toList.map azB, rfl, SqL.of (by rw [hD, List.map_map]; rfl), ?_⟩
              rw [List.all_map]
              exact q1
          · refine if_t (by rw [decide_eq_false h6]; rfl) ?_
            have e : nameB (.str x) = false := by
              show (decide (1 ≤ (x.length : Int)) && decide ((x.length : Int) ≤ 6) && x.cps.toList.all azB) = _
              rw [decide_eq_true h1, decide_eq_false h6]
              rfl
            rw [e] at q0
            exact q0
        · rw [if_neg (by rw [decide_eq_false h1]; exact Bool.false_ne_true)]
          refine ⟨_, rfl, if_t rfl ?_⟩
          have e : nameB (.str x) = false := by
            show (decide (1 ≤ (x.length : Int)) && decide ((x.length : Int) ≤ 6) && x.cps.toList.all azB) = _
            rw [decide_eq_false h1]
            rfl
          rw [e] at q0
          exact q0
    | int i => exact if_t rfl (if_t rfl q0)
    | bool b => exact if_t rfl (if_t rfl q0)
    | none => exact if_t rfl (if_t rfl q0)
    | tuple ds => exact if_t rfl (if_t rfl q0)
    | list ds => exact if_t rfl (if_t rfl q0)
    | dict kv => exact if_t rfl (if_t rfl q0)
end
/-! ### such values as the machine reads them -/
section
variable {P : Program} {w : World} {H : Hp} {h : Heap}
mutual
theorem Dat.reads (ok : HOk P w H h) : ∀ {v : V} {d : PyData} {u : Value}, Dat H v d → RelV v u → ∃ as, Reads h u d as
  | _, _, _, .non, r => ⟨[], by cases r; exact .none⟩
  | _, _, _, .bl b, r => ⟨[], by cases r; exact .bool b⟩
  | _, _, _, .int i, r => ⟨[], by obtain ⟨t, rfl⟩ := r; exact .int i t⟩
  | _, _, _, .str x _, r => ⟨[], by obtain ⟨t, rfl⟩ := r; exact .str x t⟩
  | _, _, _, .lst (a := a) (xs := xs) e t, r => by
    cases r
    obtain ⟨_, its, n, rv, ho⟩ := (show ObjOk P w H h a (.lst xs) from ok a _ e)
    obtain ⟨as, ra⟩ := DatAll.reads ok t rv
    exact ⟨_, .list ho rfl rfl ra⟩
  | _, _, _, .tup (a := a) (xs := xs) e t, r => by
    cases r
    obtain ⟨_, its, rv, o, ho, hc, m, hd⟩ := (show ObjOk P w H h a (.tup xs) from ok a _ e)
    obtain ⟨as, ra⟩ := DatAll.reads ok t rv
    exact ⟨_, .tuple ho hc hd ra⟩
  | _, _, _, .d0 (a := a) e, r => by
    cases r
    obtain ⟨_, ns, vs, kv, o, es, ep, ho, hx, hd, hk, hp, _⟩ := (show ObjOk P w H h a (.dK []) from ok a _ e)
    cases kv
    have e0 : es.toList = [] := by
      generalize es.toList = l at hp
      cases hp
      rfl
    exact ⟨a :: [] ++ [], .dict (kvs := []) ho hx.1 hd (by rw [e0]; exact .nil) (by rw [e0]; exact .nil)⟩
theorem DatAll.reads (ok : HOk P w H h) : ∀ {vs : List V} {ds : List PyData} {us : List Value}, DatAll H vs ds → Vals vs us → ∃ as, ReadsAll h us ds as
  | _, _, _, .nil, .nil => ⟨[], .nil⟩
  | _, _, _, .cons t ts, .cons r rs => by
    obtain ⟨as, ra⟩ := Dat.reads ok t r
    obtain ⟨bs, rb⟩ := DatAll.reads ok ts rs
    exact ⟨as ++ bs, .cons ra rb⟩
end
end
/-! ### < of two values of one form -/
section
variable {X : Cx}
def rLtDat : R2 := fun x y H Q => ∃ d e, Dat H x d ∧ Dat H y e ∧ PySem.W.alike d e = true ∧ d ≠ .none ∧ d.depth ≤ 60 ∧ Q (.bl (PySem.W.dataLt d e)) H
theorem op_ltDat (hu : X.A.units + 64 < cLine) : OpR X (compareOp .Lt) rLtDat := by
  intro pins s σ H x y v u Q I rx ry h
  obtain ⟨d, e, hd, he, ha, hn, hz, q⟩ := h
  obtain ⟨as, r1⟩ := hd.reads I.hok rx
  obtain ⟨bs, r2⟩ := he.reads I.hok ry
  exact PySem.W.lt_data r1 r2 ha hn (by omega) ⟨.bl _, H, I, rfl, q⟩
end
/-! ### strictly ascending -/
/-- neighbours that can be compared -/
def AscOk (ds : List PyData) : Prop := ∀ i, i + 1 < ds.length → PySem.W.alike (ds.getD i .none) (ds.getD (i + 1) .none) = true ∧ ds.getD i .none ≠ .none ∧ (ds.getD i .none).depth ≤ 60
def ascB (ds : List PyData) : Bool := (List.range (ds.length - 1)).all fun i => PySem.W.dataLt (ds.getD i .none) (ds.getD (i + 1) .none)
def spAsc : Sp := fun vs H Q _ => ∃ (a : Addr) (xs : List V) (ds : List PyData), vs = [.ref a] ∧ (H a = some (.lst xs) ∨ H a = some (.tup xs)) ∧ DatAll H xs ds ∧ AscOk ds ∧ ∀ H', Same H H' → Q (.bl (ascB ds)) H'
theorem cut1 (xs : List V) : cutV xs (some 1) none = xs.drop 1 := by
  unfold cutV
  have e1 : HT.sIx xs.length 0 (some 1) = min 1 xs.length := HT.sIx_nat xs.length 0 1
  have e2 : HT.sIx xs.length xs.length none = xs.length := HT.sIx_none _ _
  rw [e1, e2]
  cases xs with
  | nil => rfl
  | cons x l =>
    have e3 : min 1 (x :: l).length = 1 := by
      rw [List.length_cons]
      omega
    rw [e3]
    exact List.take_of_length_le (by simp)
/-- t[1:] -/
theorem slA_of {K : PySem.W.Frag} {H : Hp} {a : Addr} {xs : List V} {Q : VK} (ha : H a = some (.tup xs)) (hq : ∀ (b : Addr) (Hb : Hp), Same H Hb → Hb b = some (.tup (xs.drop 1)) → Q (.ref b) Hb) : rSlA K (.ref a) (some 1) none H Q := by
  refine ⟨a, xs, rfl, SqT.of ha, fun z => ?_, fun _ p np => ?_⟩
  · have e1 : HT.sIx xs.length 0 (some 1) = min 1 xs.length := HT.sIx_nat xs.length 0 1
    have e2 : min 1 xs.length = 0 := e1.symm.trans z.1
    cases xs with
    | nil => exact hq a H (fun _ _ e => e) ha
    | cons x l =>
      rw [List.length_cons] at e2
      omega
  · rw [cut1]
    exact hq p _ (same_new np) upd_same
section
variable {K : PySem.W.Frag} {a b : Addr} {xs ys : List V}
theorem walk_zip2 {n : Nat} (hn : n = min xs.length ys.length) : Walk (RZ.ItzT K a b) n (fun H => SqT K H a xs ∧ SqT K H b ys) (YPair (fun i => xs[i]?) (fun i => ys[i]?)) := by
  subst hn
  constructor
  · intro i _ hi q
    exact ⟨xs, ys, xs[i]'(by omega), ys[i]'(by omega), q.1, q.2, List.getElem?_eq_getElem (by omega), List.getElem?_eq_getElem (by omega)⟩
  · intro _ q
    exact ⟨xs, ys, q.1, q.2, by omega⟩
  · intro i H v H' _ q y
    obtain ⟨T, x, z, e1, e2, e3, e4, e5⟩ := y
    exact ⟨T, x, z, e1, e2, e3, e4 _ q.1, e5 _ q.2⟩
end
section
variable {P : Program} {w : World} {K : PySem.W.Frag} {mg : Str → Option Value} {base : Heap}
theorem scAsc : FnScope ["items", "before", "after"] ["items"] (defScope sAsc) := ⟨rfl, rfl, rfl, by decide +kernel, rfl, by decide +kernel, by decide +kernel⟩
/-- one turn of the list of comparisons -/
theorem asc_turn {H Hx : Hp} {D : Addr} {xs : List V} {ds : List PyData} {j : Nat} {x y : V} {U : Addr} (nD : H D = none) (S : Same H Hx) (hD : Hx D = some (.lst ((List.range j).map fun i => V.bl (PySem.W.dataLt (ds.getD i .none) (ds.getD (i + 1) .none)))))
    (hx : DatAll H xs ds) (ok : AscOk ds) (h1 : xs[j]? = some x) (h2 : (xs.drop 1)[j]? = some y) (hj : j < 1000000) (nU : Hx U = none) :
    rLtDat x y (upd Hx U (.tup [x, y])) (fun z H4 => ∃ acc, H4 D = some (.lst acc) ∧ acc.length < sizeLine ∧ Same H (upd H4 D (.lst (acc ++ [z]))) ∧ upd H4 D (.lst (acc ++ [z])) D = some (.lst ((List.range (j + 1)).map fun i => V.bl (PySem.W.dataLt (ds.getD i .none) (ds.getD (i + 1) .none))))) := by
  have S1 := S.trans (same_new (o := HO.tup [x, y]) nU)
  obtain ⟨d, hd, td⟩ := hx.get h1
  have h2' : xs[j + 1]? = some y := by
    rw [List.getElem?_drop] at h2
    rw [Nat.add_comm]
    exact h2
  obtain ⟨e, he, te⟩ := hx.get h2'
  have g1 : ds.getD j .none = d := by rw [List.getD_eq_getElem?_getD, hd]; rfl
  have g2 : ds.getD (j + 1) .none = e := by rw [List.getD_eq_getElem?_getD, he]; rfl
  have hlt : j + 1 < ds.length := by
    have z := (List.getElem?_eq_some_iff.mp he).1
    exact z
  obtain ⟨o1, o2, o3⟩ := ok j hlt
  rw [g1, g2] at o1
  rw [g1] at o2 o3
  refine ⟨d, e, td.same S1, te.same S1, o1, o2, o3, _, same_new nU _ _ hD, ?_, grow nD S1, ?_⟩
  · rw [List.length_map, List.length_range, sizeLine_eq]
    omega
  · rw [upd_same, List.range_succ, List.map_append]
    show _ = some (HO.lst (_ ++ [V.bl (PySem.W.dataLt (ds.getD j .none) (ds.getD (j + 1) .none))]))
    rw [g1, g2]
theorem ok_asc {f : Addr} {fd : FuncData} (F : Fun K "is_ascending" "is_ascending" sAsc f fd) (T : Nm mg) : FnOk P w K mg base CX0 1 f fd ["items"] (fun vs H Q E => spAsc vs H Q E ∧ ∀ a xs, (H a = some (.lst xs) ∨ H a = some (.tup xs)) → vs = [.ref a] → xs.length < 1000000) := by
  refine F.ok scAsc (fun vs H Q E h => ?_) (fun cdv A outer s H vs Q E hr h => ?_)
  · obtain ⟨⟨a, xs, ds, rfl, _⟩, _⟩ := h
    rfl
  · obtain ⟨⟨a, xs, ds, rfl, ha, hx, ok, q⟩, hz⟩ := h
    have hu := hr.units
    have hl := hz a xs ha rfl
    have hlen : min xs.length (xs.drop 1).length = ds.length - 1 := by
      rw [List.length_drop, hx.len]
      omega
    have fin : ∀ {D : Addr} {Hx : Hp} {Q' : VK}, (∀ H', Same H H' → Q' (.bl (ascB ds)) H') → Same H Hx → Hx D = some (.lst ((List.range (ds.length - 1)).map fun i => V.bl (PySem.W.dataLt (ds.getD i .none) (ds.getD (i + 1) .none)))) → rAll K [.ref D] Hx Q' := by
      intro D Hx Q' q' S hD
      refine ⟨D, (List.range (ds.length - 1)).map fun i => PySem.W.dataLt (ds.getD i .none) (ds.getD (i + 1) .none), rfl, SqL.of (by rw [hD, List.map_map]; rfl), ?_⟩
      rw [List.all_map]
      exact q' Hx S
    rcases ha with ha | ha
    · refine ⟨_, pss_one (ps_ret (pe_callB (cr_all rfl) (by rfl) T.all boot_all (pa_cons (pe_lc (own := [("before", 1), ("after", 2)]) (g := gTup K 2 (gCons (gName 1) (gCons (gName 2) gNil))) (tt := tYes) rfl scAsc.nd
          (RZ.pi_zipA rfl T.zip (pa_cons (pv 0) (pa_cons (pe_slice sl_list (pv 0) (po_some pe_int) po_none) pa_nil))) (blkOk_by (N := ["items", "before", "after"]) (sc := defScope sAsc) (by decide +kernel))
          (fun _ _ _ _ _ => pg_tup rfl (pgs_cons (pg_name (i := 1) scAsc.nd rfl (Or.inl rfl)) (pgs_cons (pg_name (i := 2) scAsc.nd rfl (Or.inl rfl)) pgs_nil))) (fun _ _ _ _ _ => pts_nil) (fun _ _ _ _ _ => pe_cmpR (op_ltDat hu) (pv 1) (pv 2) (nomark _))) pa_nil))), ?_⟩
      refine ⟨_, rfl, _, rfl, 1, rfl, a, xs, rfl, SqL.of ha, fun b nb => ?_⟩
      rw [cut1]
      have Sb := same_new (o := HO.lst (xs.drop 1)) nb
      have hb : upd H b (.lst (xs.drop 1)) b = some (.lst (xs.drop 1)) := upd_same
      generalize upd H b (.lst (xs.drop 1)) = Hb at Sb hb ⊢
      refine ⟨a, b, xs, xs.drop 1, rfl, .inl ⟨SqL.of (Sb _ _ ha), SqL.of hb, fun D nD => lc_it (walk_zip (K := K) (a := a) (b := b) (xs := xs) (ys := xs.drop 1) hlen.symm) (fun j Hx => Same Hb Hx ∧ Hx D = some (.lst ((List.range j).map fun i => V.bl (PySem.W.dataLt (ds.getD i .none) (ds.getD (i + 1) .none)))))
        ⟨same_new nD, upd_same⟩ (fun j Hx _ ⟨S, _⟩ => ⟨SqL.of (S _ _ (Sb _ _ ha)), SqL.of (S _ _ hb)⟩) ?_ ?_⟩⟩
      · rintro j z Hx Hy hj ⟨S, hD⟩ ⟨U, x, y, rfl, nU, rfl, h1, h2⟩
        exact ⟨U, _, rfl, SqT.of upd_same, rfl, _, _, rfl, _, _, rfl, rfl, rfl, _, rfl, _, rfl, asc_turn nD S hD (hx.same Sb) ok h1 h2 (by omega) nU⟩
      · rintro Hx ⟨S, hD⟩
        exact fin q (Sb.trans S) hD
    · refine ⟨_, pss_one (ps_ret (pe_callB (cr_all rfl) (by rfl) T.all boot_all (pa_cons (pe_lc (own := [("before", 1), ("after", 2)]) (g := gTup K 2 (gCons (gName 1) (gCons (gName 2) gNil))) (tt := tYes) rfl scAsc.nd
          (RZ.pi_zipA rfl T.zip (pa_cons (pv 0) (pa_cons (pe_slice sl_tupA (pv 0) (po_some pe_int) po_none) pa_nil))) (blkOk_by (N := ["items", "before", "after"]) (sc := defScope sAsc) (by decide +kernel))
          (fun _ _ _ _ _ => pg_tup rfl (pgs_cons (pg_name (i := 1) scAsc.nd rfl (Or.inl rfl)) (pgs_cons (pg_name (i := 2) scAsc.nd rfl (Or.inl rfl)) pgs_nil))) (fun _ _ _ _ _ => pts_nil) (fun _ _ _ _ _ => pe_cmpR (op_ltDat hu) (pv 1) (pv 2) (nomark _))) pa_nil))), ?_⟩
      refine ⟨_, rfl, _, rfl, 1, rfl, ?_⟩
      dsimp only [tNoPart]
      refine slA_of ha fun b Hb Sb hb => ?_
      refine ⟨a, b, xs, xs.drop 1, rfl, .inr ⟨SqT.of (Sb _ _ ha), SqT.of hb, fun D nD => lc_it (walk_zip2 (K := K) (a := a) (b := b) (xs := xs) (ys := xs.drop 1) hlen.symm) (fun j Hx => Same Hb Hx ∧ Hx D = some (.lst ((List.range j).map fun i => V.bl (PySem.W.dataLt (ds.getD i .none) (ds.getD (i + 1) .none)))))
        ⟨same_new nD, upd_same⟩ (fun j Hx _ ⟨S, _⟩ => ⟨SqT.of (S _ _ (Sb _ _ ha)), SqT.of (S _ _ hb)⟩) ?_ ?_⟩⟩
      · rintro j z Hx Hy hj ⟨S, hD⟩ ⟨U, x, y, rfl, nU, rfl, h1, h2⟩
        exact ⟨U, _, rfl, SqT.of upd_same, rfl, _, _, rfl, _, _, rfl, rfl, rfl, _, rfl, _, rfl, asc_turn nD S hD (hx.same Sb) ok h1 h2 (by omega) nU⟩
      · rintro Hx ⟨S, hD⟩
        exact fin q (Sb.trans S) hD
end
end KF
set_option maxRecDepth 100000
set_option maxHeartbeats 8000000
namespace KF
open PySem PySem.Spec PyProof.Rows L2
abbrev sIsState : Stmt := top 12
abbrev sAreStates : Stmt := top 13
/-! ### [p(x) for x in a tuple] -/
theorem lc_all {K : PySem.W.Frag} {H : Hp} {a : Addr} {xs : List V} {ds : List PyData} {g : TG} {te : TE} {vs : List Nat} {σ : L2.St} {D : Addr} {Qd : Hp → Prop} (p : PyData → Bool) (ha : H a = some (.tup xs)) (hx : DatAll H xs ds) (hz : xs.length ≤ 1000000) (nD : H D = none)
    (hs : ∀ (i : Nat) (x : V) (d : PyData) (Hx : Hp), xs[i]? = some x → ds[i]? = some d → Dat Hx x d → Same H Hx → ∀ R : VK, (∀ H', Same Hx H' → R (.bl (p d)) H') → g x (wipe σ vs) Hx fun σ2 H2 => wipe σ2 vs = wipe σ vs ∧ te σ2 H2 R)
    (mono : ∀ (x : V) (Hx : Hp) (A B : L2.St → Hp → Prop), (∀ σ2 H2, A σ2 H2 → B σ2 H2) → g x (wipe σ vs) Hx A → g x (wipe σ vs) Hx B)
    (hd : ∀ Hx, Same H Hx → Hx D = some (.lst ((ds.map p).map V.bl)) → Qd Hx) :
    ∃ W : Nat → Nat → Hp → Prop, (∃ m, W 0 m (upd H D (.lst []))) ∧ ∀ i m H, W i m H →
      ((Itt K a).stop i H ∧ Qd H) ∨ ((Itt K a).go i H ∧ ∃ Nx : Hp → Prop, (∀ H', Nx H' → ∃ m', m' < m ∧ W (i + 1) m' H') ∧ ∀ x H', (Itt K a).yld i H x H' → g x (wipe σ vs) H' fun σ2 H2 => wipe σ2 vs = wipe σ vs ∧ tYes σ2 H2 fun b H3 =>
        if b = true then te σ2 H3 fun y H4 => ∃ acc, H4 D = some (.lst acc) ∧ acc.length < sizeLine ∧ Nx (upd H4 D (.lst (acc ++ [y]))) else Nx H3) := by
  refine lc_tup (K := K) (a := a) (xs := xs) (fun j Hx => Same H Hx ∧ Hx D = some (.lst (((ds.take j).map p).map V.bl))) ⟨same_new nD, upd_same⟩ (fun j Hx _ ⟨S, _⟩ => SqT.of (S _ _ ha)) ?_ ?_
  · rintro i x Hx hi ⟨S, hD⟩
    obtain ⟨d, hdi, td⟩ := hx.get hi
    refine mono x Hx _ _ (fun σ2 H2 h => ⟨h.1, ?_⟩) (hs i x d Hx hi hdi (td.same S) S (fun y H4 => ∃ acc, H4 D = some (.lst acc) ∧ acc.length < sizeLine ∧ Same H (upd H4 D (.lst (acc ++ [y]))) ∧ upd H4 D (.lst (acc ++ [y])) D = some (.lst (((ds.take (i + 1)).map p).map V.bl))) fun H' S' => ?_)
    · dsimp only [tYes]
      first
        | exact if_t rfl h.2
        | exact h.2
    · have hi' : i < xs.length := (List.getElem?_eq_some_iff.mp hi).1
      refine ⟨_, S' _ _ hD, ?_, grow nD (S.trans S'), ?_⟩
      · rw [List.length_map, List.length_map, List.length_take, sizeLine_eq]
        omega
      · rw [upd_same, List.take_add_one, hdi]
        simp
  · rintro Hx ⟨S, hD⟩
    refine hd Hx S ?_
    rw [hD, hx.len, List.take_of_length_le (Nat.le_refl _)]
theorem all_bools {K : PySem.W.Frag} {H : Hp} {D : Addr} {bs : List Bool} {Q : VK} (h : H D = some (.lst (bs.map V.bl))) (q : Q (.bl (bs.all id)) H) : rAll K [.ref D] H Q := ⟨D, bs, rfl, SqL.of h, q⟩
def tupItems : PyData → List PyData
  | .tuple ds => ds
  | _ => []
def statesB (d : PyData) : Bool := tupOf 0 8 d && ((tupItems d).all (btw 0 7) && ascB (tupItems d))
theorem tupOf_len {lo hi : Int} {d : PyData} (h : tupOf lo hi d = true) : ∃ ds, d = .tuple ds ∧ lo ≤ (ds.length : Int) ∧ (ds.length : Int) ≤ hi := by
  cases d with
  | tuple ds =>
    have h' : (decide (lo ≤ (ds.length : Int)) && decide ((ds.length : Int) ≤ hi)) = true := h
    rw [Bool.and_eq_true] at h'
    exact ⟨ds, rfl, of_decide_eq_true h'.1, of_decide_eq_true h'.2⟩
  | _ => cases h
theorem all_btw {lo hi : Int} {ds : List PyData} (h : ds.all (btw lo hi) = true) : ∀ d ∈ ds, ∃ i, d = .int i := fun d hd => by
  obtain ⟨i, e, _⟩ := btw_int (List.all_eq_true.mp h d hd)
  exact ⟨i, e⟩
theorem asc_ints {ds : List PyData} (h : ∀ d ∈ ds, ∃ i, d = .int i) : AscOk ds := fun i hi => by
  have g : ∀ j, j < ds.length → ∃ z, ds.getD j .none = .int z := fun j hj => by
    obtain ⟨z, e⟩ := h ds[j] (List.getElem_mem hj)
    exact ⟨z, by rw [List.getD_eq_getElem?_getD, List.getElem?_eq_getElem hj]; exact e⟩
  obtain ⟨x, ex⟩ := g i (by omega)
  obtain ⟨y, ey⟩ := g (i + 1) hi
  rw [ex, ey]
  exact ⟨by simp [PySem.W.alike], by simp, by simp [PyData.depth]⟩
theorem scStates : FnScope ["value", "state"] ["value"] (defScope sAreStates) := ⟨rfl, rfl, rfl, by decide +kernel, rfl, by decide +kernel, by decide +kernel⟩
section
variable {P : Program} {w : World} {K : PySem.W.Frag} {mg : Str → Option Value} {base : Heap}
theorem scIsState : FnScope ["value"] ["value"] (defScope sIsState) := ⟨rfl, rfl, rfl, by decide +kernel, rfl, by decide +kernel, by decide +kernel⟩
theorem ok_state {f fB : Addr} {fd fdB : FuncData} (F : Fun K "is_state" "is_state" sIsState f fd) (Z : ∃ t, mg "LAST_STATE" = some (.int 7 t)) (B : DefOk K mg "is_between" sBtw ["value", "low", "high"] fB fdB) (GB : FnOk P w K mg base CX0 2 fB fdB ["value", "low", "high"] spBtw) : FnOk P w K mg base CX0 3 f fd ["value"] (spP (btw 0 7)) := by
  obtain ⟨t, z⟩ := Z
  refine F.ok scIsState (fun vs H Q E h => ?_) (fun cdv A outer s H vs Q E hr h => ?_)
  · obtain ⟨v, d, rfl, _⟩ := h
    rfl
  · obtain ⟨v, d, rfl, hd, q⟩ := h
    refine ⟨_, pss_one (ps_ret (pe_call GB hr rfl B.g B.F.kp B.b .nil pass0 (pa_cons (pv 0) (pa_cons pe_int (pa_cons (pe_glob (v := .int 7) rfl z ⟨_, rfl⟩) pa_nil))))), ?_⟩
    exact ⟨_, rfl, v, d, 0, 7, rfl, hd, q⟩
/-- as for Pre.GA: a tuple that is short -/
theorem asc_tup {H : Hp} {a : Addr} {xs : List V} {ds : List PyData} {Q : VK} {E : XK} (ha : H a = some (.tup xs)) (hx : DatAll H xs ds) (hz : xs.length < 1000000) (ok : AscOk ds) (q : ∀ H', Same H H' → Q (.bl (ascB ds)) H') :
    spAsc [.ref a] H Q E ∧ ∀ b ys, (H b = some (.lst ys) ∨ H b = some (.tup ys)) → ([V.ref a] : List V) = [.ref b] → ys.length < 1000000 := by
  refine ⟨⟨a, xs, ds, rfl, .inr ha, hx, ok, q⟩, fun b ys h e => ?_⟩
  injection e with e _
  injection e with e
  subst e
  rw [ha] at h
  rcases h with h | h
  · cases h
  · cases h
    exact hz
theorem asc_lst {H : Hp} {a : Addr} {xs : List V} {ds : List PyData} {Q : VK} {E : XK} (ha : H a = some (.lst xs)) (hx : DatAll H xs ds) (hz : xs.length < 1000000) (ok : AscOk ds) (q : ∀ H', Same H H' → Q (.bl (ascB ds)) H') :
    spAsc [.ref a] H Q E ∧ ∀ b ys, (H b = some (.lst ys) ∨ H b = some (.tup ys)) → ([V.ref a] : List V) = [.ref b] → ys.length < 1000000 := by
  refine ⟨⟨a, xs, ds, rfl, .inl ha, hx, ok, q⟩, fun b ys h e => ?_⟩
  injection e with e _
  injection e with e
  subst e
  rw [ha] at h
  rcases h with h | h
  · cases h
    exact hz
  · cases h
theorem ok_states {f fS : Addr} {fd fdS : FuncData} (F : Fun K "are_states" "are_states" sAreStates f fd) (nm : Nm mg) (Z : ∃ t, mg "LAST_STATE" = some (.int 7 t)) {fT fA : Addr} {dT dA : FuncData} (YT : DefOk K mg "is_tuple" sTup ["value", "least", "most"] fT dT) (YA : DefOk K mg "is_ascending" sAsc ["items"] fA dA) (YGT : FnOk P w K mg base CX0 1 fT dT ["value", "least", "most"] spTup) (YGA : FnOk P w K mg base CX0 1 fA dA ["items"] (fun vs H Q E => spAsc vs H Q E ∧ ∀ a xs, (H a = some (.lst xs) ∨ H a = some (.tup xs)) → vs = [.ref a] → xs.length < 1000000)) (St : DefOk K mg "is_state" sIsState ["value"] fS fdS) (GS : FnOk P w K mg base CX0 3 fS fdS ["value"] (spP (btw 0 7))) : FnOk P w K mg base CX0 4 f fd ["value"] (spP statesB) := by
  obtain ⟨t, z⟩ := Z
  refine F.ok scStates (fun vs H Q E h => ?_) (fun cdv A outer s H vs Q E hr h => ?_)
  · obtain ⟨v, d, rfl, _⟩ := h
    rfl
  · obtain ⟨v, d, rfl, hd, q⟩ := h
    have hr1 : Room 1 _ := hr.mono (by decide)
    refine ⟨_, pss_cons (ps_if (pt_not (pt_val (pe_call YGT hr1 rfl YT.g YT.F.kp YT.b .nil pass0 (pa_cons (pv 0) (pa_cons pe_int (pa_cons (pe_op op_add (pe_glob (v := .int 7) rfl z ⟨_, rfl⟩) pe_int) pa_nil)))))) (pss_one (ps_ret pe_bl)) pss_nil)
      (pss_one (ps_ret (pe_and (pe_callB (cr_all rfl) (by rfl) nm.all boot_all (pa_cons (pe_lc (own := [("state", 1)]) (g := gName 1) (tt := tYes) rfl scStates.nd (pi_tup (pv 0)) (blkOk_by (N := ["value", "state"]) (sc := defScope sAreStates) (by decide +kernel))
            (fun _ _ _ _ _ => pg_name (i := 1) scStates.nd rfl (Or.inl rfl)) (fun _ _ _ _ _ => pts_nil) (fun _ _ _ _ _ => pe_call GS hr rfl St.g St.F.kp St.b .nil pass0 (pa_cons (pv 1) pa_nil))) pa_nil))
          (pe_one (pe_call YGA hr1 rfl YA.g YA.F.kp YA.b .nil pass0 (pa_cons (pv 0) pa_nil)))))), ?_⟩
    refine ⟨_, rfl, _, _, rfl, rfl, v, d, 0, 8, rfl, hd, fun H1 S1 => ⟨_, rfl, ?_⟩⟩
    have q1 := q H1 S1
    unfold statesB at q q1
    cases h : tupOf 0 8 d with
    | false =>
      rw [h] at q1
      exact if_t rfl q1
    | true =>
      rw [h] at q
      obtain ⟨ds, rfl, _, h8⟩ := tupOf_len h
      cases hd with
      | @tup a xs _ ha hx =>
        have hx1 := hx.same S1
        have hl := hx.len
        refine if_f rfl ⟨_, rfl, a, rfl, ⟨_, SqT.of (S1 _ _ ha)⟩, fun D nD => lc_all (K := K) (a := a) (xs := xs) (ds := ds) (btw 0 7) (S1 _ _ ha) hx1 (by omega) nD (fun i x d Hx hi hdi td S R hR => ⟨rfl, _, rfl, x, d, rfl, td, hR⟩) mono_name fun Hx S hD => ?_⟩
        refine ⟨D, ds.map (btw 0 7), rfl, SqL.of hD, _, rfl, ?_⟩
        have eAll : (ds.map (btw 0 7)).all id = ds.all (btw 0 7) := by
          rw [List.all_map]
          rfl
        rw [eAll]
        have S2 := S1.trans S
        cases h2 : ds.all (btw 0 7) with
        | false =>
          have q2 : Q (.bl (true && (ds.all (btw 0 7) && ascB ds))) Hx := q Hx S2
          rw [h2] at q2
          exact if_f rfl q2
        | true =>
          refine if_t rfl ⟨_, rfl, asc_tup (S2 _ _ ha) (hx.same S2) (by omega) (asc_ints (all_btw h2)) fun H3 S3 => ?_⟩
          have q3 : Q (.bl (true && (ds.all (btw 0 7) && ascB ds))) H3 := q H3 (S2.trans S3)
          rw [h2] at q3
          exact q3
end
end KF
set_option maxRecDepth 100000
set_option maxHeartbeats 8000000
namespace KF
open PySem PySem.Spec PyProof.Rows L2
abbrev s_aperm : Stmt := top 25
abbrev s_lets : Stmt := top 28
def permB (n : Int) (z : Str) (as : List PyData) : Bool := takesB [("image", n - 1), ("preimage", n - 1)] z as
/-- a tuple of names, ascending (what is_ascending may be asked: short, and all are texts) -/
def letsB (d : PyData) : Bool := isTup d && ((tupItems d).all nameB && ascB (tupItems d))
theorem asc_names {ds : List PyData} (h : ∀ d ∈ ds, ∃ s, d = .str s) : AscOk ds := fun i hi => by
  have g : ∀ j, j < ds.length → ∃ z, ds.getD j .none = .str z := fun j hj => by
    obtain ⟨z, e⟩ := h ds[j] (List.getElem_mem hj)
    exact ⟨z, by rw [List.getD_eq_getElem?_getD, List.getElem?_eq_getElem hj]; exact e⟩
  obtain ⟨x, ex⟩ := g i (by omega)
  obtain ⟨y, ey⟩ := g (i + 1) hi
  rw [ex, ey]
  exact ⟨by simp [PySem.W.alike], by simp, by simp [PyData.depth]⟩
theorem name_is {d : PyData} (h : nameB d = true) : ∃ s, d = .str s := by
  cases d with
  | str s => exact ⟨s, rfl⟩
  | _ => cases h
def spLets : Sp := fun vs H Q _ => ∃ (v : V) (d : PyData), vs = [v] ∧ Dat H v d ∧ (tupItems d).length ≤ 1000 ∧ ∀ H', Same H H' → Q (.bl (letsB d)) H'
section
variable {P : Program} {w : World} {K : PySem.W.Frag} {mg : Str → Option Value} {base : Heap}
theorem sc_aperm : FnScope ["part", "word", "arguments"] ["part", "word", "arguments"] (defScope s_aperm) := ⟨rfl, rfl, rfl, by decide +kernel, rfl, by decide +kernel, by decide +kernel⟩
theorem sc_lets : FnScope ["value", "item"] ["value"] (defScope s_lets) := ⟨rfl, rfl, rfl, by decide +kernel, rfl, by decide +kernel, by decide +kernel⟩
theorem ok_aperm {n : Int} {f fT : Addr} {fd fdT : FuncData} (F : Fun K "asks_permutation" "asks_permutation" s_aperm f fd) (T : DefOk K mg "takes_index" s_takes ["tops", "word", "arguments"] fT fdT) (G : FnOk P w K mg base CX0 3 fT fdT ["tops", "word", "arguments"] spTakes) : FnOk P w K mg base CX0 4 f fd ["part", "word", "arguments"] (spQ (okNum n) (permB n)) := by
  refine F.ok sc_aperm (fun vs H Q E h => ?_) (fun cdv A outer s H vs Q E hr h => ?_)
  · obtain ⟨a0, a, ps, z, xs, as, rfl, _⟩ := h
    rfl
  · obtain ⟨a0, a, ps, z, xs, as, rfl, h0, ⟨x0, r, rfl⟩, hz, ha, hx, q⟩ := h
    refine ⟨_, (pss_one (ps_ret (pe_call G hr rfl T.g T.F.kp T.b .nil pass0 (pa_cons (pe_disp (pps_cons pe_str (pe_op op_sub (pe_ix ix_tup (pv 0) pe_int (fun _ _ => rfl)) pe_int) (pps_cons pe_str (pe_op op_sub (pe_ix ix_tup (pv 0) pe_int (fun _ _ => rfl)) pe_int) pps_nil)) (by rfl) (by rfl) (fun z => by cases z) (by decide)) (pa_cons (pv 1) (pa_cons (pv 2) pa_nil)))))), ?_⟩
    refine fun p np => ?_
    have h1 := same_new (o := HO.dK []) np _ _ h0
    refine ⟨_, rfl, a0, _, _, _, rfl, rfl, SqT.of h1, atI_nat (j := 1) rfl, _, _, rfl, rfl, _, rfl, a0, _, _, _, rfl, rfl, SqT.of h1, atI_nat (j := 1) rfl, _, _, rfl, rfl, upd_same, kvT [("image", n - 1), ("preimage", n - 1)], rfl, (by show 2 ≤ 15; decide), ?_⟩
    have g : upd (upd H p (.dK [])) p (.dK (mergeK [] (kvT [("image", n - 1), ("preimage", n - 1)]))) p = some (.dK (kvT [("image", n - 1), ("preimage", n - 1)])) := upd_same
    have S := disp_same (o := .dK (mergeK [] (kvT [("image", n - 1), ("preimage", n - 1)]))) np
    generalize upd (upd H p (.dK [])) p (.dK (mergeK [] (kvT [("image", n - 1), ("preimage", n - 1)]))) = H2 at g S ⊢
    exact ⟨_, rfl, _, rfl, p, a, _, z, xs, as, rfl, g, S _ _ ha, hx.same S, fun H' S' => q H' (S.trans S')⟩
theorem ok_lets {f fN fA : Addr} {fd dN dA : FuncData} (F : Fun K "are_letters" "are_letters" s_lets f fd) (nm : Nm mg) (YN : DefOk K mg "is_name" sName ["value"] fN dN) (YA : DefOk K mg "is_ascending" sAsc ["items"] fA dA) (GN : FnOk P w K mg base CX0 1 fN dN ["value"] (spP nameB))
    (YGA : FnOk P w K mg base CX0 1 fA dA ["items"] (fun vs H Q E => spAsc vs H Q E ∧ ∀ a xs, (H a = some (.lst xs) ∨ H a = some (.tup xs)) → vs = [.ref a] → xs.length < 1000000)) : FnOk P w K mg base CX0 2 f fd ["value"] spLets := by
  refine F.ok sc_lets (fun vs H Q E h => ?_) (fun cdv A outer s H vs Q E hr h => ?_)
  · obtain ⟨v, d, rfl, _⟩ := h
    rfl
  · obtain ⟨v, d, rfl, hd, hlen, q⟩ := h
    refine ⟨_, (pss_one (ps_ret (pe_and (pe_callB call_isi (by rfl) nm.isinstance boot_isinstance (pa_cons (pv 0) (pa_cons (pe_bltn (v := .ty "tuple") rfl nm.tuple (by decide +kernel) rfl) pa_nil))) (pe_and (pe_callB (cr_all rfl) (by rfl) nm.all boot_all (pa_cons (pe_lc (own := [("item", 1)]) (g := (gName 1)) (tt := tYes) (te := tCall (spP nameB) [] E0 (tCons (tVar 1) tNil)) rfl sc_lets.nd (pi_tup (pv 0)) (blkOk_by (N := ["value", "item"]) (sc := defScope s_lets) (by decide +kernel))
          (fun _ _ _ _ _ => (pg_name (i := 1) sc_lets.nd rfl (Or.inl rfl))) (fun _ _ _ _ _ => pts_nil) (fun _ _ _ _ _ => (pe_call GN hr rfl YN.g YN.F.kp YN.b .nil pass0 (pa_cons (pv 1) pa_nil)))) pa_nil)) (pe_one (pe_call YGA hr rfl YA.g YA.F.kp YA.b .nil pass0 (pa_cons (pv 0) pa_nil))))))), ?_⟩
    refine ⟨_, rfl, v, .ty "tuple", _, _, _, rfl, .ty _, hd.ty, kit_tuple _ d, _, rfl, ?_⟩
    have q' := q H fun _ _ e => e
    cases d with
    | tuple ds =>
      cases hd with
      | @tup a xs _ ha hx =>
        have hl := hx.len
        have hlen : ds.length ≤ 1000 := hlen
        refine if_t rfl ⟨_, rfl, a, rfl, ⟨_, SqT.of ha⟩, fun D nD => lc_all (K := K) (a := a) (xs := xs) (ds := ds) nameB ha hx (by omega) nD (fun i x d Hx hi hdi td S R hR => ⟨rfl, _, rfl, x, d, rfl, td, hR⟩) mono_name fun Hx S hD => ?_⟩
        refine ⟨D, ds.map nameB, rfl, SqL.of hD, _, rfl, ?_⟩
        have eAll : (ds.map nameB).all id = ds.all nameB := by
          rw [List.all_map]
          rfl
        rw [eAll]
        cases h2 : ds.all nameB with
        | false =>
          have q2 : Q (.bl (true && (ds.all nameB && ascB ds))) Hx := q Hx S
          rw [h2] at q2
          exact if_f rfl q2
        | true =>
          refine if_t rfl ⟨_, rfl, asc_tup (S _ _ ha) (hx.same S) (by omega) (asc_names fun d hd => name_is (List.all_eq_true.mp h2 d hd)) fun H3 S3 => ?_⟩
          have q3 : Q (.bl (true && (ds.all nameB && ascB ds))) H3 := q H3 (S.trans S3)
          rw [h2] at q3
          exact q3
    | int i => exact q'
    | bool b => exact q'
    | none => exact q'
    | str x => exact q'
    | list ds => exact q'
    | dict kv => exact q'
end
end KF
set_option maxRecDepth 100000
set_option maxHeartbeats 8000000
namespace KF
open PySem PySem.Spec PyProof.Rows L2
/-! ### asks_walk -/
theorem and_one (x : Int) : Builtin.bitAnd x 1 = x % 2 := by
  by_cases h : 0 ≤ x
  · rw [bitAnd_pp h (by decide)]
    have e : (1 : Int).toNat = 1 := rfl
    rw [e, Nat.and_one_is_mod]
    omega
  · rw [bitAnd_np h (by decide)]
    have e : (1 : Int).toNat = 1 := rfl
    have e2 : Builtin.bitNot x = -x - 1 := rfl
    rw [e, e2, Nat.and_comm, Nat.and_one_is_mod]
    omega
theorem inV2 (z x y : Str) : inV (.str z) [.str x, .str y] = (decide (z = x) || decide (z = y)) := by
  have e : ∀ a : Str, eqV (.str a) (.str z) = decide (z = a) := fun a => by
    show (a == z) = decide (z = a)
    by_cases h : z = a
    · rw [decide_eq_true h, h]
      exact beq_self_eq_true _
    · rw [decide_eq_false h]
      exact beq_eq_false_iff_ne.mpr fun y => h y.symm
  unfold inV
  rw [List.any_cons, List.any_cons, e, e, List.any_nil, Bool.or_false]
abbrev s_awalk : Stmt := top 22
def topsW (n s e : Int) : Tops := if (n + e - s) % 2 = 0 then [("height", n), ("up", (n + e - s) / 2 - 1), ("down", (n - e + s) / 2 - 1)] else [("height", n)]
def walkB (n s e : Int) (z : Str) (as : List PyData) : Bool := if ((decide (z = "first_visit") || decide (z = "last_visit")) && decide (as.length = 2)) = true then btw 0 n (as.getD 0 .none) && isInt (as.getD 1 .none) else takesB (topsW n s e) z as
def okWalk (n s e : Int) : Hp → List V → Prop := fun _ ps => ∃ x0 x4 x5, ps = [x0, .int n, .int s, .int e, x4, x5]
section
variable {P : Program} {w : World} {K : PySem.W.Frag} {mg : Str → Option Value} {base : Heap}
theorem sc_awalk : FnScope ["part", "word", "arguments", "n", "start", "end", "tops"] ["part", "word", "arguments"] (defScope s_awalk) := ⟨rfl, rfl, rfl, by decide +kernel, rfl, by decide +kernel, by decide +kernel⟩
theorem ok_awalk {n s0 e0 : Int} {f fT fB fI : Addr} {fd fdT fdB fdI : FuncData} (F : Fun K "asks_walk" "asks_walk" s_awalk f fd) (N : Nm mg) (T : DefOk K mg "takes_index" s_takes ["tops", "word", "arguments"] fT fdT) (G : FnOk P w K mg base CX0 3 fT fdT ["tops", "word", "arguments"] spTakes)
    (B : DefOk K mg "is_between" sBtw ["value", "low", "high"] fB fdB) (GB : FnOk P w K mg base CX0 2 fB fdB ["value", "low", "high"] spBtw) (I : DefOk K mg "is_integer" sIsInt ["value"] fI fdI) : FnOk P w K mg base CX0 4 f fd ["part", "word", "arguments"] (spQ (okWalk n s0 e0) (walkB n s0 e0)) := by
  have GI : FnOk P w K mg base CX0 1 fI fdI ["value"] (spP isInt) := ok_isint I.F N
  refine F.ok sc_awalk (fun vs H Q E h => ?_) (fun cdv A outer s H vs Q E hr h => ?_)
  · obtain ⟨a0, a, ps, z, xs, as, rfl, _⟩ := h
    rfl
  · obtain ⟨a0, a, ps, z, xs, as, rfl, h0, ⟨x0, x4, x5, rfl⟩, hz, ha, hx, q⟩ := h
    have hu1 : (A.deeper (envOfC "asks_walk" (defScope s_awalk) s.heap.objs.size f cdv)).units + 1 < cLine := by
      have := hr.un
      omega
    have hr1 : Room 1 _ := hr.mono (by decide)
    have hr2 : Room 2 _ := hr.mono (by decide)
    refine ⟨_, (pss_cons (ps_asg (pe_slice sl_tupA (pv 0) (po_some pe_int) (po_some pe_int)) (pg_tup rfl (pgs_cons (pg_name (i := 3) sc_awalk.nd rfl (Or.inl rfl)) (pgs_cons (pg_name (i := 4) sc_awalk.nd rfl (Or.inl rfl)) (pgs_cons (pg_name (i := 5) sc_awalk.nd rfl (Or.inl rfl)) pgs_nil)))))
      (C8.pss_cut (ps_if (PW.pt (pw_and (pt_cmpR op_in_seq (pv 1) (pe_tup (pa_cons pe_str (pa_cons pe_str pa_nil))) rfl) (pw_and1 (pt_cmpR op_eq (pe_callB call_len_seq (by rfl) N.len PySem.boot_len (pa_cons (pv 2) pa_nil)) pe_int (nomark _)))))
        (pss_one (ps_ret (pe_and (pe_call GB hr2 rfl B.g B.F.kp B.b .nil pass0 (pa_cons (pe_ix ix_tup (pv 2) pe_int (fun _ _ => rfl)) (pa_cons pe_int (pa_cons (pv 3) pa_nil)))) (pe_one (pe_call GI hr1 rfl I.g I.F.kp I.b .nil pass0 (pa_cons (pe_ix ix_tup (pv 2) pe_int (fun _ _ => rfl)) pa_nil))))))
        pss_nil)
      (pss_cons (ps_set (i := 6) sc_awalk.nd rfl (Or.inl rfl) (pe_disp (pps_cons pe_str (pv 3) pps_nil) (by rfl) (by rfl) (fun z => by cases z) (by decide)))
      (C8.pss_cut (ps_if (pt_cmpR op_eq (pe_op op_and (pe_op op_sub (pe_op op_add (pv 3) (pv 5)) (pv 4)) pe_int) pe_int (nomark _))
        (pss_cons (ps_dput hu1 (pv 6) pe_str (pe_op op_sub (pe_op op_fdiv (pe_op op_sub (pe_op op_add (pv 3) (pv 5)) (pv 4)) pe_int) pe_int) rfl)
        (pss_one (ps_dput hu1 (pv 6) pe_str (pe_op op_sub (pe_op op_fdiv (pe_op op_add (pe_op op_sub (pv 3) (pv 5)) (pv 4)) pe_int) pe_int) rfl)))
        pss_nil)
      (pss_one (ps_ret (pe_call G hr rfl T.g T.F.kp T.b .nil pass0 (pa_cons (pv 6) (pa_cons (pv 1) (pa_cons (pv 2) pa_nil)))))))))), ?_⟩
    refine ⟨_, rfl, 1, rfl, 4, rfl, slAny_of h0 fun b1 H1 S1 h1 => ?_⟩
    have h1 : H1 b1 = some (.tup [.int n, .int s0, .int e0]) := h1
    refine ⟨b1, _, rfl, SqT.of h1, rfl, _, _, rfl, _, _, rfl, _, _, rfl, rfl, ?_⟩
    have q1 := fun H' S' => q H' (S1.trans S')
    have ha1 := S1 _ _ ha
    have hx1 := hx.same S1
    refine ⟨fun σ H' => σ = [some (.ref a0), some (.str z), some (.ref a), some (.int n), some (.int s0), some (.int e0), none] ∧ Same H1 H' ∧ ((decide (z = "first_visit") || decide (z = "last_visit")) && decide (as.length = 2)) = false, ?_, ?_⟩
    · refine ⟨_, rfl, (by show 2 ≤ sizeLine; decide), fun tp ntp => ⟨tp, _, rfl, .inr (SqT.of upd_same), rfl, rfl, _, rfl, ?_⟩⟩
      have S2 := same_new (o := HO.tup [.str "first_visit", .str "last_visit"]) ntp
      generalize upd H1 tp (.tup [.str "first_visit", .str "last_visit"]) = H2 at S2 ⊢
      have e2 : decide (V.int ((xs.length : Nat) : Int) = V.int 2) = decide (as.length = 2) := by
        rw [hx.len]
        by_cases h : as.length = 2
        · rw [decide_eq_true h, decide_eq_true (by rw [h]; rfl)]
        · rw [decide_eq_false h, decide_eq_false fun y => h (by have := V.int.inj y; omega)]
      show (if inV (.str z) [.str "first_visit", .str "last_visit"] = true then _ else _)
      rw [inV2]
      cases ez : (decide (z = ("first_visit" : Str)) || decide (z = ("last_visit" : Str))) with
      | false => exact if_f rfl (if_f rfl ⟨rfl, S2, rfl⟩)
      | true =>
        refine if_t rfl ⟨_, rfl, a, xs, rfl, .inr (SqT.of (S2 _ _ ha1)), rfl, _, rfl, ?_⟩
        rw [e2]
        cases el : decide (as.length = 2) with
        | false => exact if_f rfl ⟨rfl, S2, rfl⟩
        | true =>
          refine if_t rfl ?_
          have hl2 := of_decide_eq_true el
          match as, xs, hx1, ha1, hl2, q1 with
          | [l, o], [xl, xo], .cons dl (.cons dO .nil), ha1, _, q1 =>
            refine ⟨_, rfl, a, _, _, _, rfl, rfl, SqT.of (S2 _ _ ha1), atI_nat (j := 0) rfl, _, rfl, xl, l, 0, n, rfl, dl.same S2, fun H3 S3 => ⟨_, rfl, ?_⟩⟩
            have z1 : ∀ H', Same H1 H' → Q (.bl (btw 0 n l && isInt o)) H' := fun H' S' => by
              have := q1 H' S'
              unfold walkB at this
              rw [ez, if_pos (show (true && decide (([l, o] : List PyData).length = 2)) = true from rfl)] at this
              exact this
            have S23 := S2.trans S3
            cases eb : btw 0 n l with
            | false =>
              rw [eb] at z1
              exact if_f rfl (z1 H3 S23)
            | true =>
              rw [eb] at z1
              exact if_t rfl ⟨_, rfl, a, _, _, _, rfl, rfl, SqT.of (S23 _ _ ha1), atI_nat (j := 1) rfl, xo, o, rfl, dO.same S23, fun H4 S4 => z1 H4 (S23.trans S4)⟩
    · rintro σ H2 ⟨rfl, S2, hf⟩
      have q2 : ∀ H', Same H2 H' → Q (.bl (takesB (topsW n s0 e0) z as)) H' := fun H' S' => by
        have := q1 H' (S2.trans S')
        unfold walkB at this
        rw [hf] at this
        exact this
      refine fun p np => ⟨_, rfl, upd_same, kvT [("height", n)], rfl, (by show 1 ≤ 15; decide), ?_⟩
      have g : upd (upd H2 p (.dK [])) p (.dK (mergeK [] (kvT [("height", n)]))) p = some (.dK (kvT [("height", n)])) := upd_same
      have S3 := disp_same (o := .dK (mergeK [] (kvT [("height", n)]))) np
      generalize upd (upd H2 p (.dK [])) p (.dK (mergeK [] (kvT [("height", n)]))) = H3 at g S3 ⊢
      refine ⟨fun σ H' => σ = [some (.ref a0), some (.str z), some (.ref a), some (.int n), some (.int s0), some (.int e0), some (.ref p)] ∧ Same H2 H' ∧ H' p = some (.dK (kvT (topsW n s0 e0))), ?_, ?_⟩
      · refine ⟨_, rfl, _, rfl, _, _, rfl, rfl, _, rfl, _, _, rfl, rfl, _, _, rfl, rfl, rfl, _, rfl, ?_⟩
        show (if decide (V.int (Builtin.bitAnd (n + e0 - s0) 1) = V.int 0) = true then _ else _)
        rw [and_one]
        by_cases hev : (n + e0 - s0) % 2 = 0
        · refine if_t (decide_eq_true (by rw [hev])) ?_
          have hk2 : valV (kvT [("height", n)]) (.inr "up") = none := by
            rw [kv_get]
            rfl
          have hk3 : valV (kvT [("height", n), ("up", (n + e0 - s0) / 2 - 1)]) (.inr "down") = none := by
            rw [kv_get]
            rfl
          refine ⟨_, rfl, _, rfl, _, _, rfl, rfl, _, rfl, _, _, rfl, rfl, _, _, rfl, rfl, ⟨by decide, by decide⟩, _, _, rfl, rfl, _, rfl, p, _, rfl, DPut.k (k := (Sum.inr "up" : Key)) g (by show 1 < sizeLine; decide), ?_⟩
          rw [putK_new _ hk2]
          have g2 : upd H3 p (.dK (kvT [("height", n)] ++ [((Sum.inr "up" : Key), V.int ((n + e0 - s0) / 2 - 1))])) p = some (.dK (kvT [("height", n), ("up", (n + e0 - s0) / 2 - 1)])) := by
            rw [upd_same]
            rfl
          have S4 : Same H2 (upd H3 p (.dK (kvT [("height", n)] ++ [((Sum.inr "up" : Key), V.int ((n + e0 - s0) / 2 - 1))]))) := fun b o e => by
            rw [upd_ne (ne_of_none e np)]
            exact S3 b o e
          generalize upd H3 p (.dK (kvT [("height", n)] ++ [((Sum.inr "up" : Key), V.int ((n + e0 - s0) / 2 - 1))])) = H4 at g2 S4 ⊢
          refine ⟨_, rfl, _, rfl, _, _, rfl, rfl, _, rfl, _, _, rfl, rfl, _, _, rfl, rfl, ⟨by decide, by decide⟩, _, _, rfl, rfl, _, rfl, p, _, rfl, DPut.k (k := (Sum.inr "down" : Key)) g2 (by show 2 < sizeLine; decide), ?_⟩
          rw [putK_new _ hk3]
          refine ⟨rfl, fun b o e => ?_, ?_⟩
          · rw [upd_ne (ne_of_none e np)]
            exact S4 b o e
          · rw [upd_same]
            unfold topsW
            rw [if_pos hev]
            rfl
        · refine if_f (decide_eq_false fun y => hev (V.int.inj y)) ⟨rfl, S3, ?_⟩
          unfold topsW
          rw [if_neg hev]
          exact g
      · rintro σ H4 ⟨rfl, S4, g4⟩
        have S14 := S2.trans S4
        exact ⟨_, rfl, _, rfl, _, rfl, p, a, _, z, xs, as, rfl, g4, S14 _ _ ha1, hx1.same S14, fun H' S' => q2 H' (S4.trans S')⟩
end
end KF
set_option maxRecDepth 100000
set_option maxHeartbeats 8000000
namespace KF
open PySem PySem.Spec PyProof.Rows L2
def at0 (ds : List PyData) (i : Nat) : PyData := ds.getD i .none
theorem at_of {ds : List PyData} {i : Nat} {d : PyData} (h : ds[i]? = some d) : at0 ds i = d := by
  unfold at0
  rw [List.getD_eq_getElem?_getD, h]
  rfl
/-! ### orders -/
def orderB : Nat → PyData → Bool
  | 0, _ => false
  | n + 1, d => tupOf 2 2 d && (if eqStr "item" (at0 (tupItems d) 0) = true then nameB (at0 (tupItems d) 1)
      else ((eqStr "series" (at0 (tupItems d) 0) || eqStr "parallel" (at0 (tupItems d) 0)) && (tupOf 2 6 (at0 (tupItems d) 1) && (tupItems (at0 (tupItems d) 1)).all (orderB n))))
theorem fn_none {P : Program} {w : World} {K : PySem.W.Frag} {mg : Str → Option Value} {base : Heap} {k : Nat} {f : Addr} {fd : FuncData} {ps : List Str} : FnOk P w K mg base CX0 k f fd ps (fun _ _ _ _ => False) := ⟨fun _ _ _ _ h => h.elim, fun _ _ _ _ _ _ _ _ _ _ _ _ _ h => h.elim⟩
/-! ### the names of an order -/
def strOf : PyData → Str
  | .str s => s
  | _ => Str.empty
def namesN : Nat → PyData → List Str
  | 0, _ => []
  | n + 1, d => if eqStr "item" (at0 (tupItems d) 0) = true then [strOf (at0 (tupItems d) 1)] else (tupItems (at0 (tupItems d) 1)).flatMap (namesN n)
theorem flat_len {f : PyData → List Str} {m : Nat} : ∀ {l : List PyData}, (∀ d ∈ l, (f d).length ≤ m) → (l.flatMap f).length ≤ l.length * m
  | [], _ => by simp
  | a :: l, h => by
    have h1 := h a (by simp)
    have h2 := flat_len (l := l) fun d hd => h d (by simp [hd])
    rw [List.flatMap_cons, List.length_append, List.length_cons, Nat.succ_mul]
    omega
/-- what orderB says, one level -/
theorem order_cases {n : Nat} {d : PyData} (h : orderB (n + 1) d = true) : ∃ d0 d1, d = .tuple [d0, d1] ∧ ((eqStr "item" d0 = true ∧ nameB d1 = true) ∨
    (eqStr "item" d0 = false ∧ ∃ es, d1 = .tuple es ∧ 2 ≤ es.length ∧ es.length ≤ 6 ∧ ∀ e ∈ es, orderB n e = true)) := by
  rw [orderB, Bool.and_eq_true] at h
  obtain ⟨ds, rfl, l1, l2⟩ := tupOf_len h.1
  match ds, (show ds.length = 2 by omega) with
  | [d0, d1], _ =>
    refine ⟨d0, d1, rfl, ?_⟩
    have h2 : (if eqStr "item" d0 = true then nameB d1 else ((eqStr "series" d0 || eqStr "parallel" d0) && (tupOf 2 6 d1 && (tupItems d1).all (orderB n)))) = true := h.2
    cases h0 : eqStr "item" d0 with
    | true =>
      rw [h0] at h2
      exact .inl ⟨rfl, h2⟩
    | false =>
      rw [h0] at h2
      have h3 : ((eqStr "series" d0 || eqStr "parallel" d0) && (tupOf 2 6 d1 && (tupItems d1).all (orderB n))) = true := h2
      rw [Bool.and_eq_true, Bool.and_eq_true] at h3
      obtain ⟨es, rfl, l3, l4⟩ := tupOf_len h3.2.1
      exact .inr ⟨rfl, es, rfl, by omega, by omega, List.all_eq_true.mp h3.2.2⟩
theorem names_len : ∀ (n : Nat) (d : PyData), orderB n d = true → (namesN n d).length ≤ 6 ^ n
  | 0, _, _ => by simp [namesN]
  | n + 1, d, h => by
    obtain ⟨d0, d1, rfl, hh⟩ := order_cases h
    have e : namesN (n + 1) (.tuple [d0, d1]) = if eqStr "item" d0 = true then [strOf d1] else (tupItems d1).flatMap (namesN n) := by rw [namesN]; rfl
    have p : 0 < 6 ^ n := Nat.pos_of_ne_zero (by simp)
    rw [e, Nat.pow_succ]
    rcases hh with ⟨h0, _⟩ | ⟨h0, es, rfl, _, l6, hes⟩
    · rw [h0, if_pos rfl]
      show 1 ≤ _
      omega
    · rw [h0, if_neg Bool.false_ne_true]
      have z := flat_len (l := es) fun e he => names_len n e (hes e he)
      have z2 : es.length * 6 ^ n ≤ 6 * 6 ^ n := Nat.mul_le_mul_right _ l6
      show (es.flatMap (namesN n)).length ≤ _
      omega
theorem flat_pre {f : PyData → List Str} {es : List PyData} {i : Nat} {e : PyData} (h : es[i]? = some e) : (es.take (i + 1)).flatMap f = (es.take i).flatMap f ++ f e := by
  rw [List.take_add_one, h]
  simp
theorem flat_take {f : PyData → List Str} (es : List PyData) (i : Nat) : ((es.take i).flatMap f).length ≤ (es.flatMap f).length := by
  have z : es.flatMap f = (es.take i).flatMap f ++ (es.drop i).flatMap f := by rw [← List.flatMap_append, List.take_append_drop]
  rw [z, List.length_append]
  omega
/-- the inner walk of a comprehension -/
theorem in_it {J : It} {n : Nat} {G : Hp → Prop} {Y : Nat → Hp → V → Hp → Prop} (w : Walk J n G Y) {Nx : Hp → Prop} {step : Nat → V → Hp → (Hp → Prop) → Prop} {H4 : Hp} (Pv : Nat → Hp → Prop) (h0 : Pv 0 H4) (hG : ∀ j H, j ≤ n → Pv j H → G H)
    (hs : ∀ j x H H', j < n → Pv j H → Y j H x H' → step j x H' (Pv (j + 1))) (hd : ∀ H, Pv n H → Nx H) :
    ∃ W1 : Nat → Nat → Hp → Prop, (∃ m, W1 0 m H4) ∧ ∀ j k H, W1 j k H → (J.stop j H ∧ Nx H) ∨ (J.go j H ∧ ∃ N1 : Hp → Prop, (∀ H', N1 H' → ∃ k', k' < k ∧ W1 (j + 1) k' H') ∧ ∀ x H', J.yld j H x H' → step j x H' N1) := by
  refine ⟨fun j k H => k + j = n ∧ Pv j H, ⟨n, rfl, h0⟩, fun j k H ⟨e, p⟩ => ?_⟩
  have g := hG j H (by omega) p
  by_cases hj : j < n
  · refine .inr ⟨w.goes j H hj g, Pv (j + 1), fun H' p' => ⟨n - (j + 1), by omega, by omega, p'⟩, fun x H' y => hs j x H H' hj p (w.yields j H x H' hj g y)⟩
  · obtain rfl : j = n := by omega
    exact .inl ⟨w.stops H g, hd H p⟩
def spNames (n : Nat) : Sp := fun vs H Q _ => ∃ (v : V) (d : PyData), vs = [v] ∧ n ≤ 6 ∧ Dat H v d ∧ orderB n d = true ∧ ∀ p H', Same H H' → H p = none → H' p = some (.lst ((namesN n d).map V.str)) → Q (.ref p) H'
abbrev sNames : Stmt := top 15
theorem dat_name {H : Hp} {v : V} {d : PyData} (h : Dat H v d) (hn : nameB d = true) : v = .str (strOf d) := by
  cases h with
  | str x _ => rfl
  | _ => cases hn
section
variable {P : Program} {w : World} {K : PySem.W.Frag} {mg : Str → Option Value} {base : Heap}
theorem scNames : FnScope ["order", "word", "rest", "inner", "name"] ["order"] (defScope sNames) := ⟨rfl, rfl, rfl, by decide +kernel, rfl, by decide +kernel, by decide +kernel⟩
theorem names_body {f : Addr} {fd : FuncData} {k : Nat} {sp : Sp} (F : Fun K "names_of" "names_of" sNames f fd) (b : L2.Binds K fd ["order"] []) (g : mg "names_of" = some (.ref f)) (G : FnOk P w K mg base CX0 k f fd ["order"] sp) (n : Nat)
    (hn : ∀ m, n = m + 1 → n ≤ 6 → ∀ (x : V) (d : PyData) (H : Hp) (R : VK), Dat H x d → orderB m d = true → (∀ p H', Same H H' → H p = none → H' p = some (.lst ((namesN m d).map V.str)) → R (.ref p) H') → sp [x] H R E0) : FnOk P w K mg base CX0 (k + 1) f fd ["order"] (spNames n) := by
  refine F.ok scNames (fun vs H Q E h => ?_) (fun cdv A outer s H vs Q E hr h => ?_)
  · obtain ⟨v, d, rfl, _⟩ := h
    rfl
  · obtain ⟨v, d, rfl, h6, hd, ho, q⟩ := h
    have hu0 := hr.units0
    refine ⟨_, pss_cons (ps_asg (pv 0) (pg_tup rfl (pgs_cons (pg_name (i := 1) scNames.nd rfl (Or.inl rfl)) (pgs_cons (pg_name (i := 2) scNames.nd rfl (Or.inl rfl)) pgs_nil))))
      (pss_cons (ps_if (pt_cmpR (op_eqStr hu0) (pv 1) pe_str (nomark _)) (pss_one (ps_ret (pe_lst (pa_cons (pv 2) pa_nil)))) pss_nil)
      (pss_one (ps_ret (pe_lc2 (own := [("inner", 3), ("name", 4)]) (vs1 := [4]) (g := gName 3) (tt := tYes) (wi1 := iList K (tCall sp [] E0 (tCons (tVar 3) tNil))) (g1 := gName 4) (tt1 := tYes) rfl scNames.nd (pi_tup (pv 2)) (blkOk_by (N := ["order", "word", "rest", "inner", "name"]) (sc := defScope sNames) (by decide +kernel)) (by decide)
          (fun _ _ _ _ _ => pg_name (i := 3) scNames.nd rfl (Or.inl rfl)) (fun _ _ _ _ _ => pts_nil) (fun _ _ _ _ _ => pi_list (pe_call G hr rfl g F.kp b .nil pass0 (pa_cons (pv 3) pa_nil)))
          (fun _ _ _ _ _ => pg_name (i := 4) scNames.nd rfl (Or.inl rfl)) (fun _ _ _ _ _ => pts_nil) (fun _ _ _ _ _ => pv 4))))), ?_⟩
    cases n with
    | zero => exact Bool.noConfusion ((show false = true from ho) : false = true)
    | succ m =>
      have hlen := names_len _ _ ho
      have h66 : 6 ^ (m + 1) ≤ 46656 := by
        have z : 6 ^ (m + 1) ≤ 6 ^ 6 := Nat.pow_le_pow_right (by decide) h6
        exact z
      obtain ⟨d0, d1, rfl, hh⟩ := order_cases ho
      have eN : namesN (m + 1) (.tuple [d0, d1]) = if eqStr "item" d0 = true then [strOf d1] else (tupItems d1).flatMap (namesN m) := by rw [namesN]; rfl
      rw [eN] at q hlen
      cases hd with
      | @tup a xs _ ha hx =>
        cases hx with
        | @cons x0 _ _ _ c0 t0 =>
          cases t0 with
          | @cons x1 _ _ _ c1 t1 =>
            cases t1
            refine ⟨_, rfl, a, _, rfl, SqT.of ha, rfl, _, _, rfl, _, _, rfl, rfl, _, rfl, d0, "item", c0, rfl, _, rfl, ?_⟩
            rcases hh with ⟨h0, hn1⟩ | ⟨h0, es, rfl, l2, l6, hes⟩
            · rw [h0] at q ⊢
              refine if_t rfl ⟨_, rfl, (by show 1 ≤ sizeLine; decide), fun p np => q p _ (same_new np) np ?_⟩
              rw [upd_same, dat_name c1 hn1]
              rfl
            · rw [h0] at q hlen ⊢
              have q1 : ∀ p H', Same H H' → H p = none → H' p = some (.lst ((es.flatMap (namesN m)).map V.str)) → Q (.ref p) H' := q
              have hlen1 : (es.flatMap (namesN m)).length ≤ 6 ^ (m + 1) := hlen
              cases c1 with
              | @tup a2 ys _ ha2 hx2 =>
                have hl2 := hx2.len
                refine if_f rfl ⟨_, rfl, a2, rfl, ⟨_, SqT.of ha2⟩, fun D nD => in_it (walk_tup (K := K) (a := a2) (xs := ys)) (fun i Hx => Same H Hx ∧ Hx D = some (.lst (((es.take i).flatMap (namesN m)).map V.str))) ⟨same_new nD, by rw [upd_same]; rfl⟩ (fun i Hx _ ⟨S, _⟩ => SqT.of (S _ _ ha2)) ?_ ?_⟩
                · rintro i x Hx Hy hi ⟨S, hD⟩ ⟨rfl, hxi⟩
                  obtain ⟨e, hei, te⟩ := hx2.get hxi
                  refine ⟨rfl, _, rfl, hn m rfl h6 x e Hy _ (te.same S) (hes e (List.mem_of_getElem? hei)) fun p H1 S1 np hp => ?_⟩
                  have pD : p ≠ D := fun z => by
                    rw [z, hD] at np
                    cases np
                  refine ⟨p, rfl, ⟨_, SqL.of hp⟩, in_it (walk_list (K := K) (a := p) (xs := (namesN m e).map V.str)) (fun j Hz => Same H Hz ∧ Hz p = some (.lst ((namesN m e).map V.str)) ∧ Hz D = some (.lst (((es.take i).flatMap (namesN m) ++ (namesN m e).take j).map V.str)))
                    ⟨S.trans S1, hp, by rw [List.take_zero, List.append_nil]; exact S1 _ _ hD⟩ (fun j Hz _ ⟨_, h, _⟩ => SqL.of h) ?_ ?_⟩
                  · rintro j y Hz Hz' hj ⟨S2, hp2, hD2⟩ ⟨rfl, hy⟩
                    rw [List.getElem?_map] at hy
                    obtain ⟨nm, hnm, rfl⟩ : ∃ nm, (namesN m e)[j]? = some nm ∧ y = V.str nm := by
                      cases hz : (namesN m e)[j]? with
                      | none =>
                        rw [hz] at hy
                        cases hy
                      | some nm =>
                        rw [hz] at hy
                        exact ⟨nm, rfl, (Option.some.inj hy).symm⟩
                    have hjl : j < (namesN m e).length := (List.getElem?_eq_some_iff.mp hnm).1
                    have tot := flat_take (f := namesN m) es (i + 1)
                    rw [flat_pre hei, List.length_append] at tot
                    refine ⟨rfl, _, rfl, _, hD2, ?_, grow nD S2, ?_, ?_⟩
                    · rw [List.length_map, List.length_append, List.length_take, sizeLine_eq]
                      omega
                    · rw [upd_ne pD]
                      exact hp2
                    · rw [upd_same, List.take_add_one, hnm]
                      simp
                  · rintro Hz ⟨S2, hp2, hD2⟩
                    refine ⟨S2, ?_⟩
                    rw [hD2, List.length_map, List.take_length, flat_pre hei]
                · rintro Hx ⟨S, hD⟩
                  refine q1 D Hx S nD ?_
                  rw [hD, hl2, List.take_length]
/-- names_of(d), d an order of at most n levels -/
theorem ok_names {f : Addr} {fd : FuncData} (F : Fun K "names_of" "names_of" sNames f fd) (b : L2.Binds K fd ["order"] []) (g : mg "names_of" = some (.ref f)) : ∀ n : Nat, FnOk P w K mg base CX0 (1 + n) f fd ["order"] (spNames n)
  | 0 => by
    have z := names_body (P := P) (w := w) (base := base) (k := 0) (sp := fun _ _ _ _ => False) F b g fn_none 0 fun m e => by cases e
    exact z
  | n + 1 => by
    have G := ok_names F b g n
    have z := names_body F b g G (n + 1) fun m e l6 x d H R hd ho hR => by
      obtain rfl : n = m := Nat.succ.inj e
      exact ⟨x, d, rfl, by omega, hd, ho, hR⟩
    rw [show 1 + (n + 1) = 1 + n + 1 by omega]
    exact z
end
end KF
set_option maxRecDepth 100000
set_option maxHeartbeats 8000000
namespace KF
open PySem PySem.Spec PyProof.Rows L2
/-! ### asks_arrangement -/
section
variable {X : Cx}
/-- x in [texts] -/
def rInL : R2 := fun x y H Q => ∃ (d : PyData) (p : Addr) (zs : List Str), Dat H x d ∧ y = .ref p ∧ H p = some (.lst (zs.map V.str)) ∧ Q (.bl (zs.any fun z => eqStr z d)) H
theorem op_inL (hu : X.A.units + 1 < cLine) : OpR X (compareOp .In) rInL := by
  intro pins s σ H x y v u Q I rx ry h
  obtain ⟨d, p, zs, hd, rfl, hp, q⟩ := h
  cases ry
  obtain ⟨its, r, pl, _⟩ := I.list (SqL.of hp)
  refine SeqAt.in_listAt (eStr d) pl.isList (fun w hw => ?_) ⟨.bl _, H, I, rfl, ?_⟩
  · obtain ⟨z, t, rfl⟩ := mem_strs r w (by simpa using hw)
    exact str_eqAt I hd rx hu z t
  · rw [show its.toArray.any (eStr d) = its.any (eStr d) by simp, any_strs r]
    exact q
end
abbrev s_aarr : Stmt := top 21
def arrB (o : PyData) (z : Str) (as : List PyData) : Bool := if (decide (z = "locate") && decide (as.length = 1)) = true then (namesN 6 o).any (fun y => eqStr y (as.getD 0 .none)) else takesB [("entry", ((namesN 6 o).length : Int) - 1)] z as
def okArr (o : PyData) : Hp → List V → Prop := fun H ps => ∃ x0 x1 r, ps = x0 :: x1 :: r ∧ Dat H x1 o ∧ orderB 6 o = true
section
variable {P : Program} {w : World} {K : PySem.W.Frag} {mg : Str → Option Value} {base : Heap}
theorem sc_aarr : FnScope ["part", "word", "arguments", "names"] ["part", "word", "arguments"] (defScope s_aarr) := ⟨rfl, rfl, rfl, by decide +kernel, rfl, by decide +kernel, by decide +kernel⟩
theorem ok_aarr {o : PyData} {f fT fN : Addr} {fd fdT fdN : FuncData} (F : Fun K "asks_arrangement" "asks_arrangement" s_aarr f fd) (N : Nm mg) (T : DefOk K mg "takes_index" s_takes ["tops", "word", "arguments"] fT fdT) (G : FnOk P w K mg base CX0 3 fT fdT ["tops", "word", "arguments"] spTakes)
    (D : DefOk K mg "names_of" sNames ["order"] fN fdN) (GN : FnOk P w K mg base CX0 7 fN fdN ["order"] (spNames 6)) : FnOk P w K mg base CX0 8 f fd ["part", "word", "arguments"] (spQ (okArr o) (arrB o)) := by
  refine F.ok sc_aarr (fun vs H Q E h => ?_) (fun cdv A outer s H vs Q E hr h => ?_)
  · obtain ⟨a0, a, ps, z, xs, as, rfl, _⟩ := h
    rfl
  · obtain ⟨a0, a, ps, z, xs, as, rfl, h0, ⟨x0, x1, r, rfl, hd1, ho⟩, hz, ha, hx, q⟩ := h
    have hu1 : (A.deeper (envOfC "asks_arrangement" (defScope s_aarr) s.heap.objs.size f cdv)).units + 1 < cLine := by
      have := hr.un
      omega
    have hr3 : Room 3 _ := hr.mono (by decide)
    refine ⟨_, (pss_cons (ps_set (i := 3) sc_aarr.nd rfl (Or.inl rfl) (pe_call GN hr rfl D.g D.F.kp D.b .nil pass0 (pa_cons (pe_ix ix_tup (pv 0) pe_int (fun _ _ => rfl)) pa_nil)))
      (C8.pss_cut (ps_if (PW.pt (pw_and (pt_cmpR op_eq (pv 1) pe_str (nomark _)) (pw_and1 (pt_cmpR op_eq (pe_callB call_len_seq (by rfl) N.len PySem.boot_len (pa_cons (pv 2) pa_nil)) pe_int (nomark _)))))
        (pss_one (ps_ret (pe_cmpR (op_inL hu1) (pe_ix ix_tup (pv 2) pe_int (fun _ _ => rfl)) (pv 3) rfl)))
        pss_nil)
      (pss_one (ps_ret (pe_call G hr3 rfl T.g T.F.kp T.b .nil pass0 (pa_cons (pe_disp (pps_cons pe_str (pe_op op_sub (pe_callB call_len_seq (by rfl) N.len PySem.boot_len (pa_cons (pv 3) pa_nil)) pe_int) pps_nil) (by rfl) (by rfl) (fun z => by cases z) (by decide)) (pa_cons (pv 1) (pa_cons (pv 2) pa_nil)))))))), ?_⟩
    refine ⟨_, rfl, a0, _, _, _, rfl, rfl, SqT.of h0, atI_nat (j := 1) rfl, x1, o, rfl, Nat.le_refl _, hd1, ho, fun p H1 S1 np hp => ?_⟩
    have q1 := fun H' S' => q H' (S1.trans S')
    have ha1 := S1 _ _ ha
    have hx1 := hx.same S1
    refine ⟨fun σ H' => σ = [some (.ref a0), some (.str z), some (.ref a), some (.ref p)] ∧ Same H1 H' ∧ (decide (z = "locate") && decide (as.length = 1)) = false, ?_, ?_⟩
    · have e1 : decide (V.str z = V.str "locate") = decide (z = "locate") := by
        by_cases h : z = "locate"
        · rw [decide_eq_true h, decide_eq_true (by rw [h])]
        · rw [decide_eq_false h, decide_eq_false fun y => h (by injection y)]
      have e2 : decide (V.int ((xs.length : Nat) : Int) = V.int 1) = decide (as.length = 1) := by
        rw [hx.len]
        by_cases h : as.length = 1
        · rw [decide_eq_true h, decide_eq_true (by rw [h]; rfl)]
        · rw [decide_eq_false h, decide_eq_false fun y => h (by have := V.int.inj y; omega)]
      refine ⟨_, rfl, rfl, _, rfl, ?_⟩
      rw [e1]
      cases ez : decide (z = ("locate" : Str)) with
      | false => exact if_f rfl (if_f rfl ⟨rfl, Same.refl H1, rfl⟩)
      | true =>
        refine if_t rfl ⟨_, rfl, a, xs, rfl, .inr (SqT.of ha1), rfl, _, rfl, ?_⟩
        rw [e2]
        cases el : decide (as.length = 1) with
        | false => exact if_f rfl ⟨rfl, Same.refl H1, rfl⟩
        | true =>
          refine if_t rfl ?_
          have hl2 := of_decide_eq_true el
          match as, xs, hx1, ha1, hl2, q1 with
          | [l], [xl], .cons dl .nil, ha1, _, q1 =>
            refine ⟨_, rfl, a, _, _, _, rfl, rfl, SqT.of ha1, atI_nat (j := 0) rfl, _, rfl, l, p, namesN 6 o, dl, rfl, hp, ?_⟩
            have := q1 H1 (Same.refl H1)
            unfold arrB at this
            rw [ez, if_pos (show (true && decide (([l] : List PyData).length = 1)) = true from rfl)] at this
            exact this
    · rintro σ H2 ⟨rfl, S2, hf⟩
      have q2 : ∀ H', Same H2 H' → Q (.bl (takesB [("entry", ((namesN 6 o).length : Int) - 1)] z as)) H' := fun H' S' => by
        have := q1 H' (S2.trans S')
        unfold arrB at this
        rw [hf] at this
        exact this
      refine fun p2 np2 => ⟨_, rfl, p, _, rfl, .inl (SqL.of (same_new np2 _ _ (S2 _ _ hp))), _, _, rfl, rfl, upd_same, kvT [("entry", ((namesN 6 o).length : Int) - 1)], ?_, (by show 1 ≤ 15; decide), ?_⟩
      · rw [List.length_map]
        rfl
      have g : upd (upd H2 p2 (.dK [])) p2 (.dK (mergeK [] (kvT [("entry", ((namesN 6 o).length : Int) - 1)]))) p2 = some (.dK (kvT [("entry", ((namesN 6 o).length : Int) - 1)])) := upd_same
      have S := disp_same (o := .dK (mergeK [] (kvT [("entry", ((namesN 6 o).length : Int) - 1)]))) np2
      generalize upd (upd H2 p2 (.dK [])) p2 (.dK (mergeK [] (kvT [("entry", ((namesN 6 o).length : Int) - 1)]))) = H3 at g S ⊢
      have S23 := S2.trans S
      exact ⟨_, rfl, _, rfl, p2, a, _, z, xs, as, rfl, g, S23 _ _ ha1, hx1.same S23, fun H' S' => q2 H' (S.trans S')⟩
end
end KF
set_option maxRecDepth 100000
set_option maxHeartbeats 8000000
namespace KF
open PySem PySem.Spec PyProof.Rows L2
/-! ### asks_string; questions whose tuples are short -/
def shortQ (as : List PyData) : Prop := ∀ d ∈ as, (tupItems d).length ≤ 1000
def spQs (ok : Hp → List V → Prop) (f : Str → List PyData → Bool) : Sp := fun vs H Q _ => ∃ (a0 a : Addr) (ps : List V) (z : Str) (xs : List V) (as : List PyData), vs = [.ref a0, .str z, .ref a] ∧ H a0 = some (.tup ps) ∧ ok H ps ∧ z.length ≤ 1000 ∧ H a = some (.tup xs) ∧ DatAll H xs as ∧ shortQ as ∧ ∀ H', Same H H' → Q (.bl (f z as)) H'
theorem fn_short {P : Program} {w : World} {K : PySem.W.Frag} {mg : Str → Option Value} {base : Heap} {k : Nat} {f : Addr} {fd : FuncData} {ps : List Str} {ok : Hp → List V → Prop} {g : Str → List PyData → Bool} (G : FnOk P w K mg base CX0 k f fd ps (spQ ok g)) : FnOk P w K mg base CX0 k f fd ps (spQs ok g) :=
  G.imp fun vs H Q E ⟨a0, a, ps, z, xs, as, e, h0, h1, h2, h3, h4, _, q⟩ => ⟨a0, a, ps, z, xs, as, e, h0, h1, h2, h3, h4, q⟩
abbrev s_astr : Stmt := top 27
def stringB (n : Int) (z : Str) (as : List PyData) : Bool := if (decide (z = "letter_in") && decide (as.length = 2)) = true then btw 0 (n - 1) (as.getD 0 .none) && letsB (as.getD 1 .none)
  else if (decide (z = "state_in") && decide (as.length = 2)) = true then btw 0 n (as.getD 0 .none) && statesB (as.getD 1 .none) else takesB [("letter", n - 1), ("state", n)] z as
def okStr (n : Int) : Hp → List V → Prop := fun _ ps => ∃ x0 x1 r, ps = x0 :: x1 :: .int n :: r
theorem dec_str (z y : Str) : decide (V.str z = V.str y) = decide (z = y) := by
  by_cases h : z = y
  · rw [decide_eq_true h, decide_eq_true (by rw [h])]
  · rw [decide_eq_false h, decide_eq_false fun e => h (by injection e)]
theorem dec_len {α : Type} (xs : List α) (m : Nat) : decide (V.int ((xs.length : Nat) : Int) = V.int (m : Nat)) = decide (xs.length = m) := by
  by_cases h : xs.length = m
  · rw [decide_eq_true h, decide_eq_true (by rw [h])]
  · rw [decide_eq_false h, decide_eq_false fun y => h (by have := V.int.inj y; omega)]
section
variable {P : Program} {w : World} {K : PySem.W.Frag} {mg : Str → Option Value} {base : Heap}
theorem sc_astr : FnScope ["part", "word", "arguments", "n"] ["part", "word", "arguments"] (defScope s_astr) := ⟨rfl, rfl, rfl, by decide +kernel, rfl, by decide +kernel, by decide +kernel⟩
theorem ok_astr {n : Int} {f fT fB fL fS : Addr} {fd fdT fdB fdL fdS : FuncData} (F : Fun K "asks_string" "asks_string" s_astr f fd) (N : Nm mg) (T : DefOk K mg "takes_index" s_takes ["tops", "word", "arguments"] fT fdT) (G : FnOk P w K mg base CX0 3 fT fdT ["tops", "word", "arguments"] spTakes)
    (B : DefOk K mg "is_between" sBtw ["value", "low", "high"] fB fdB) (GB : FnOk P w K mg base CX0 2 fB fdB ["value", "low", "high"] spBtw) (L : DefOk K mg "are_letters" s_lets ["value"] fL fdL) (GL : FnOk P w K mg base CX0 2 fL fdL ["value"] spLets)
    (S : DefOk K mg "are_states" sAreStates ["value"] fS fdS) (GS : FnOk P w K mg base CX0 4 fS fdS ["value"] (spP statesB)) : FnOk P w K mg base CX0 5 f fd ["part", "word", "arguments"] (spQs (okStr n) (stringB n)) := by
  refine F.ok sc_astr (fun vs H Q E h => ?_) (fun cdv A outer s H vs Q E hr h => ?_)
  · obtain ⟨a0, a, ps, z, xs, as, rfl, _⟩ := h
    rfl
  · obtain ⟨a0, a, ps, z, xs, as, rfl, h0, ⟨x0, x1, r, rfl⟩, hz, ha, hx, hsh, q⟩ := h
    have hr2 : Room 2 _ := hr.mono (by decide)
    have hr3 : Room 3 _ := hr.mono (by decide)
    refine ⟨_, (pss_cons (ps_set (i := 3) sc_astr.nd rfl (Or.inl rfl) (pe_ix ix_tup (pv 0) pe_int (fun _ _ => rfl)))
      (C8.pss_cut (ps_if (PW.pt (pw_and (pt_cmpR op_eq (pv 1) pe_str (nomark _)) (pw_and1 (pt_cmpR op_eq (pe_callB call_len_seq (by rfl) N.len PySem.boot_len (pa_cons (pv 2) pa_nil)) pe_int (nomark _)))))
        (pss_one (ps_ret (pe_and (pe_call GB hr2 rfl B.g B.F.kp B.b .nil pass0 (pa_cons (pe_ix ix_tup (pv 2) pe_int (fun _ _ => rfl)) (pa_cons pe_int (pa_cons (pe_op op_sub (pv 3) pe_int) pa_nil)))) (pe_one (pe_call GL hr2 rfl L.g L.F.kp L.b .nil pass0 (pa_cons (pe_ix ix_tup (pv 2) pe_int (fun _ _ => rfl)) pa_nil))))))
        pss_nil)
      (C8.pss_cut (ps_if (PW.pt (pw_and (pt_cmpR op_eq (pv 1) pe_str (nomark _)) (pw_and1 (pt_cmpR op_eq (pe_callB call_len_seq (by rfl) N.len PySem.boot_len (pa_cons (pv 2) pa_nil)) pe_int (nomark _)))))
        (pss_one (ps_ret (pe_and (pe_call GB hr2 rfl B.g B.F.kp B.b .nil pass0 (pa_cons (pe_ix ix_tup (pv 2) pe_int (fun _ _ => rfl)) (pa_cons pe_int (pa_cons (pv 3) pa_nil)))) (pe_one (pe_call GS hr rfl S.g S.F.kp S.b .nil pass0 (pa_cons (pe_ix ix_tup (pv 2) pe_int (fun _ _ => rfl)) pa_nil))))))
        pss_nil)
      (pss_one (ps_ret (pe_call G hr3 rfl T.g T.F.kp T.b .nil pass0 (pa_cons (pe_disp (pps_cons pe_str (pe_op op_sub (pv 3) pe_int) (pps_cons pe_str (pv 3) pps_nil)) (by rfl) (by rfl) (fun z => by cases z) (by decide)) (pa_cons (pv 1) (pa_cons (pv 2) pa_nil))))))))), ?_⟩
    refine ⟨_, rfl, a0, _, _, _, rfl, rfl, SqT.of h0, atI_nat (j := 2) rfl, ?_⟩
    refine ⟨fun σ H' => σ = [some (.ref a0), some (.str z), some (.ref a), some (.int n)] ∧ H' = H ∧ (decide (z = "letter_in") && decide (as.length = 2)) = false, ?_, ?_⟩
    · refine ⟨_, rfl, rfl, _, rfl, ?_⟩
      rw [dec_str]
      cases ez : decide (z = ("letter_in" : Str)) with
      | false => exact if_f rfl (if_f rfl ⟨rfl, rfl, rfl⟩)
      | true =>
        refine if_t rfl ⟨_, rfl, a, xs, rfl, .inr (SqT.of ha), rfl, _, rfl, ?_⟩
        show (if decide (V.int ((xs.length : Nat) : Int) = V.int ((2 : Nat) : Int)) = true then _ else _)
        rw [dec_len, hx.len]
        cases el : decide (as.length = 2) with
        | false => exact if_f rfl ⟨rfl, rfl, rfl⟩
        | true =>
          refine if_t rfl ?_
          have hl2 := of_decide_eq_true el
          match as, xs, hx, ha, hl2, q, hsh with
          | [l, o], [xl, xo], .cons dl (.cons dO .nil), ha, _, q, hsh =>
            have z1 : ∀ H', Same H H' → Q (.bl (btw 0 (n - 1) l && letsB o)) H' := fun H' S' => by
              have := q H' S'
              unfold stringB at this
              rw [ez, if_pos (show (true && decide (([l, o] : List PyData).length = 2)) = true from rfl)] at this
              exact this
            refine ⟨_, rfl, a, _, _, _, rfl, rfl, SqT.of ha, atI_nat (j := 0) rfl, _, rfl, _, _, rfl, rfl, xl, l, 0, n - 1, rfl, dl, fun H3 S3 => ⟨_, rfl, ?_⟩⟩
            cases eb : btw 0 (n - 1) l with
            | false =>
              rw [eb] at z1
              exact if_f rfl (z1 H3 S3)
            | true =>
              rw [eb] at z1
              exact if_t rfl ⟨_, rfl, a, _, _, _, rfl, rfl, SqT.of (S3 _ _ ha), atI_nat (j := 1) rfl, xo, o, rfl, dO.same S3, hsh o (by simp), fun H4 S4 => z1 H4 (S3.trans S4)⟩
    · rintro σ H2 ⟨rfl, rfl, hf⟩
      refine ⟨fun σ H' => σ = [some (.ref a0), some (.str z), some (.ref a), some (.int n)] ∧ H' = H2 ∧ (decide (z = "state_in") && decide (as.length = 2)) = false, ?_, ?_⟩
      · refine ⟨_, rfl, rfl, _, rfl, ?_⟩
        rw [dec_str]
        cases ez : decide (z = ("state_in" : Str)) with
        | false => exact if_f rfl (if_f rfl ⟨rfl, rfl, rfl⟩)
        | true =>
          refine if_t rfl ⟨_, rfl, a, xs, rfl, .inr (SqT.of ha), rfl, _, rfl, ?_⟩
          show (if decide (V.int ((xs.length : Nat) : Int) = V.int ((2 : Nat) : Int)) = true then _ else _)
          rw [dec_len, hx.len]
          cases el : decide (as.length = 2) with
          | false => exact if_f rfl ⟨rfl, rfl, rfl⟩
          | true =>
            refine if_t rfl ?_
            have hl2 := of_decide_eq_true el
            match as, xs, hx, ha, hl2, q, hsh, hf with
            | [l, o], [xl, xo], .cons dl (.cons dO .nil), ha, _, q, hsh, hf =>
              have z1 : ∀ H', Same H2 H' → Q (.bl (btw 0 n l && statesB o)) H' := fun H' S' => by
                have := q H' S'
                unfold stringB at this
                rw [hf, ez, if_neg Bool.false_ne_true, if_pos (show (true && decide (([l, o] : List PyData).length = 2)) = true from rfl)] at this
                exact this
              refine ⟨_, rfl, a, _, _, _, rfl, rfl, SqT.of ha, atI_nat (j := 0) rfl, _, rfl, xl, l, 0, n, rfl, dl, fun H3 S3 => ⟨_, rfl, ?_⟩⟩
              cases eb : btw 0 n l with
              | false =>
                rw [eb] at z1
                exact if_f rfl (z1 H3 S3)
              | true =>
                rw [eb] at z1
                exact if_t rfl ⟨_, rfl, a, _, _, _, rfl, rfl, SqT.of (S3 _ _ ha), atI_nat (j := 1) rfl, xo, o, rfl, dO.same S3, fun H4 S4 => z1 H4 (S3.trans S4)⟩
      · rintro σ H3 ⟨rfl, rfl, hf2⟩
        have q2 : ∀ H', Same H3 H' → Q (.bl (takesB [("letter", n - 1), ("state", n)] z as)) H' := fun H' S' => by
          have := q H' S'
          unfold stringB at this
          rw [hf, hf2, if_neg Bool.false_ne_true, if_neg Bool.false_ne_true] at this
          exact this
        refine fun p2 np2 => ⟨_, rfl, _, _, rfl, rfl, _, rfl, upd_same, kvT [("letter", n - 1), ("state", n)], rfl, (by show 2 ≤ 15; decide), ?_⟩
        have g : upd (upd H3 p2 (.dK [])) p2 (.dK (mergeK [] (kvT [("letter", n - 1), ("state", n)]))) p2 = some (.dK (kvT [("letter", n - 1), ("state", n)])) := upd_same
        have S := disp_same (o := .dK (mergeK [] (kvT [("letter", n - 1), ("state", n)]))) np2
        generalize upd (upd H3 p2 (.dK [])) p2 (.dK (mergeK [] (kvT [("letter", n - 1), ("state", n)]))) = H4 at g S ⊢
        exact ⟨_, rfl, _, rfl, p2, a, _, z, xs, as, rfl, g, S _ _ ha, hx.same S, fun H' S' => q2 H' (S.trans S')⟩
end
end KF
set_option maxRecDepth 100000
set_option maxHeartbeats 8000000
namespace L2
open PySem PySem.Spec PyProof.Rows
section
variable {X : Cx} {d : Addr} {es : Array DictEntry} {n : Nat}
/-- d[key], d a written dict of the module -/
def rIxKd (K : PySem.W.Frag) (d : Addr) : R2 := fun x y H Q => ∃ (z : Str) (u0 : Value) (v0 : V), x = .ref d ∧ y = .str z ∧ PySem.W.nsIn K d z = some (some u0) ∧ RelV v0 u0 ∧ Q v0 H
theorem ix_kd (D : KDict X.K X.w d es n) : IxR X (rIxKd X.K d) := by
  intro value slice pins s σ H x y v u Q I rx ry h hs
  have h2 := op_item_kd D pins s σ H x y v u Q I rx ry h
  obtain ⟨z, u0, v0, rfl, _⟩ := h
  cases rx
  exact tail_any (kd_type D I) PySem.F.slot_dict_getitem.lookup h2 hs
def rNotInKd (K : PySem.W.Frag) (d : Addr) : R2 := fun x y H Q => ∃ (z : Str) (r : Option Value), x = .str z ∧ y = .ref d ∧ PySem.W.nsIn K d z = some r ∧ Q (.bl (!r.isSome)) H
theorem op_notInKd (D : KDict X.K X.w d es n) : OpR X (compareOp .NotIn) (rNotInKd X.K d) := op_notIn_kd D
end
end L2
namespace KF
open PySem PySem.Spec PyProof.Rows L2
/-! ### is_question of a part whose check is known -/
abbrev s_quest : Stmt := top 17
structure ChkG (P : Program) (w : World) (K : PySem.W.Frag) (mg : Str → Option Value) (base : Heap) (dC : Addr) (S : Addr → Option Sp) : Prop where
  g : mg "CHECKS" = some (.ref dC)
  k : ∃ es n, KDict K w dC es n
  held : ∀ f sp, S f = some sp → Held P w K mg base 8 f sp
def askQ (g : Str → List PyData → Bool) : List PyData → Bool
  | .str z :: as => g z as
  | _ => false
def spQuest (K : PySem.W.Frag) (dC : Addr) (S : Addr → Option Sp) : Sp := fun vs H Q _ => ∃ (a0 b fa : Addr) (zk : Str) (ps xs : List V) (q : List PyData) (sq : Sp) (g : Str → List PyData → Bool), vs = [.ref a0, .ref b] ∧ H a0 = some (.tup (.str zk :: ps)) ∧ PySem.W.nsIn K dC zk = some (some (.ref fa)) ∧ S fa = some sq ∧
  (∀ (z : Str) (b2 : Addr) (xs' : List V) (as : List PyData) (H2 : Hp), Same H H2 → z.length ≤ 1000 → H2 b2 = some (.tup xs') → DatAll H2 xs' as → shortQ as → (∀ H', Same H2 H' → Q (.bl (g z as)) H') → sq [.ref a0, .str z, .ref b2] H2 Q E0) ∧
  H b = some (.tup xs) ∧ DatAll H xs q ∧ shortQ q ∧ ∀ H', Same H H' → Q (.bl (askQ g q)) H'
section
variable {P : Program} {w : World} {K : PySem.W.Frag} {mg : Str → Option Value} {base : Heap}
theorem sc_quest : FnScope ["part", "question", "kind", "check"] ["part", "question"] (defScope s_quest) := ⟨rfl, rfl, rfl, by decide +kernel, rfl, by decide +kernel, by decide +kernel⟩
theorem ok_quest {f : Addr} {fd : FuncData} {dC : Addr} {S : Addr → Option Sp} (F : Fun K "is_question" "is_question" s_quest f fd) (T : Nm mg) (Z : ChkG P w K mg base dC S) : FnOk P w K mg base CX0 9 f fd ["part", "question"] (spQuest K dC S) := by
  obtain ⟨esC, nC, DC⟩ := Z.k
  refine F.ok sc_quest (fun vs H Q E h => ?_) (fun cdv A outer s H vs Q E hr h => ?_)
  · obtain ⟨a0, b, fa, zk, ps, xs, q, sq, g, rfl, _⟩ := h
    rfl
  · obtain ⟨a0, b, fa, zk, ps, xs, qs, sq, g, rfl, h0, hns, hS, hsp, hb, hx, hsh, q⟩ := h
    refine ⟨_, (pss_cons (ps_set (i := 2) sc_quest.nd rfl (Or.inl rfl) (pe_ix ix_tup (pv 0) pe_int (fun _ _ => rfl)))
      (pss_cons (ps_if (PW.pt (pw_or (pt_cmpR op_eq (pe_callB call_len_seq (by rfl) T.len PySem.boot_len (pa_cons (pv 1) pa_nil)) pe_int (nomark _)) (pw_or (pt_not (pt_val (pe_callB call_isi (by rfl) T.isinstance boot_isinstance (pa_cons (pe_ix ix_tup (pv 1) pe_int (fun _ _ => rfl)) (pa_cons (pe_bltn (v := .ty "str") rfl T.str (by decide +kernel) rfl) pa_nil))))) (pw_or1 (pt_cmpR (op_notInKd (X := _) DC) (pv 2) (pe_glob (v := .ref dC) rfl Z.g rfl) rfl)))))
        (pss_one (ps_ret pe_bl))
        pss_nil)
      (pss_cons (ps_set (i := 3) sc_quest.nd rfl (Or.inl rfl) (pe_ix (ix_kd (X := _) DC) (pe_glob (v := .ref dC) rfl Z.g rfl) (pv 2) (fun _ _ => rfl)))
      (pss_one (ps_ret (pe_callA (i := 3) (S := S) Z.held hr rfl (Or.inl rfl) (pa_cons (pv 0) (pa_cons (pe_ix ix_tup (pv 1) pe_int (fun _ _ => rfl)) (pa_cons (pe_slice sl_tupA (pv 1) (po_some pe_int) po_none) pa_nil))))))))), ?_⟩
    have q0 := q H (Same.refl H)
    refine ⟨_, rfl, a0, _, _, _, rfl, rfl, SqT.of h0, atI_nat (j := 0) rfl, ?_⟩
    refine ⟨_, rfl, b, xs, rfl, .inr (SqT.of hb), rfl, _, rfl, ?_⟩
    cases hx with
    | nil => exact if_t rfl (if_t rfl q0)
    | @cons x0 xs' d0 qs' c0 cs =>
      refine if_f (decide_eq_false fun y => ?_) ?_
      · have := V.int.inj y
        rw [List.length_cons] at this
        omega
      refine ⟨_, rfl, b, _, _, x0, rfl, rfl, SqT.of hb, atI_nat (j := 0) rfl, x0, .ty "str", _, _, _, rfl, .ty _, c0.ty, kit_str _ d0, _, rfl, ?_⟩
      by_cases hs : isStr d0 = true
      case neg =>
        rw [Bool.not_eq_true] at hs
        rw [hs]
        refine if_t rfl (if_t rfl ?_)
        have : askQ g (d0 :: qs') = false := by
          cases d0 with
          | str z => cases hs
          | _ => rfl
        rw [this] at q0
        exact q0
      obtain ⟨z, rfl⟩ : ∃ z, d0 = .str z := by
        cases d0 with
        | str z => exact ⟨z, rfl⟩
        | _ => cases hs
      refine if_f rfl ?_
      cases c0 with
      | str _ hz =>
        have cut1 : cutV (V.str z :: xs') (some 1) none = xs' := by
          unfold cutV
          have e1 : HT.sIx (V.str z :: xs').length 0 (some ((1 : Nat) : Int)) = min 1 (V.str z :: xs').length := HT.sIx_nat _ _ 1
          have e0 : HT.sIx (V.str z :: xs').length (V.str z :: xs').length none = (V.str z :: xs').length := rfl
          rw [e0]
          have e2 : HT.sIx (V.str z :: xs').length 0 (some 1) = 1 := by
            rw [show (some 1 : Option Int) = some ((1 : Nat) : Int) from rfl, e1, List.length_cons]
            omega
          rw [e2]
          simp
        refine ⟨_, rfl, zk, _, rfl, rfl, hns, _, rfl, if_f rfl ⟨_, rfl, zk, .ref fa, .ref fa, rfl, rfl, hns, rfl, fa, sq, rfl, hS, _, rfl, _, rfl, b, _, _, .str z, rfl, rfl, SqT.of hb, atI_nat (j := 0) rfl, _, rfl, 1, rfl, ?_⟩⟩
        dsimp only [tNoPart]
        refine slAny_of hb fun b2 H2 S2 hb2 => ?_
        rw [cut1] at hb2
        exact hsp z b2 xs' qs' H2 S2 hz hb2 (cs.same S2) (fun d hd => hsh d (List.mem_cons_of_mem _ hd)) fun H' S' => q H' (S2.trans S')
end
end KF
set_option maxRecDepth 100000
set_option maxHeartbeats 8000000
namespace KF
open PySem PySem.Spec PyProof.Rows L2
/-! ### part_at and is_query over any parts -/
abbrev s_next : Stmt := top 10
abbrev s_part : Stmt := top 9
abbrev s_query : Stmt := top 32
structure Sys where
  ι : Type
  pd : ι → PyData
  nx : ι → PyData → Option ι
  ok : ι → Prop
  ask : ι → List PyData → Bool
  isref : ∀ {H : Hp} {v : V} {i : ι}, Dat H v (pd i) → ∃ a : Addr, v = .ref a
  keep : ∀ {i j : ι} {d : PyData}, ok i → nx i d = some j → ok j
def partI (Y : Sys) : Y.ι → List PyData → Option Y.ι
  | s, [] => some s
  | s, d :: ds => match Y.nx s d with
    | none => none
    | some e => partI Y e ds
def queryI (Y : Sys) (s : Y.ι) : PyData → Bool
  | .tuple (.tuple ds :: q) => match partI Y s ds with
    | some e => Y.ask e q
    | none => false
  | _ => false
theorem path_okI {Y : Sys} : ∀ {ds : List PyData} {s e : Y.ι}, Y.ok s → partI Y s ds = some e → Y.ok e
  | [], s, e, hs, h => by
    cases h
    exact hs
  | d :: ds, s, e, hs, h => by
    have h' : (match Y.nx s d with | none => none | some e' => partI Y e' ds) = some e := h
    cases hn : Y.nx s d with
    | none =>
      rw [hn] at h'
      cases h'
    | some e' =>
      rw [hn] at h'
      exact path_okI (Y.keep hs hn) h'
def spNext (Y : Sys) : Sp := fun vs H Q _ => ∃ (v x : V) (s : Y.ι) (d : PyData), vs = [v, x] ∧ Dat H v (Y.pd s) ∧ Dat H x d ∧ Y.ok s ∧
  (∀ H', Same H H' → Y.nx s d = none → Q .non H') ∧ ∀ (u : V) (e : Y.ι) (H' : Hp), Same H H' → Y.nx s d = some e → Dat H' u (Y.pd e) → Q u H'
def spPart (Y : Sys) : Sp := fun vs H Q _ => ∃ (v x : V) (s : Y.ι) (d : PyData), vs = [v, x] ∧ Dat H v (Y.pd s) ∧ Dat H x d ∧ Y.ok s ∧
  (∀ H', Same H H' → (∀ ds, d = .tuple ds → partI Y s ds = none) → Q .non H') ∧ ∀ (u : V) (e : Y.ι) (ds : List PyData) (H' : Hp), Same H H' → d = .tuple ds → partI Y s ds = some e → Dat H' u (Y.pd e) → Q u H'
def spQuestI (Y : Sys) : Sp := fun vs H Q _ => ∃ (v : V) (b : Addr) (s : Y.ι) (xs : List V) (q : List PyData), vs = [v, .ref b] ∧ Dat H v (Y.pd s) ∧ Y.ok s ∧ H b = some (.tup xs) ∧ DatAll H xs q ∧ shortQ q ∧ ∀ H', Same H H' → Q (.bl (Y.ask s q)) H'
def spQuery (Y : Sys) : Sp := fun vs H Q _ => ∃ (v x : V) (s : Y.ι) (d : PyData), vs = [v, x] ∧ Dat H v (Y.pd s) ∧ Y.ok s ∧ Dat H x d ∧ shortQ (tupItems d) ∧ ∀ H', Same H H' → Q (.bl (queryI Y s d)) H'
section
variable {P : Program} {w : World} {K : PySem.W.Frag} {mg : Str → Option Value} {base : Heap}
theorem sc_part : FnScope ["space", "path", "part", "step"] ["space", "path"] (defScope s_part) := ⟨rfl, rfl, rfl, by decide +kernel, rfl, by decide +kernel, by decide +kernel⟩
theorem sc_query : FnScope ["space", "value", "part"] ["space", "value"] (defScope s_query) := ⟨rfl, rfl, rfl, by decide +kernel, rfl, by decide +kernel, by decide +kernel⟩
theorem ok_part {Y : Sys} {f fN : Addr} {fd fdN : FuncData} (F : Fun K "part_at" "part_at" s_part f fd) (T : Nm mg) (D : DefOk K mg "next_part" s_next ["part", "step"] fN fdN) (G : FnOk P w K mg base CX0 3 fN fdN ["part", "step"] (spNext Y)) : FnOk P w K mg base CX0 4 f fd ["space", "path"] (spPart Y) := by
  refine F.ok sc_part (fun vs H Q E h => ?_) (fun cdv A outer s H vs Q E hr h => ?_)
  · obtain ⟨v, x, s, d, rfl, _⟩ := h
    rfl
  · obtain ⟨v, x, sp, d, rfl, hv, hx, hok, q0, q1⟩ := h
    refine ⟨_, (pss_cons (ps_if (pt_not (pt_val (pe_callB call_isi (by rfl) T.isinstance boot_isinstance (pa_cons (pv 1) (pa_cons (pe_bltn (v := .ty "tuple") rfl T.tuple (by decide +kernel) rfl) pa_nil)))))
        (pss_one (ps_ret pe_non))
        pss_nil)
      (pss_cons (ps_set (i := 2) sc_part.nd rfl (Or.inl rfl) (pv 0))
      (pss_cons (ps_for PassesOwn.never rfl (pi_tup (pv 1)) (pg_name (i := 3) sc_part.nd rfl (Or.inl rfl))
        (pss_cons (ps_set (i := 2) sc_part.nd rfl (Or.inl rfl) (pe_call G hr rfl D.g D.F.kp D.b .nil pass0 (pa_cons (pv 2) (pa_cons (pv 3) pa_nil))))
        (pss_one (ps_if (pt_cmpR op_isN (pv 2) pe_non (nomark _))
          (pss_one (ps_ret pe_non))
          pss_nil))))
      (pss_one (ps_ret (pv 2)))))), ?_⟩
    refine ⟨_, rfl, x, .ty "tuple", _, _, _, rfl, .ty _, hx.ty, kit_tuple _ d, _, rfl, ?_⟩
    cases ht : isTup d with
    | false =>
      refine if_t rfl (q0 H (Same.refl H) fun ds e => ?_)
      rw [e] at ht
      cases ht
    | true =>
      obtain ⟨ds, rfl⟩ : ∃ ds, d = .tuple ds := by
        cases d with
        | tuple ds => exact ⟨ds, rfl⟩
        | _ => cases ht
      refine if_f rfl ?_
      cases hx with
      | @tup ax xs _ hax hxs =>
        refine ⟨_, rfl, _, rfl, ax, rfl, ⟨_, SqT.of hax⟩, for_tup (K := K) (a := ax) (xs := xs) (fun j σ H' => ∃ (u : V) (e : Y.ι) (w3 : Option V), σ = [some v, some (.ref ax), some u, w3] ∧ Same H H' ∧ Dat H' u (Y.pd e) ∧ Y.ok e ∧ partI Y sp ds = partI Y e (ds.drop j))
          ⟨v, sp, none, rfl, Same.refl H, hv, hok, rfl⟩ (fun j σ H' _ ⟨_, _, _, _, S, _⟩ => SqT.of (S _ _ hax)) ?_ ?_⟩
        · rintro j y σ H1 hj ⟨u, e, w3, rfl, S1, du, oe, hp⟩
          obtain ⟨c, hc, tc⟩ := hxs.get hj
          have hdrop : ds.drop j = c :: ds.drop (j + 1) := by
            obtain ⟨hlt, e⟩ := List.getElem?_eq_some_iff.mp hc
            rw [← e]
            exact List.drop_eq_getElem_cons hlt
          have step : partI Y sp ds = match Y.nx e c with
              | none => none
              | some e' => partI Y e' (ds.drop (j + 1)) := by
            rw [hp, hdrop]
            rfl
          refine ⟨_, rfl, _, rfl, u, y, e, c, rfl, du, tc.same S1, oe, fun H2 S2 hn => ?_, fun u2 e2 H2 S2 hn d2 => ?_⟩
          · refine ⟨_, rfl, rfl, _, rfl, if_t rfl ?_⟩
            rw [hn] at step
            refine q0 H2 (S1.trans S2) fun ds' e' => ?_
            injection e' with e'
            rw [← e']
            exact step
          · obtain ⟨a2, rfl⟩ := Y.isref d2
            refine ⟨_, rfl, rfl, _, rfl, if_f rfl ?_⟩
            rw [hn] at step
            exact ⟨_, e2, _, rfl, S1.trans S2, d2, Y.keep oe hn, step⟩
        · rintro σ H1 ⟨u, e, w3, rfl, S1, du, oe, hp⟩
          have hd : ds.drop xs.length = [] := by rw [hxs.len, List.drop_length]
          rw [hd] at hp
          exact ⟨_, rfl, q1 u e ds H1 S1 rfl hp du⟩
theorem ok_query {Y : Sys} {f fP fQ : Addr} {fd fdP fdQ : FuncData} (F : Fun K "is_query" "is_query" s_query f fd) (T : Nm mg) (DP : DefOk K mg "part_at" s_part ["space", "path"] fP fdP) (GP : FnOk P w K mg base CX0 4 fP fdP ["space", "path"] (spPart Y))
    (DQ : DefOk K mg "is_question" s_quest ["part", "question"] fQ fdQ) (GQ : FnOk P w K mg base CX0 9 fQ fdQ ["part", "question"] (spQuestI Y)) : FnOk P w K mg base CX0 10 f fd ["space", "value"] (spQuery Y) := by
  refine F.ok sc_query (fun vs H Q E h => ?_) (fun cdv A outer s H vs Q E hr h => ?_)
  · obtain ⟨v, x, s, d, rfl, _⟩ := h
    rfl
  · obtain ⟨v, x, sp, d, rfl, hv, hok, hx, hsh, q⟩ := h
    have hr4 : Room 4 _ := hr.mono (by decide)
    refine ⟨_, (pss_cons (ps_if (PW.pt (pw_or (pt_not (pt_val (pe_callB call_isi (by rfl) T.isinstance boot_isinstance (pa_cons (pv 1) (pa_cons (pe_bltn (v := .ty "tuple") rfl T.tuple (by decide +kernel) rfl) pa_nil))))) (pw_or1 (pt_cmpR op_eq (pe_callB call_len_seq (by rfl) T.len PySem.boot_len (pa_cons (pv 1) pa_nil)) pe_int (nomark _)))))
        (pss_one (ps_ret pe_bl))
        pss_nil)
      (pss_cons (ps_set (i := 2) sc_query.nd rfl (Or.inl rfl) (pe_call GP hr4 rfl DP.g DP.F.kp DP.b .nil pass0 (pa_cons (pv 0) (pa_cons (pe_ix ix_tup (pv 1) pe_int (fun _ _ => rfl)) pa_nil))))
      (pss_one (ps_ret (pe_and (pe_cmpR op_notN (pv 2) pe_non (nomark _)) (pe_one (pe_call GQ hr rfl DQ.g DQ.F.kp DQ.b .nil pass0 (pa_cons (pv 2) (pa_cons (pe_slice sl_tupA (pv 1) (po_some pe_int) po_none) pa_nil))))))))), ?_⟩
    have q0 := q H (Same.refl H)
    refine ⟨_, rfl, x, .ty "tuple", _, _, _, rfl, .ty _, hx.ty, kit_tuple _ d, _, rfl, ?_⟩
    by_cases ht : isTup d = true
    case neg =>
      rw [Bool.not_eq_true] at ht
      have e : queryI Y sp d = false := by
        cases d with
        | tuple ds => cases ht
        | _ => rfl
      rw [ht]
      rw [e] at q0
      exact if_t rfl (if_t rfl q0)
    obtain ⟨ds, rfl⟩ : ∃ ds, d = .tuple ds := by
      cases d with
      | tuple ds => exact ⟨ds, rfl⟩
      | _ => cases ht
    refine if_f rfl ?_
    cases hx with
    | @tup ax xs _ hax hxs =>
      refine ⟨_, rfl, ax, xs, rfl, .inr (SqT.of hax), rfl, _, rfl, ?_⟩
      cases hxs with
      | nil => exact if_t rfl q0
      | @cons x0 xs' d0 qs c0 cs =>
        refine if_f (decide_eq_false fun y => ?_) ?_
        · have := V.int.inj y
          rw [List.length_cons] at this
          omega
        have cut1 : cutV (x0 :: xs') (some 1) none = xs' := by
          unfold cutV
          have e1 : HT.sIx (x0 :: xs').length 0 (some ((1 : Nat) : Int)) = min 1 (x0 :: xs').length := HT.sIx_nat _ _ 1
          have e0 : HT.sIx (x0 :: xs').length (x0 :: xs').length none = (x0 :: xs').length := rfl
          rw [e0]
          have e2 : HT.sIx (x0 :: xs').length 0 (some 1) = 1 := by
            rw [show (some 1 : Option Int) = some ((1 : Nat) : Int) from rfl, e1, List.length_cons]
            omega
          rw [e2]
          simp
        refine ⟨_, rfl, _, rfl, ax, _, _, x0, rfl, rfl, SqT.of hax, atI_nat (j := 0) rfl, v, x0, sp, d0, rfl, hv, c0, hok, fun H1 S1 hn => ?_, fun u e ds H1 S1 hd0 hp du => ?_⟩
        · have z1 := q H1 S1
          have e : queryI Y sp (.tuple (d0 :: qs)) = false := by
            cases d0 with
            | tuple ds =>
              show (match partI Y sp ds with | some e => Y.ask e qs | none => false) = false
              rw [hn ds rfl]
            | _ => rfl
          rw [e] at z1
          exact ⟨_, rfl, rfl, _, rfl, if_f rfl z1⟩
        · subst hd0
          obtain ⟨a2, rfl⟩ := Y.isref du
          refine ⟨_, rfl, rfl, _, rfl, if_t rfl ⟨_, rfl, _, rfl, 1, rfl, ?_⟩⟩
          dsimp only [tNoPart]
          refine slAny_of (S1 _ _ hax) fun b2 H2 S2 hb2 => ?_
          rw [cut1] at hb2
          refine ⟨_, b2, e, xs', qs, rfl, du.same S2, ?_, hb2, (cs.same S1).same S2, (fun d hd => hsh d (List.mem_cons_of_mem _ hd)), fun H' S' => ?_⟩
          · exact path_okI hok hp
          · have z1 := q H' ((S1.trans S2).trans S')
            have e2 : queryI Y sp (.tuple (.tuple ds :: qs)) = Y.ask e qs := by
              show (match partI Y sp ds with | some e => Y.ask e qs | none => false) = Y.ask e qs
              rw [hp]
            rw [e2] at z1
            exact z1
end
end KF
set_option maxRecDepth 100000
set_option maxHeartbeats 8000000
namespace KF
open PySem PySem.Spec PyProof.Rows L2
/-! ### the law's sizes -/
abbrev s_size : Stmt := top 39
def spSize : Sp := fun vs H Q _ => ∃ (p q : Addr) (b most : Nat), vs = [.ref p, .int (most : Nat)] ∧ Dk H p q b ∧ b + 10 ≤ 100000000 ∧ 2 ≤ most ∧ most ≤ 1000 ∧
  ∀ (m : Nat) (H' : Hp), 1 ≤ m → m ≤ most → Off p q H H' → Dk H' p q (b + 2) → Q (.int (m : Nat)) H'
section
variable {P : Program} {w : World} {K : PySem.W.Frag} {mg : Str → Option Value} {base : Heap}
theorem sc_size : FnScope ["_law_deck_here", "_law_most"] ["_law_deck_here", "_law_most"] (defScope s_size) := ⟨rfl, rfl, rfl, by decide +kernel, rfl, by decide +kernel, by decide +kernel⟩
theorem ok_size {f fP fD : Addr} {fd fdP fdD : FuncData} (F : Fun K "_law_size" "_law_size" s_size f fd) (D_pick : DefOk K mg "_law_pick" sPick ["_law_deck_here", "_law_items"] fP fdP) (G_pick : FnOk P w K mg base CX0 2 fP fdP ["_law_deck_here", "_law_items"] spPick) (D_draw : DefOk K mg "_law_draw" sDraw ["_law_deck_here", "_law_bound"] fD fdD) :
    FnOk P w K mg base CX0 3 f fd ["_law_deck_here", "_law_most"] spSize := by
  have G_draw : FnOk P w K mg base CX0 1 fD fdD ["_law_deck_here", "_law_bound"] spDraw := ok_draw D_draw.F
  refine F.ok sc_size (fun vs H Q E h => ?_) (fun cdv A outer s H vs Q E hr h => ?_)
  · obtain ⟨p, q, b, most, rfl, _⟩ := h
    rfl
  · obtain ⟨p, q, b, most, rfl, D, hb, h2, hm, k⟩ := h
    have hr1 : Room 1 _ := hr.mono (by decide)
    refine ⟨_, (pss_one (ps_ret (pe_call G_pick hr rfl D_pick.g D_pick.F.kp D_pick.b .nil pass0 (pa_cons (pv 0) (pa_cons (pe_lst (pa_cons (pv 1) (pa_cons (pv 1) (pa_cons (pe_op op_sub (pv 1) pe_int) (pa_cons pe_int (pa_cons (pe_op op_add pe_int (pe_call G_draw hr1 rfl D_draw.g D_draw.F.kp D_draw.b .nil pass0 (pa_cons (pv 0) (pa_cons (pv 1) pa_nil)))) pa_nil)))))) pa_nil))))), ?_⟩
    obtain ⟨ns, m0, c0, D0, hc0⟩ := id D
    refine ⟨_, rfl, _, rfl, _, rfl, _, rfl, _, _, rfl, rfl, _, rfl, _, rfl, p, q, ns, m0, c0, (most : Nat), rfl, by omega, by omega, D0, by omega, fun so ns1 H1 so0 so1 O1 D1' => ?_⟩
    obtain ⟨j, rfl⟩ := nat_of so0
    have D1 : Dk H1 p q (b + 1) := ⟨_, m0, _, D1', by omega⟩
    refine ⟨_, _, rfl, rfl, (by show 5 ≤ sizeLine; decide), fun L nL => ?_⟩
    have S2 := same_new (o := HO.lst [.int (most : Nat), .int (most : Nat), .int ((most : Nat) - 1), .int 1, .int (1 + (j : Nat))]) nL
    have Ln := D1.new nL
    refine pick_of (E := E0) (D1.same S2) upd_same Ln.1 Ln.2 (by show 0 < 5; decide) (by show 5 ≤ 1000; decide) (by omega) fun i x H3 hx O3 D3 => ?_
    have O := (O1.trans (.of_same S2)).trans O3
    have D3 : Dk H3 p q (b + 2) := D3
    have done : ∀ (m : Nat), x = .int (m : Nat) → 1 ≤ m → m ≤ most → Q x H3 := fun m e h1 h2' => by
      rw [e]
      exact k m H3 h1 h2' O D3
    match i, hx with
    | 0, hx => exact done most (Option.some.inj hx).symm (by omega) (Nat.le_refl _)
    | 1, hx => exact done most (Option.some.inj hx).symm (by omega) (Nat.le_refl _)
    | 2, hx => exact done (most - 1) ((Option.some.inj hx).symm.trans (by show V.int ((most : Int) - 1) = _; rw [show ((most : Int) - 1) = ((most - 1 : Nat) : Int) by omega])) (by omega) (by omega)
    | 3, hx => exact done 1 (Option.some.inj hx).symm (Nat.le_refl _) (by omega)
    | 4, hx => exact done (1 + j) ((Option.some.inj hx).symm.trans (by show V.int ((1 : Int) + (j : Nat)) = _; rw [show ((1 : Int) + (j : Nat)) = ((1 + j : Nat) : Int) by omega])) (by omega) (by omega)
    | n + 5, hx => cases hx
end
end KF
set_option maxRecDepth 100000
set_option maxHeartbeats 8000000
namespace KF
open PySem PySem.Spec PyProof.Rows L2
/-- without r -/
def noR (r : Addr) (H : Hp) : Hp := fun b => if b = r then none else H b
theorem noR_sub {r : Addr} {H : Hp} : Same (noR r H) H := fun b o e => by
  unfold noR at e
  split at e
  · cases e
  · exact e
theorem noR_upd {r : Addr} {H : Hp} {o : HO} : noR r (upd H r o) = noR r H := by
  funext b
  unfold noR
  by_cases e : b = r
  · rw [if_pos e, if_pos e]
  · rw [if_neg e, if_neg e, upd_ne e]
theorem noR_at {r b : Addr} {H : Hp} {o : HO} (h : H b = some o) (n : b ≠ r) : noR r H b = some o := by
  unfold noR
  rw [if_neg n]
  exact h
theorem noR_off {p q r : Addr} {H H' : Hp} (O : Off p q H H') : Same (hide p q (noR r H)) (hide p q (noR r H')) := fun b o e => by
  unfold hide noR at e ⊢
  split at e
  · cases e
  · rename_i h
    rw [if_neg h]
    split at e
    · cases e
    · rename_i h2
      rw [if_neg h2]
      exact O _ _ e (fun z => h (.inl z)) (fun z => h (.inr z))
theorem noR_hide {p q r : Addr} {H : Hp} : Same (hide p q (noR r H)) (hide p q H) := hide_same noR_sub
mutual
def noL : PyData → Bool
  | .list _ => false
  | .dict _ => false
  | .tuple l => noLs l
  | .none => true
  | .bool _ => true
  | .int _ => true
  | .str _ => true
def noLs : List PyData → Bool
  | [] => true
  | d :: ds => noL d && noLs ds
end
mutual
theorem dat_noR {H : Hp} {r : Addr} {zs : List V} (hr : H r = some (.lst zs)) : ∀ {v : V} {d : PyData}, Dat H v d → noL d = true → Dat (noR r H) v d
  | _, _, .non, _ => .non
  | _, _, .bl b, _ => .bl b
  | _, _, .int i, _ => .int i
  | _, _, .str x h, _ => .str x h
  | _, _, .lst _ _, h => by simp [noL] at h
  | _, _, .d0 _, h => by simp [noL] at h
  | _, _, .tup (a := a) e t, h => .tup (noR_at e fun z => by rw [z, hr] at e; cases e) (datAll_noR hr t (by simpa only [noL] using h))
theorem datAll_noR {H : Hp} {r : Addr} {zs : List V} (hr : H r = some (.lst zs)) : ∀ {vs : List V} {ds : List PyData}, DatAll H vs ds → noLs ds = true → DatAll (noR r H) vs ds
  | _, _, .nil, _ => .nil
  | _, _, .cons (d := d) (ds := ds) a t, h => by
    have h' : noL d = true ∧ noLs ds = true := by simpa only [noLs, Bool.and_eq_true] using h
    exact .cons (dat_noR hr a h'.1) (datAll_noR hr t h'.2)
end
theorem noLs_iff : ∀ {l : List PyData}, noLs l = true ↔ ∀ d ∈ l, noL d = true
  | [] => by simp [noLs]
  | a :: l => by simp [noLs, noLs_iff (l := l)]
theorem same_noR {r : Addr} {H H' : Hp} (S : Same H H') : Same (noR r H) (noR r H') := fun b o e => by
  unfold noR at e ⊢
  split at e
  · cases e
  · rename_i h
    rw [if_neg h]
    exact S _ _ e
mutual
theorem dat_hide {H : Hp} {p q : Addr} {b : Nat} (D : Dk H p q b) : ∀ {v : V} {d : PyData}, Dat H v d → noL d = true → Dat (hide p q H) v d
  | _, _, .non, _ => .non
  | _, _, .bl b, _ => .bl b
  | _, _, .int i, _ => .int i
  | _, _, .str x h, _ => .str x h
  | _, _, .lst _ _, h => by simp [noL] at h
  | _, _, .d0 _, h => by simp [noL] at h
  | _, _, .tup (a := a) e t, h => .tup (hide_at e (dk_ne D e).1 (dk_ne D e).2) (datAll_hide D t (by simpa only [noL] using h))
theorem datAll_hide {H : Hp} {p q : Addr} {b : Nat} (D : Dk H p q b) : ∀ {vs : List V} {ds : List PyData}, DatAll H vs ds → noLs ds = true → DatAll (hide p q H) vs ds
  | _, _, .nil, _ => .nil
  | _, _, .cons (d := d) (ds := ds) a t, h => by
    have h' : noL d = true ∧ noLs ds = true := by simpa only [noLs, Bool.and_eq_true] using h
    exact .cons (dat_hide D a h'.1) (datAll_hide D t h'.2)
end
/-! ### a dict's update by another one -/
section
variable {X : Cx}
def rUpd : V → List V → Hp → VK → Prop := fun x vs H Q => ∃ (a b : Addr) (kvs more : List (Key × V)), x = .ref a ∧ vs = [.ref b] ∧ a ≠ b ∧ H a = some (.dK kvs) ∧ H b = some (.dK more) ∧ kvs.length + more.length ≤ sizeLine ∧ Q .non (upd H a (.dK (mergeK kvs more)))
theorem mt_update : MtR X "dict.update" rUpd := by
  intro pins s σ H x vs v us Q I rx rv h
  obtain ⟨a, b, kvs, more, rfl, rfl, hab, ha, hb, hz, q⟩ := h
  cases rx
  obtain ⟨u, rfl, ru⟩ := Vals.one rv
  cases ru
  obtain ⟨_, hd, vs, rel, dd⟩ := dk_of I.hok ha
  obtain ⟨_, hd2, vs2, rel2, dd2⟩ := dk_of I.hok hb
  refine call_meetsIn PySem.F.slot_dict_update dd.typeIs PySem.F.entry_dict_update (PySem.F.args_dict_update_2 _ _) (meets_dict_update (mixKind X.prog X.w) a b hab hd2) ⟨vs, vs2, dd, dd2, by rw [← rel.length, ← rel2.length]; exact hz, fun h' dd' _ hs => ?_⟩
  have he : ∃ q, h'.get? a = some q := let ⟨q, _, _, hq, _⟩ := dd'; ⟨q, hq⟩
  exact ⟨.non, _, d_write (t' := s.toks) I (by rw [ha]; exact True.intro) hs he (dk_new (Nat.le_trans (length_mergeK more kvs) hz) hd (rel2.merge rel) dd'), rfl, q⟩
/-- a written list, with its place new -/
def tDatN (ds : List PyData) : TE := fun _ H Q => ∀ (a : Addr) (xs : List V) (H' : Hp), H a = none → Same H H' → H' a = some (.lst xs) → DatAll H' xs ds → Q (.ref a) H'
theorem pd_lstN {es : List Expr} {ds : List PyData} {pos : Pos} (hl : ds.length ≤ 1000) (a : PA X es (tDats ds)) : PE X (.List es pos) (tDatN ds) :=
  pe_weak (pe_lst a) fun σ H Q q vs H' S dv => ⟨by rw [dv.len, sizeLine_eq]; omega, fun p np => q p vs _ (by
    cases e : H p with
    | none => rfl
    | some o => rw [S _ _ e] at np; cases np) (S.trans (same_new np)) upd_same (dv.same (same_new np))⟩
end
/-! ### a list that grows, and is new -/
def Gr (H : Hp) (L : Addr) (ds : List PyData) (Hx : Hp) : Prop := H L = none ∧ Same H Hx ∧ ∃ xs, Hx L = some (.lst xs) ∧ DatAll (noR L Hx) xs ds
theorem Gr.start {H : Hp} {L : Addr} (n : H L = none) : Gr H L [] (upd H L (.lst [])) := ⟨n, same_new n, [], upd_same, .nil⟩
theorem Gr.same {H Hx Hy : Hp} {L : Addr} {ds : List PyData} (g : Gr H L ds Hx) (S : Same Hx Hy) : Gr H L ds Hy := by
  obtain ⟨n, S0, xs, h, d⟩ := g
  exact ⟨n, S0.trans S, xs, S _ _ h, d.same (same_noR S)⟩
theorem Gr.add {H Hx Hy : Hp} {L : Addr} {ds es : List PyData} {zs : List V} (g : Gr H L ds Hx) (S : Same Hx Hy) (hz : DatAll Hy zs es) (no : noLs es = true) : ∃ xs, Hy L = some (.lst xs) ∧ xs.length = ds.length ∧ zs.length = es.length ∧ Gr H L (ds ++ es) (upd Hy L (.lst (xs ++ zs))) := by
  obtain ⟨n, S0, xs, h, d⟩ := g.same S
  refine ⟨xs, h, d.len, hz.len, n, fun b u e => ?_, xs ++ zs, upd_same, ?_⟩
  · rw [upd_ne (ne_of_none e n)]
    exact S0 b u e
  · rw [noR_upd]
    exact datAll_append d (datAll_noR h hz no)
theorem Gr.fin {H Hx : Hp} {L : Addr} {ds : List PyData} (g : Gr H L ds Hx) : ∃ xs, Hx L = some (.lst xs) ∧ xs.length = ds.length ∧ DatAll Hx xs ds := by
  obtain ⟨n, S0, xs, h, d⟩ := g
  exact ⟨xs, h, d.len, d.same noR_sub⟩
theorem mono_tup2 {K : PySem.W.Frag} {i j : Nat} {vs : List Nat} {σ : L2.St} : ∀ (x : V) (Hx : Hp) (A B : L2.St → Hp → Prop), (∀ σ2 H2, A σ2 H2 → B σ2 H2) → gTup K 2 (gCons (gName i) (gCons (gName j) gNil)) x (wipe σ vs) Hx A → gTup K 2 (gCons (gName i) (gCons (gName j) gNil)) x (wipe σ vs) Hx B :=
  fun x Hx A B h ⟨a, xs, e, hs, hl, v, r, e1, v2, r2, e2, e3, q⟩ => ⟨a, xs, e, hs, hl, v, r, e1, v2, r2, e2, e3, h _ _ q⟩
theorem hide_u1 {p q : Addr} {H : Hp} {o : HO} : hide p q (upd H p o) = hide p q H := by
  funext b
  unfold hide
  by_cases e : b = p ∨ b = q
  · rw [if_pos e, if_pos e]
  · rw [if_neg e, if_neg e, upd_ne (fun z => e (.inl z))]
theorem hide_u2 {p q : Addr} {H : Hp} {o : HO} : hide p q (upd H q o) = hide p q H := by
  funext b
  unfold hide
  by_cases e : b = p ∨ b = q
  · rw [if_pos e, if_pos e]
  · rw [if_neg e, if_neg e, upd_ne (fun z => e (.inr z))]
mutual
theorem dat_hideL {H : Hp} {p q : Addr} {xs ys : List V} (hp : H p = some (.lst xs)) (hq : H q = some (.lst ys)) : ∀ {v : V} {d : PyData}, Dat H v d → noL d = true → Dat (hide p q H) v d
  | _, _, .non, _ => .non
  | _, _, .bl b, _ => .bl b
  | _, _, .int i, _ => .int i
  | _, _, .str x h, _ => .str x h
  | _, _, .lst _ _, h => by simp [noL] at h
  | _, _, .d0 _, h => by simp [noL] at h
  | _, _, .tup (a := a) e t, h => .tup (hide_at e (fun z => by rw [z, hp] at e; cases e) (fun z => by rw [z, hq] at e; cases e)) (datAll_hideL hp hq t (by simpa only [noL] using h))
theorem datAll_hideL {H : Hp} {p q : Addr} {xs ys : List V} (hp : H p = some (.lst xs)) (hq : H q = some (.lst ys)) : ∀ {vs : List V} {ds : List PyData}, DatAll H vs ds → noLs ds = true → DatAll (hide p q H) vs ds
  | _, _, .nil, _ => .nil
  | _, _, .cons (d := d) (ds := ds) a t, h => by
    have h' : noL d = true ∧ noLs ds = true := by simpa only [noLs, Bool.and_eq_true] using h
    exact .cons (dat_hideL hp hq a h'.1) (datAll_hideL hp hq t h'.2)
end
/-! ### written data that lies apart from the deck -/
def tDatF (p q : Addr) (d : PyData) : TE := fun _ H Q => (H p ≠ none ∧ H q ≠ none) ∧ ∀ (v : V) (H' : Hp), Same H H' → Dat (hide p q H') v d → Q v H'
def tDatsF (p q : Addr) (ds : List PyData) : TA := fun _ H Q => (H p ≠ none ∧ H q ≠ none) ∧ ∀ (vs : List V) (H' : Hp), Same H H' → DatAll (hide p q H') vs ds → Q vs H'
theorem live_same {H H' : Hp} {p : Addr} (h : H p ≠ none) (S : Same H H') : H' p ≠ none := fun z => by
  cases e : H p with
  | none => exact h e
  | some o =>
    rw [S _ _ e] at z
    cases z
theorem hide_fresh {H : Hp} {p q a : Addr} {o : HO} (h : H p ≠ none ∧ H q ≠ none) (n : H a = none) : hide p q (upd H a o) a = some o := hide_at upd_same (fun z => h.1 (by rw [← z]; exact n)) (fun z => h.2 (by rw [← z]; exact n))
section
variable {X : Cx} {e : Expr} {es : List Expr} {p q : Addr} {d : PyData} {ds : List PyData}
theorem pf_nil : PA X [] (tDatsF p q []) := pa_weak pa_nil fun σ H Q h => h.2 [] H (Same.refl H) .nil
theorem pf_cons (a : PE X e (tDatF p q d)) (b : PA X es (tDatsF p q ds)) (hs : starEach (e :: es) X.env = (false, eval e X.env) :: starEach es X.env := by rfl) : PA X (e :: es) (tDatsF p q (d :: ds)) :=
  pa_weak (pa_cons a b hs) fun σ H Q h => ⟨h.1, fun v H1 S1 dv => ⟨⟨live_same h.1.1 S1, live_same h.1.2 S1⟩, fun vs H2 S2 dvs => h.2 (v :: vs) H2 (S1.trans S2) (.cons (dv.same (hide_same S2)) dvs)⟩⟩
theorem pf_tup {ctx : Nat} {pos : Pos} (hl : ds.length ≤ 1000) (a : PA X es (tDatsF p q ds)) : PE X (.Tuple es ctx pos) (tDatF p q (.tuple ds)) :=
  pe_weak (pe_tup a) fun σ H Q h => ⟨h.1, fun vs H1 S1 dvs => ⟨by rw [dvs.len, sizeLine_eq]; omega, fun r nr => h.2 (.ref r) _ (S1.trans (same_new nr)) (.tup (hide_fresh ⟨live_same h.1.1 S1, live_same h.1.2 S1⟩ nr) (dvs.same (hide_same (same_new nr))))⟩⟩
theorem pf_lst {pos : Pos} (hl : ds.length ≤ 1000) (a : PA X es (tDatsF p q ds)) : PE X (.List es pos) (tDatF p q (.list ds)) :=
  pe_weak (pe_lst a) fun σ H Q h => ⟨h.1, fun vs H1 S1 dvs => ⟨by rw [dvs.len, sizeLine_eq]; omega, fun r nr => h.2 (.ref r) _ (S1.trans (same_new nr)) (.lst (hide_fresh ⟨live_same h.1.1 S1, live_same h.1.2 S1⟩ nr) (dvs.same (hide_same (same_new nr))))⟩⟩
theorem pf_of {v : V} (a : PE X e (tC v)) (h : ∀ H : Hp, Dat H v d) : PE X e (tDatF p q d) := pe_weak a fun σ H Q k => k.2 v H (Same.refl H) (h _)
theorem pf_none (a : PE X e (tC .non)) : PE X e (tDatF p q .none) := pf_of a fun _ => .non
theorem pf_bool {b : Bool} (a : PE X e (tC (.bl b))) : PE X e (tDatF p q (.bool b)) := pf_of a fun _ => .bl b
theorem pf_int {i : Int} (a : PE X e (tC (.int i))) : PE X e (tDatF p q (.int i)) := pf_of a fun _ => .int i
theorem pf_str {x : Str} (hx : x.length ≤ 1000) (a : PE X e (tC (.str x))) : PE X e (tDatF p q (.str x)) := pf_of a fun _ => .str x hx
theorem pf_neg {i : Int} {pos : Pos} (a : PE X e (tC (.int i))) : PE X (.UnaryOp .USub e pos) (tDatF p q (.int (-i))) := pe_weak (pe_un un_neg a) fun σ H Q k => ⟨i, rfl, k.2 _ H (Same.refl H) (.int _)⟩
theorem pf_pow {e2 : Expr} {i : Int} {pos : Pos} {j : Nat} (hi : i.natAbs < 2 ^ 64) (hj : j ≤ 1000000) (a : PE X (.BinOp e .Pow e2 pos) (tOp (rI CPow fun i j => .int (i ^ j.toNat)) (tC (.int i)) (tC (.int (j : Nat))))) : PE X (.BinOp e .Pow e2 pos) (tDatF p q (.int (i ^ j))) :=
  pe_weak a fun σ H Q k => ⟨i, ((j : Nat) : Int), rfl, rfl, ⟨by omega, by omega, hi⟩, k.2 _ H (Same.refl H) (by show Dat _ (V.int (i ^ ((j : Nat) : Int).toNat)) _; rw [Int.toNat_natCast]; exact .int _)⟩
end
theorem datAll_take {H : Hp} : ∀ {vs : List V} {ds : List PyData} (n : Nat), DatAll H vs ds → DatAll H (vs.take n) (ds.take n)
  | _, _, 0, _ => .nil
  | _, _, n + 1, .nil => .nil
  | _, _, n + 1, .cons a t => .cons a (datAll_take n t)
theorem datAll_drop {H : Hp} : ∀ {vs : List V} {ds : List PyData} (n : Nat), DatAll H vs ds → DatAll H (vs.drop n) (ds.drop n)
  | _, _, 0, h => h
  | _, _, n + 1, .nil => .nil
  | _, _, n + 1, .cons a t => datAll_drop n t
theorem datAll_rev {H : Hp} : ∀ {vs : List V} {ds : List PyData}, DatAll H vs ds → DatAll H vs.reverse ds.reverse
  | _, _, .nil => .nil
  | _, _, .cons a t => by
    rw [List.reverse_cons, List.reverse_cons]
    exact datAll_append (datAll_rev t) (.cons a .nil)
theorem cut_take {xs : List V} {n : Nat} : cutV xs none (some (n : Int)) = xs.take n := by
  unfold cutV
  have e1 : HT.sIx xs.length xs.length (some (n : Int)) = min n xs.length := HT.sIx_nat xs.length _ n
  have e2 : HT.sIx xs.length 0 none = 0 := HT.sIx_none _ _
  rw [e1, e2, List.drop_zero, Nat.sub_zero, List.take_eq_take_iff]
  omega
theorem cut_drop {xs : List V} {n : Nat} : cutV xs (some (n : Int)) none = xs.drop n := by
  unfold cutV
  have e1 : HT.sIx xs.length 0 (some (n : Int)) = min n xs.length := HT.sIx_nat xs.length _ n
  have e2 : HT.sIx xs.length xs.length none = xs.length := HT.sIx_none _ _
  rw [e1, e2]
  by_cases h : n ≤ xs.length
  · rw [Nat.min_eq_left h, List.take_of_length_le (by rw [List.length_drop]; omega)]
  · rw [Nat.min_eq_right (by omega), List.drop_eq_nil_of_le (Nat.le_refl _), List.drop_eq_nil_of_le (show xs.length ≤ n by omega), List.take_nil]
theorem hidT {H : Hp} {p q a : Addr} {b : Nat} {xs : List V} (D : Dk H p q b) (h : H a = some (.tup xs)) : hide p q H a = some (.tup xs) := hide_at h (dk_ne D h).1 (dk_ne D h).2
theorem hide_ne {H : Hp} {p q a : Addr} {o : HO} (h : hide p q H a = some o) : a ≠ p ∧ a ≠ q := by
  unfold hide at h
  by_cases e : a = p ∨ a = q
  · rw [if_pos e] at h
    cases h
  · exact ⟨fun z => e (.inl z), fun z => e (.inr z)⟩
theorem bool_repr (b : Bool) : okInt (.bool b) ∧ (PyData.bool b).depth ≤ 64 ∧ (PyData.bool b).shown.length ≤ sizeLine := by
  refine ⟨by simp only [okInt], by rw [PyData.depth]; exact Nat.zero_le _, ?_⟩
  rw [sizeLine_eq]
  cases b <;> decide +kernel
mutual
theorem dat_dp {K : PySem.W.Frag} {H : Hp} : ∀ {v : V} {d : PyData}, Dat H v d → noL d = true → Dp K H v d
  | _, _, .non, _ => .non
  | _, _, .bl b, _ => .bl b
  | _, _, .int i, _ => .int i
  | _, _, .str x _, _ => .str x
  | _, _, .lst _ _, h => by simp [noL] at h
  | _, _, .d0 _, h => by simp [noL] at h
  | _, _, .tup e t, h => .tup (SqT.of e) (datAll_dp t (by simpa only [noL] using h))
theorem datAll_dp {K : PySem.W.Frag} {H : Hp} : ∀ {vs : List V} {ds : List PyData}, DatAll H vs ds → noLs ds = true → DpAll K H vs ds
  | _, _, .nil, _ => .nil
  | _, _, .cons (d := d) (ds := ds) a t, h => by
    have h' : noL d = true ∧ noLs ds = true := by simpa only [noLs, Bool.and_eq_true] using h
    exact .cons (dat_dp a h'.1) (datAll_dp t h'.2)
end
end KF
set_option maxRecDepth 100000
set_option maxHeartbeats 8000000
namespace KF
open PySem PySem.Spec PyProof.Rows L2
/-! ### _law_string -/
abbrev s_string : Stmt := top 41
def mvD (k : Nat) : PyData := .tuple [.int (k : Nat), .str "a", .int ((k + 1 : Nat) % 8 : Int)]
def movesD : List PyData := ((List.range 8).map mvD) ++ [.tuple [.int 7, .str "zz", .int 0]]
def strD (n : Nat) : PyData := .tuple [.str "string", .tuple [.tuple movesD, .tuple [.int 0, .int 3]], .int (n : Nat)]
def spString : Sp := fun vs H Q _ => ∃ (p q : Addr) (b : Nat), vs = [.ref p] ∧ Dk H p q b ∧ b + 10 ≤ 100000000 ∧ ∀ (v : V) (n : Nat) (H' : Hp), n ≤ 60 → Off p q H H' → Dk H' p q (b + 2) → Dat (hide p q H') v (strD n) → Q v H'
theorem movesD_noL : noLs movesD = true := by decide +kernel
section
variable {P : Program} {w : World} {K : PySem.W.Frag} {mg : Str → Option Value} {base : Heap}
theorem sc_string : FnScope ["_law_deck_here", "_law_moves", "_law_k"] ["_law_deck_here"] (defScope s_string) := ⟨rfl, rfl, rfl, by decide +kernel, rfl, by decide +kernel, by decide +kernel⟩
theorem ok_string {f fP fD : Addr} {fd fdP fdD : FuncData} (F : Fun K "_law_string" "_law_string" s_string f fd) (T : Nm mg) (D_pick : DefOk K mg "_law_pick" sPick ["_law_deck_here", "_law_items"] fP fdP) (G_pick : FnOk P w K mg base CX0 2 fP fdP ["_law_deck_here", "_law_items"] spPick) (D_draw : DefOk K mg "_law_draw" sDraw ["_law_deck_here", "_law_bound"] fD fdD) :
    FnOk P w K mg base CX0 3 f fd ["_law_deck_here"] spString := by
  have G_draw : FnOk P w K mg base CX0 1 fD fdD ["_law_deck_here", "_law_bound"] spDraw := ok_draw D_draw.F
  refine F.ok sc_string (fun vs H Q E h => ?_) (fun cdv A outer s H vs Q E hr h => ?_)
  · obtain ⟨p, q, b, rfl, _⟩ := h
    rfl
  · obtain ⟨p, q, b, rfl, D, hb, k⟩ := h
    have hr1 : Room 1 _ := hr.mono (by decide)
    refine ⟨_, (pss_cons (ps_set (i := 1) sc_string.nd rfl (Or.inl rfl) (pe_callTy call_tuple_of (by rfl) T.tuple (by decide +kernel) (pa_cons (pe_op op_cat (pe_lc (own := [("_law_k", 2)]) (g := (gName 2)) (tt := tYes) rfl sc_string.nd (pi_range1 rfl T.range (pa_cons pe_int pa_nil)) (blkOk_by (N := ["_law_deck_here", "_law_moves", "_law_k"]) (sc := defScope s_string) (by decide +kernel))
          (fun _ _ _ _ _ => (pg_name (i := 2) sc_string.nd rfl (Or.inl rfl))) (fun _ _ _ _ _ => pts_nil) (fun _ _ _ _ _ => (pe_tup (pa_cons (pv 2) (pa_cons pe_str (pa_cons (pe_op op_mod (pe_op op_add (pv 2) pe_int) pe_int) pa_nil)))))) (pd_lstN (by decide) (pd_cons (pd_tup (by decide) (pd_cons (pd_int pe_int) (pd_cons (pd_str (by decide) pe_str) (pd_cons (pd_int pe_int) pd_nil)))) pd_nil))) pa_nil)))
      (pss_one (ps_ret (pe_tup (pa_cons pe_str (pa_cons (pe_tup (pa_cons (pv 1) (pa_cons (pd_tup (by decide) (pd_cons (pd_int pe_int) (pd_cons (pd_int pe_int) pd_nil))) pa_nil))) (pa_cons (pe_call G_pick hr rfl D_pick.g D_pick.F.kp D_pick.b .nil pass0 (pa_cons (pv 0) (pa_cons (pe_lst (pa_cons pe_int (pa_cons pe_int (pa_cons (pe_op op_add pe_int (pe_call G_draw hr1 rfl D_draw.g D_draw.F.kp D_draw.b .nil pass0 (pa_cons (pv 0) (pa_cons pe_int pa_nil)))) pa_nil)))) pa_nil))) pa_nil))))))), ?_⟩
    refine ⟨8, rfl, by decide, by decide, fun M nM => lc_range (n := 8) (fun j Hz => Gr H M ((List.range j).map mvD) Hz) (Gr.start nM) ?_ ?_⟩
    · rintro j Hz hj gz
      rw [show ((0 : Int) + (j : Nat)) = ((j : Nat) : Int) from Int.zero_add _]
      refine ⟨rfl, ?_⟩
      dsimp only [tYes]
      refine if_t rfl ⟨_, rfl, _, rfl, _, _, rfl, rfl, _, _, rfl, rfl, (by show (0 : Int) < 8; decide), (by show 3 ≤ sizeLine; decide), fun t nt => ?_⟩
      have y1 := same_new (o := HO.tup [.int (j : Nat), .str "a", .int (((j : Nat) + 1) % 8)]) nt
      have u1 : upd Hz t (.tup [.int (j : Nat), .str "a", .int (((j : Nat) + 1) % 8)]) t = some (.tup [.int (j : Nat), .str "a", .int (((j : Nat) + 1) % 8)]) := upd_same
      have dz : DatAll (upd Hz t (.tup [.int (j : Nat), .str "a", .int (((j : Nat) + 1) % 8)])) [.ref t] [mvD j] := .cons (.tup u1 (.cons (.int _) (.cons (.str _ (by decide)) (.cons (.int _) .nil)))) .nil
      obtain ⟨xs, hM, hxl, _, g'⟩ := gz.add y1 dz rfl
      rw [List.length_map, List.length_range] at hxl
      refine ⟨xs, hM, (by rw [sizeLine_eq]; omega), ?_⟩
      rw [List.range_succ, List.map_append]
      exact g'
    · rintro H1 gz
      refine fun a2 xs2 H2 n2 S2 h2 d2 => ?_
      obtain ⟨xs1, h1, l1, d1⟩ := (gz.same S2).fin
      have l2 := d2.len
      rw [List.length_map, List.length_range] at l1
      refine ⟨M, a2, xs1, xs2, rfl, rfl, h1, h2, (by rw [l1, l2, sizeLine_eq]; decide), fun l3 n3 => ?_⟩
      have S3 := same_new (o := HO.lst (xs1 ++ xs2)) n3
      refine ⟨l3, _, rfl, .inl ⟨SqL.of upd_same, fun t nt => ?_⟩⟩
      have S4 := same_new (o := HO.tup (xs1 ++ xs2)) nt
      have ht : upd (upd H2 l3 (.lst (xs1 ++ xs2))) t (.tup (xs1 ++ xs2)) t = some (.tup (xs1 ++ xs2)) := upd_same
      have dm : DatAll H2 (xs1 ++ xs2) movesD := datAll_append d1 d2
      have dm := (dm.same S3).same S4
      have S04 := ((gz.2.1.trans S2).trans S3).trans S4
      generalize upd (upd H2 l3 (.lst (xs1 ++ xs2))) t (.tup (xs1 ++ xs2)) = H4 at ht dm S04 ⊢
      refine ⟨_, rfl, fun u H5 S5 du => ⟨(by show 2 ≤ sizeLine; decide), fun t6 n6 => ?_⟩⟩
      have S6 := same_new (o := HO.tup [.ref t, u]) n6
      have h6 : upd H5 t6 (.tup [.ref t, u]) t6 = some (.tup [.ref t, u]) := upd_same
      have S06 := (S04.trans S5).trans S6
      have dmv : Dat (upd H5 t6 (.tup [.ref t, u])) (.ref t6) (.tuple [.tuple movesD, .tuple [.int 0, .int 3]]) := .tup h6 (.cons (.tup ((S5.trans S6) _ _ ht) (dm.same (S5.trans S6))) (.cons (du.same S6) .nil))
      generalize upd H5 t6 (.tup [.ref t, u]) = H6 at S06 dmv ⊢
      have D6 := D.same S06
      have dmv := dat_hide D6 dmv (by rw [noL, noLs, noL, movesD_noL]; rfl)
      obtain ⟨ns, m0, c0, D0, hc0⟩ := id D6
      refine ⟨_, rfl, _, rfl, p, q, ns, m0, c0, 60, rfl, by decide, by decide, D0, by omega, fun so ns1 H7 so0 so1 O7 D7' => ?_⟩
      obtain ⟨j, rfl⟩ := nat_of so0
      have D7 : Dk H7 p q (b + 1) := ⟨_, m0, _, D7', by omega⟩
      refine ⟨_, _, rfl, rfl, (by show 3 ≤ sizeLine; decide), fun L nL => ?_⟩
      have S8 := same_new (o := HO.lst [.int 60, .int 0, .int (1 + (j : Nat))]) nL
      have Ln := D7.new nL
      refine pick_of (E := E0) (D7.same S8) upd_same Ln.1 Ln.2 (by show 0 < 3; decide) (by show 3 ≤ 1000; decide) (by omega) fun i x H9 hx O9 D9 => ?_
      obtain ⟨n, rfl, hn⟩ : ∃ n : Nat, x = .int (n : Nat) ∧ n ≤ 60 := by
        match i, hx with
        | 0, hx => exact ⟨60, (Option.some.inj hx).symm, by decide⟩
        | 1, hx => exact ⟨0, (Option.some.inj hx).symm, by decide⟩
        | 2, hx => exact ⟨1 + j, (Option.some.inj hx).symm.trans (by show V.int ((1 : Int) + (j : Nat)) = _; rw [show ((1 : Int) + (j : Nat)) = ((1 + j : Nat) : Int) by omega]), by omega⟩
        | n + 3, hx => cases hx
      refine ⟨(by show 3 ≤ sizeLine; decide), fun t9 n9 => ?_⟩
      have S9 := same_new (o := HO.tup [.str "string", .ref t6, .int (n : Nat)]) n9
      have O := (((Off.of_same S06).trans O7).trans (.of_same S8)).trans O9
      have dz := ((dmv.same (hide_off O7)).same (hide_same (p := p) (q := q) S8)).same (hide_off O9)
      refine k (.ref t9) n _ hn (O.trans (.of_same S9)) (D9.same S9) (.tup (hide_new D9 n9) (.cons (.str _ (by decide)) (.cons (dz.same (hide_same S9)) (.cons (.int _) .nil))))
end
end KF
set_option maxRecDepth 100000
set_option maxHeartbeats 8000000
namespace KF
open PySem PySem.Spec PyProof.Rows L2
/-! ### this law's spaces -/
inductive L15
  | sub (n k : Nat)
  | word (cs : Cn)
  | arr (o : PyData)
  | walk (n s e lo hi : Int)
  | cyc (n : Nat)
  | mat (n : Nat)
  | perm (n : Nat) (d : PyData)
  | tree (n : Nat)
  | str (n : Nat)
inductive S15
  | leaf (l : L15)
  | row (c : Bool) (ls : List L15)
  | pow (n : Nat) (l : L15)
  | dec (cs : Cn) (ls : List L15)
def ldt : L15 → PyData
  | .sub n k => .tuple [.str "subset", .int (n : Nat), .int (k : Nat)]
  | .word cs => .tuple [.str "word", cntsD cs]
  | .arr o => .tuple [.str "arrangement", o]
  | .walk n s e lo hi => .tuple [.str "walk", .int n, .int s, .int e, .int lo, .int hi]
  | .cyc n => .tuple [.str "cycle", .int (n : Nat)]
  | .mat n => .tuple [.str "matching", .int (n : Nat)]
  | .perm n d => .tuple [.str "permutation", .int (n : Nat), d]
  | .tree n => .tuple [.str "tree", .int (n : Nat)]
  | .str n => strD n
def rowW (c : Bool) : Str := if c then "choice" else "product"
def sdt : S15 → PyData
  | .leaf l => ldt l
  | .row c ls => .tuple [.str (rowW c), .tuple (ls.map ldt)]
  | .pow n l => .tuple [.str "power", .int (n : Nat), ldt l]
  | .dec cs ls => .tuple [.str "decorated", cntsD cs, .tuple (ls.map ldt)]
def okL : L15 → Prop
  | .word cs => cs.length ≤ 100
  | .arr o => orderB 6 o = true
  | .mat n => n ≤ 1000
  | _ => True
def okS : S15 → Prop
  | .leaf l => okL l
  | .row _ ls => ∀ l ∈ ls, okL l
  | .pow _ l => okL l
  | .dec cs ls => cs.length ≤ 100 ∧ ls.length = cs.length ∧ ∀ l ∈ ls, okL l
def findDec : List ((Str × Nat) × L15) → PyData → PyData → Option S15
  | [], _, _ => none
  | p :: r, l, o => if (eqStr p.1.1 l && btw 0 ((p.1.2 : Int) - 1) o) = true then some (.leaf p.2) else findDec r l o
def nextDec (r : List ((Str × Nat) × L15)) : PyData → Option S15
  | .tuple [l, o] => findDec r l o
  | _ => none
def nextS : S15 → PyData → Option S15
  | .leaf _, _ => none
  | .row _ ls, d => if btw 0 ((ls.length : Int) - 1) d = true then (ls[(intOf d).toNat]?).map S15.leaf else none
  | .pow n l, d => if btw 0 ((n : Int) - 1) d = true then some (.leaf l) else none
  | .dec cs ls, d => nextDec (cs.zip ls) d
def askL : L15 → Str → List PyData → Bool
  | .sub n k => subsetB n k
  | .word cs => wordB cs
  | .arr o => arrB o
  | .walk n s e _ _ => walkB n s e
  | .cyc n => cycleB n
  | .mat n => matchB n
  | .perm n _ => permB n
  | .tree n => treeB n
  | .str n => stringB n
def askS : S15 → Str → List PyData → Bool
  | .leaf l => askL l
  | .row c _ => fun z as => c && choiceB z as
  | .pow _ _ => fun _ _ => false
  | .dec cs _ => wordB cs
theorem nextDec_none {r : List ((Str × Nat) × L15)} {d : PyData} (h : tupOf 2 2 d = false) : nextDec r d = none := by
  unfold nextDec
  split
  · cases (show true = false from h)
  · rfl
theorem find_ok {s : S15} {l o : PyData} : ∀ {r : List ((Str × Nat) × L15)}, (∀ p ∈ r, okL p.2) → findDec r l o = some s → okS s
  | [], _, h => by cases h
  | p :: r, hr, h => by
    rw [findDec] at h
    split at h
    · cases h
      exact hr p List.mem_cons_self
    · exact find_ok (fun q hq => hr q (List.mem_cons_of_mem _ hq)) h
theorem next_ok {s e : S15} {d : PyData} (hs : okS s) (h : nextS s d = some e) : okS e := by
  cases s with
  | leaf l => cases h
  | row c ls =>
    have h' : (if btw 0 ((ls.length : Int) - 1) d = true then (ls[(intOf d).toNat]?).map S15.leaf else none) = some e := h
    split at h'
    · obtain ⟨l, hl, rfl⟩ := Option.map_eq_some_iff.mp h'
      exact hs l (List.mem_of_getElem? hl)
    · cases h'
  | pow n l =>
    have h' : (if btw 0 ((n : Int) - 1) d = true then some (S15.leaf l) else none) = some e := h
    split at h'
    · cases h'
      exact hs
    · cases h'
  | dec cs ls =>
    have h' : nextDec (cs.zip ls) d = some e := h
    unfold nextDec at h'
    split at h'
    · exact find_ok (fun p hp => hs.2.2 p.2 (List.of_mem_zip (a := p.1) (b := p.2) hp).2) h'
    · cases h'
def hdL : L15 → Str
  | .sub _ _ => "subset"
  | .word _ => "word"
  | .arr _ => "arrangement"
  | .walk _ _ _ _ _ => "walk"
  | .cyc _ => "cycle"
  | .mat _ => "matching"
  | .perm _ _ => "permutation"
  | .tree _ => "tree"
  | .str _ => "string"
theorem ldt_hd (l : L15) : ∃ ds, ldt l = .tuple (.str (hdL l) :: ds) := by cases l <;> exact ⟨_, rfl⟩
def hds : List Str := ["subset", "word", "arrangement", "walk", "cycle", "matching", "permutation", "tree", "string"]
theorem hd_mem (l : L15) : hdL l ∈ hds := by cases l <;> simp [hdL, hds]
theorem hd_no : ∀ z ∈ hds, inV (.str z) [.str "product", .str "choice"] = false ∧ decide (V.str z = V.str "power") = false ∧ decide (V.str z = V.str "decorated") = false := by decide +kernel
theorem tup_hd {H : Hp} {v : V} {z : Str} {ds : List PyData} (h : Dat H v (.tuple (.str z :: ds))) : ∃ (a : Addr) (ps : List V), v = .ref a ∧ H a = some (.tup (.str z :: ps)) ∧ DatAll H ps ds := by
  cases h with
  | @tup a ps _ h0 h1 =>
    cases h1 with
    | cons e t =>
      cases e
      exact ⟨a, _, rfl, h0, t⟩
theorem sdt_ref {H : Hp} {v : V} {s : S15} (h : Dat H v (sdt s)) : ∃ a : Addr, v = .ref a := by
  have : ∃ ds, sdt s = .tuple ds := by
    cases s with
    | leaf l =>
      obtain ⟨ds, e⟩ := ldt_hd l
      exact ⟨_, e⟩
    | _ => exact ⟨_, rfl⟩
  obtain ⟨ds, e⟩ := this
  rw [e] at h
  cases h
  exact ⟨_, rfl⟩
def Y15 : Sys := ⟨S15, sdt, nextS, okS, fun s => askQ (askS s), sdt_ref, next_ok⟩
theorem dat3 {H : Hp} {ps : List V} {d0 d1 d2 : PyData} (h : DatAll H ps [d0, d1, d2]) : ∃ v0 v1 v2, ps = [v0, v1, v2] ∧ Dat H v0 d0 ∧ Dat H v1 d1 ∧ Dat H v2 d2 := by
  match ps, h with
  | _, .cons a (.cons b (.cons c .nil)) => exact ⟨_, _, _, rfl, a, b, c⟩
theorem dat2 {H : Hp} {ps : List V} {d0 d1 : PyData} (h : DatAll H ps [d0, d1]) : ∃ v0 v1, ps = [v0, v1] ∧ Dat H v0 d0 ∧ Dat H v1 d1 := by
  match ps, h with
  | _, .cons a (.cons b .nil) => exact ⟨_, _, rfl, a, b⟩
theorem dat1 {H : Hp} {ps : List V} {d0 : PyData} (h : DatAll H ps [d0]) : ∃ v0, ps = [v0] ∧ Dat H v0 d0 := by
  match ps, h with
  | _, .cons a .nil => exact ⟨_, rfl, a⟩
theorem dats_get {H : Hp} {ys : List V} {xs : List L15} (h : DatAll H ys (xs.map ldt)) {j : Nat} {e : L15} (he : xs[j]? = some e) : ∃ y, ys[j]? = some y ∧ Dat H y (ldt e) := h.at (by rw [List.getElem?_map, he]; rfl)
section
variable {P : Program} {w : World} {K : PySem.W.Frag} {mg : Str → Option Value} {base : Heap}
theorem sc_next : FnScope ["part", "step", "kind", "letter", "occurrence", "pair", "inner"] ["part", "step"] (defScope s_next) := ⟨rfl, rfl, rfl, by decide +kernel, rfl, by decide +kernel, by decide +kernel⟩
theorem ok_next {f fT fB : Addr} {fd fdT fdB : FuncData} (F : Fun K "next_part" "next_part" s_next f fd) (N : Nm mg) (T : DefOk K mg "is_tuple" sTup ["value", "least", "most"] fT fdT) (B : DefOk K mg "is_between" sBtw ["value", "low", "high"] fB fdB) (GB : FnOk P w K mg base CX0 2 fB fdB ["value", "low", "high"] spBtw) : FnOk P w K mg base CX0 3 f fd ["part", "step"] (spNext Y15) := by
  have GT : FnOk P w K mg base CX0 1 fT fdT ["value", "least", "most"] spTup := ok_tup T.F N
  refine F.ok sc_next (fun vs H Q E h => ?_) (fun cdv A outer s H vs Q E hr h => ?_)
  · obtain ⟨v, x, s, d, rfl, _⟩ := h
    rfl
  · obtain ⟨v, x, sp, d, rfl, hv, hx, hok, q0, q1⟩ := h
    have hu0 := hr.units0
    have hr1 : Room 1 _ := hr.mono (by decide)
    refine ⟨_, (pss_cons (ps_set (i := 2) sc_next.nd rfl (Or.inl rfl) (pe_ix ix_tup (pv 0) pe_int (fun _ _ => rfl)))
      (pss_cons (ps_if (PW.pt (pw_and (pt_cmpR op_in_seq (pv 2) (pe_tup (pa_cons pe_str (pa_cons pe_str pa_nil))) rfl) (pw_and1 (pt_val (pe_call GB hr rfl B.g B.F.kp B.b .nil pass0 (pa_cons (pv 1) (pa_cons pe_int (pa_cons (pe_op op_sub (pe_callB call_len_seq (by rfl) N.len PySem.boot_len (pa_cons (pe_ix ix_tup (pv 0) pe_int (fun _ _ => rfl)) pa_nil)) pe_int) pa_nil))))))))
        (pss_one (ps_ret (pe_ix ix_tup (pe_ix ix_tup (pv 0) pe_int (fun _ _ => rfl)) (pv 1) (fun _ _ => rfl))))
        pss_nil)
      (pss_cons (ps_if (PW.pt (pw_and (pt_cmpR op_eq (pv 2) pe_str (nomark _)) (pw_and1 (pt_val (pe_call GB hr rfl B.g B.F.kp B.b .nil pass0 (pa_cons (pv 1) (pa_cons pe_int (pa_cons (pe_op op_sub (pe_ix ix_tup (pv 0) pe_int (fun _ _ => rfl)) pe_int) pa_nil))))))))
        (pss_one (ps_ret (pe_ix ix_tup (pv 0) pe_int (fun _ _ => rfl))))
        pss_nil)
      (pss_cons (ps_if (PW.pt (pw_and (pt_cmpR op_eq (pv 2) pe_str (nomark _)) (pw_and1 (pt_val (pe_call GT hr1 rfl T.g T.F.kp T.b .nil pass0 (pa_cons (pv 1) (pa_cons pe_int (pa_cons pe_int pa_nil))))))))
        (pss_cons (ps_asg (pv 1) (pg_tup rfl (pgs_cons (pg_name (i := 3) sc_next.nd rfl (Or.inl rfl)) (pgs_cons (pg_name (i := 4) sc_next.nd rfl (Or.inl rfl)) pgs_nil))))
        (pss_one (ps_for PassesOwn.never rfl (RZ.pi_zipA rfl N.zip (pa_cons (pe_ix ix_tup (pv 0) pe_int (fun _ _ => rfl)) (pa_cons (pe_ix ix_tup (pv 0) pe_int (fun _ _ => rfl)) pa_nil))) (pg_tup rfl (pgs_cons (pg_name (i := 5) sc_next.nd rfl (Or.inl rfl)) (pgs_cons (pg_name (i := 6) sc_next.nd rfl (Or.inl rfl)) pgs_nil)))
          (pss_one (ps_if (PW.pt (pw_and (pt_cmpR (op_eqStr hu0) (pv 3) (pe_ix ix_tup (pv 5) pe_int (fun _ _ => rfl)) (nomark _)) (pw_and1 (pt_val (pe_call GB hr rfl B.g B.F.kp B.b .nil pass0 (pa_cons (pv 4) (pa_cons pe_int (pa_cons (pe_op op_sub (pe_ix ix_tup (pv 5) pe_int (fun _ _ => rfl)) pe_int) pa_nil))))))))
            (pss_one (ps_ret (pv 6)))
            pss_nil)))))
        pss_nil)
      (pss_one (ps_ret pe_non)))))), ?_⟩
    have q0 : ∀ H', Same H H' → nextS sp d = none → Q .non H' := q0
    have q1 : ∀ (u : V) (e : S15) (H' : Hp), Same H H' → nextS sp d = some e → Dat H' u (sdt e) → Q u H' := q1
    have hv : Dat H v (sdt sp) := hv
    have hok : okS sp := hok
    cases sp with
    | leaf l =>
      obtain ⟨ds, el⟩ := ldt_hd l
      have hv' : Dat H v (.tuple (.str (hdL l) :: ds)) := by rw [← el]; exact hv
      obtain ⟨a0, ps, rfl, h0, _⟩ := tup_hd hv'
      refine ⟨_, rfl, a0, _, _, _, rfl, rfl, SqT.of h0, atI_nat (j := 0) rfl, ?_⟩
      refine ⟨_, rfl, (by show 2 ≤ sizeLine; decide), fun tp ntp => ⟨tp, _, rfl, .inr (SqT.of upd_same), rfl, rfl, _, rfl, ?_⟩⟩
      obtain ⟨z1, z2, z3⟩ := hd_no _ (hd_mem l)
      refine if_f z1 (if_f rfl ?_)
      refine ⟨_, rfl, rfl, _, rfl, if_f z2 (if_f rfl ?_)⟩
      refine ⟨_, rfl, rfl, _, rfl, if_f z3 (if_f rfl ?_)⟩
      exact q0 _ (same_new ntp) rfl
    | row c xs =>
      obtain ⟨a0, ps, rfl, h0, hps⟩ := tup_hd (show Dat H v (.tuple (.str (rowW c) :: [.tuple (xs.map ldt)])) from hv)
      obtain ⟨v1, rfl, e1⟩ := dat1 hps
      obtain ⟨b, ys, rfl, hb, hys⟩ : ∃ b ys, v1 = .ref b ∧ H b = some (.tup ys) ∧ DatAll H ys (xs.map ldt) := by
        cases e1 with
        | tup h1 h2 => exact ⟨_, _, rfl, h1, h2⟩
      have hl := hys.len
      rw [List.length_map] at hl
      refine ⟨_, rfl, a0, _, _, _, rfl, rfl, SqT.of h0, atI_nat (j := 0) rfl, ?_⟩
      refine ⟨_, rfl, (by show 2 ≤ sizeLine; decide), fun tp ntp => ⟨tp, _, rfl, .inr (SqT.of upd_same), rfl, rfl, _, rfl, ?_⟩⟩
      have S1 := same_new (o := HO.tup [.str "product", .str "choice"]) ntp
      have ein : inV (.str (rowW c)) [.str "product", .str "choice"] = true := by cases c <;> decide +kernel
      have ep : decide (V.str (rowW c) = V.str "power") = false := by cases c <;> decide +kernel
      have ed : decide (V.str (rowW c) = V.str "decorated") = false := by cases c <;> decide +kernel
      generalize upd H tp (.tup [.str "product", .str "choice"]) = H1 at S1 ⊢
      refine if_t ein ?_
      refine ⟨_, rfl, _, rfl, a0, _, _, _, rfl, rfl, SqT.of (S1 _ _ h0), atI_nat (j := 1) rfl, b, ys, rfl, .inr (SqT.of (S1 _ _ hb)), _, _, rfl, rfl, x, d, 0, _, rfl, hx.same S1, fun H2 S2 => ⟨_, rfl, ?_⟩⟩
      have S := S1.trans S2
      rw [hl]
      have nx : nextS (.row c xs) d = if btw 0 ((xs.length : Int) - 1) d = true then (xs[(intOf d).toNat]?).map S15.leaf else none := rfl
      cases hbt : btw 0 ((xs.length : Int) - 1) d with
      | true =>
        refine if_t rfl ?_
        obtain ⟨i, rfl, hi0, hi1⟩ := btw_int hbt
        cases hx
        rw [hbt, if_pos rfl] at nx
        have hi : i.toNat < xs.length := by omega
        have he : xs[i.toNat]? = some xs[i.toNat] := List.getElem?_eq_getElem hi
        obtain ⟨y, hy, dy⟩ := dats_get hys he
        have ei : (((i.toNat : Nat)) : Int) = i := Int.toNat_of_nonneg hi0
        refine ⟨_, rfl, a0, _, _, _, rfl, rfl, SqT.of (S _ _ h0), atI_nat (j := 1) rfl, _, rfl, b, ys, i, y, rfl, rfl, SqT.of (S _ _ hb), by rw [← ei]; exact atI_nat hy, ?_⟩
        refine q1 y (.leaf xs[i.toNat]) H2 S (nx.trans ?_) (dy.same S)
        show (xs[i.toNat]?).map S15.leaf = _
        rw [he]
        rfl
      | false =>
        rw [hbt, if_neg Bool.false_ne_true] at nx
        refine if_f rfl ?_
        refine ⟨_, rfl, rfl, _, rfl, if_f ep (if_f rfl ?_)⟩
        refine ⟨_, rfl, rfl, _, rfl, if_f ed (if_f rfl ?_)⟩
        exact q0 H2 S nx
    | pow n y =>
      obtain ⟨a0, ps, rfl, h0, hps⟩ := tup_hd (show Dat H v (.tuple (.str "power" :: [.int (n : Nat), ldt y])) from hv)
      obtain ⟨v1, y2, rfl, i1, dy⟩ := dat2 hps
      cases i1
      refine ⟨_, rfl, a0, _, _, _, rfl, rfl, SqT.of h0, atI_nat (j := 0) rfl, ?_⟩
      refine ⟨_, rfl, (by show 2 ≤ sizeLine; decide), fun tp ntp => ⟨tp, _, rfl, .inr (SqT.of upd_same), rfl, rfl, _, rfl, ?_⟩⟩
      have S1 := same_new (o := HO.tup [.str "product", .str "choice"]) ntp
      generalize upd H tp (.tup [.str "product", .str "choice"]) = H1 at S1 ⊢
      refine if_f (by decide +kernel) (if_f rfl ?_)
      refine ⟨_, rfl, rfl, _, rfl, if_t (by decide +kernel) ?_⟩
      refine ⟨_, rfl, _, rfl, a0, _, _, _, rfl, rfl, SqT.of (S1 _ _ h0), atI_nat (j := 1) rfl, _, _, rfl, rfl, x, d, 0, _, rfl, hx.same S1, fun H2 S2 => ⟨_, rfl, ?_⟩⟩
      have S := S1.trans S2
      have nx : nextS (.pow n y) d = if btw 0 ((n : Int) - 1) d = true then some (S15.leaf y) else none := rfl
      cases hbt : btw 0 ((n : Int) - 1) d with
      | true =>
        rw [hbt, if_pos rfl] at nx
        refine if_t rfl ⟨_, rfl, a0, _, _, y2, rfl, rfl, SqT.of (S _ _ h0), atI_nat (j := 2) rfl, ?_⟩
        exact q1 y2 (.leaf y) H2 S nx (dy.same S)
      | false =>
        rw [hbt, if_neg Bool.false_ne_true] at nx
        refine if_f rfl ?_
        refine ⟨_, rfl, rfl, _, rfl, if_f (by decide +kernel) (if_f rfl ?_)⟩
        exact q0 H2 S nx
    | dec cs xs =>
      have hlx : xs.length = cs.length := hok.2.1
      obtain ⟨a0, ps, rfl, h0, hps⟩ := tup_hd (show Dat H v (.tuple (.str "decorated" :: [cntsD cs, .tuple (xs.map ldt)])) from hv)
      obtain ⟨v1, v2, rfl, i1, i2⟩ := dat2 hps
      obtain ⟨bc, yc, rfl, hbc, hyc⟩ : ∃ bc yc, v1 = .ref bc ∧ H bc = some (.tup yc) ∧ DatAll H yc (cs.map cntD) := by
        cases i1 with
        | tup h1 h2 => exact ⟨_, _, rfl, h1, h2⟩
      obtain ⟨b, ys, rfl, hb, hys⟩ : ∃ b ys, v2 = .ref b ∧ H b = some (.tup ys) ∧ DatAll H ys (xs.map ldt) := by
        cases i2 with
        | tup h1 h2 => exact ⟨_, _, rfl, h1, h2⟩
      have hl := hys.len
      rw [List.length_map] at hl
      have hlc : yc.length = cs.length := by rw [hyc.len, List.length_map]
      refine ⟨_, rfl, a0, _, _, _, rfl, rfl, SqT.of h0, atI_nat (j := 0) rfl, ?_⟩
      refine ⟨_, rfl, (by show 2 ≤ sizeLine; decide), fun tp ntp => ⟨tp, _, rfl, .inr (SqT.of upd_same), rfl, rfl, _, rfl, ?_⟩⟩
      have S1 := same_new (o := HO.tup [.str "product", .str "choice"]) ntp
      generalize upd H tp (.tup [.str "product", .str "choice"]) = H1 at S1 ⊢
      refine if_f (by decide +kernel) (if_f rfl ?_)
      refine ⟨_, rfl, rfl, _, rfl, if_f (by decide +kernel) (if_f rfl ?_)⟩
      refine ⟨_, rfl, rfl, _, rfl, if_t (by decide +kernel) ?_⟩
      refine ⟨_, rfl, x, d, 2, 2, rfl, hx.same S1, fun H2 S2 => ⟨_, rfl, ?_⟩⟩
      have S := S1.trans S2
      have nx : nextS (.dec cs xs) d = nextDec (cs.zip xs) d := rfl
      cases ht : tupOf 2 2 d with
      | false =>
        exact if_f rfl (q0 H2 S (nx.trans (nextDec_none ht)))
      | true =>
        obtain ⟨l, o, rfl⟩ : ∃ l o, d = .tuple [l, o] := by
          obtain ⟨ds, rfl, h1, h2⟩ := tupOf_len ht
          match ds, h1, h2 with
          | [l, o], _, _ => exact ⟨l, o, rfl⟩
          | [], h1, _ => simp at h1
          | [_], h1, _ => simp at h1
          | _ :: _ :: _ :: _, _, h2 => simp at h2; omega
        refine if_t rfl ?_
        cases hx with
        | @tup ax zs _ hax hzs =>
          obtain ⟨xl, xo, rfl, dl, dO⟩ := dat2 hzs
          · refine ⟨_, rfl, ax, _, rfl, SqT.of (S _ _ hax), rfl, _, _, rfl, _, _, rfl, rfl, ?_⟩
            refine ⟨_, rfl, a0, _, _, _, rfl, rfl, SqT.of (S _ _ h0), atI_nat (j := 1) rfl, _, rfl, a0, _, _, _, rfl, rfl, SqT.of (S _ _ h0), atI_nat (j := 2) rfl, bc, b, yc, ys, rfl, .inr ⟨SqT.of (S _ _ hbc), SqT.of (S _ _ hb), RZ.for_zipT (K := K) (by rw [hlc, hl, hlx]) (fun i σ Hx => ∃ (w5 w6 : Option V), σ = [some (.ref a0), some (.ref ax), some (.str "decorated"), some xl, some xo, w5, w6] ∧ Same H Hx ∧ findDec (cs.zip xs) l o = findDec ((cs.zip xs).drop i) l o)
              ⟨none, none, rfl, S, rfl⟩ (fun i σ Hx ⟨_, _, _, Sx, _⟩ => ⟨SqT.of (Sx _ _ hbc), SqT.of (Sx _ _ hb)⟩) ?_ ?_⟩⟩
            · rintro i y1 y2 U σ Hx hi1 hi2 ⟨w5, w6, rfl, Sx, hf⟩ nU
              have Su := Sx.trans (same_new (o := HO.tup [y1, y2]) nU)
              refine ⟨U, _, rfl, SqT.of upd_same, rfl, _, _, rfl, _, _, rfl, rfl, ?_⟩
              obtain ⟨d1, hd1, t1⟩ := hyc.get hi1
              rw [List.getElem?_map] at hd1
              obtain ⟨cc, hcc, rfl⟩ := Option.map_eq_some_iff.mp hd1
              obtain ⟨bp, rfl, hbp⟩ := cnt_at t1
              have hlt : i < xs.length := by
                have := (List.getElem?_eq_some_iff.mp hi2).1
                omega
              have hxe : xs[i]? = some xs[i] := List.getElem?_eq_getElem hlt
              obtain ⟨y', hy', dy'⟩ := dats_get hys hxe
              rw [hi2] at hy'
              cases hy'
              have hz : (cs.zip xs)[i]? = some (cc, xs[i]) := by
                rw [List.getElem?_zip_eq_some]
                exact ⟨hcc, hxe⟩
              have hdrop : (cs.zip xs).drop i = (cc, xs[i]) :: (cs.zip xs).drop (i + 1) := by
                obtain ⟨hlt2, e⟩ := List.getElem?_eq_some_iff.mp hz
                rw [← e]
                exact List.drop_eq_getElem_cons hlt2
              have ff : findDec (cs.zip xs) l o = if (eqStr cc.1 l && btw 0 ((cc.2 : Int) - 1) o) = true then some (S15.leaf xs[i]) else findDec ((cs.zip xs).drop (i + 1)) l o := by
                rw [hf, hdrop, findDec]
              refine ⟨_, rfl, _, rfl, bp, _, _, _, rfl, rfl, SqT.of (Su _ _ hbp), atI_nat (j := 0) rfl, l, cc.1, dl.same Su, rfl, _, rfl, ?_⟩
              cases e1 : eqStr cc.1 l with
              | false =>
                rw [e1] at ff
                exact if_f rfl (if_f rfl ⟨_, _, rfl, Su, ff⟩)
              | true =>
                rw [e1] at ff
                refine if_t rfl ?_
                refine ⟨_, rfl, _, rfl, bp, _, _, _, rfl, rfl, SqT.of (Su _ _ hbp), atI_nat (j := 1) rfl, _, _, rfl, rfl, xo, o, 0, _, rfl, dO.same Su, fun H3 S3 => ⟨_, rfl, ?_⟩⟩
                have S3' := Su.trans S3
                cases e2 : btw 0 ((cc.2 : Int) - 1) o with
                | false =>
                  rw [e2] at ff
                  exact if_f rfl ⟨_, _, rfl, S3', ff⟩
                | true =>
                  rw [e2] at ff
                  exact if_t rfl ⟨_, rfl, q1 _ (.leaf xs[i]) H3 S3' (nx.trans ff) (dy'.same S3')⟩
            · rintro σ Hx ⟨w5, w6, rfl, Sx, hf⟩
              refine q0 Hx Sx (nx.trans (hf.trans ?_))
              have : (cs.zip xs).drop yc.length = [] := by
                rw [List.drop_eq_nil_iff, List.length_zip, hlc]
                omega
              rw [this]
              rfl
/-! ### is_question of these parts -/
def spQuestN (K : PySem.W.Frag) (dC : Addr) : Sp := fun vs H Q _ => ∃ (a0 b : Addr) (zk : Str) (ps xs : List V) (q : List PyData), vs = [.ref a0, .ref b] ∧ H a0 = some (.tup (.str zk :: ps)) ∧ PySem.W.nsIn K dC zk = some none ∧
  H b = some (.tup xs) ∧ DatAll H xs q ∧ ∀ H', Same H H' → Q (.bl false) H'
theorem ok_questN {f : Addr} {fd : FuncData} {dC : Addr} {S : Addr → Option Sp} (F : Fun K "is_question" "is_question" s_quest f fd) (T : Nm mg) (Z : ChkG P w K mg base dC S) : FnOk P w K mg base CX0 9 f fd ["part", "question"] (spQuestN K dC) := by
  obtain ⟨esC, nC, DC⟩ := Z.k
  refine F.ok sc_quest (fun vs H Q E h => ?_) (fun cdv A outer s H vs Q E hr h => ?_)
  · obtain ⟨a0, b, zk, ps, xs, q, rfl, _⟩ := h
    rfl
  · obtain ⟨a0, b, zk, ps, xs, qs, rfl, h0, hns, hb, hx, q⟩ := h
    refine ⟨_, (pss_cons (ps_set (i := 2) sc_quest.nd rfl (Or.inl rfl) (pe_ix ix_tup (pv 0) pe_int (fun _ _ => rfl)))
      (pss_cons (ps_if (PW.pt (pw_or (pt_cmpR op_eq (pe_callB call_len_seq (by rfl) T.len PySem.boot_len (pa_cons (pv 1) pa_nil)) pe_int (nomark _)) (pw_or (pt_not (pt_val (pe_callB call_isi (by rfl) T.isinstance boot_isinstance (pa_cons (pe_ix ix_tup (pv 1) pe_int (fun _ _ => rfl)) (pa_cons (pe_bltn (v := .ty "str") rfl T.str (by decide +kernel) rfl) pa_nil))))) (pw_or1 (pt_cmpR (op_notInKd (X := _) DC) (pv 2) (pe_glob (v := .ref dC) rfl Z.g rfl) rfl)))))
        (pss_one (ps_ret pe_bl))
        pss_nil)
      (pss_cons (ps_set (i := 3) sc_quest.nd rfl (Or.inl rfl) (pe_ix (ix_kd (X := _) DC) (pe_glob (v := .ref dC) rfl Z.g rfl) (pv 2) (fun _ _ => rfl)))
      (pss_one (ps_ret (pe_callA (i := 3) (S := S) Z.held hr rfl (Or.inl rfl) (pa_cons (pv 0) (pa_cons (pe_ix ix_tup (pv 1) pe_int (fun _ _ => rfl)) (pa_cons (pe_slice sl_tupA (pv 1) (po_some pe_int) po_none) pa_nil))))))))), ?_⟩
    have q0 := q H (Same.refl H)
    refine ⟨_, rfl, a0, _, _, _, rfl, rfl, SqT.of h0, atI_nat (j := 0) rfl, ?_⟩
    refine ⟨_, rfl, b, xs, rfl, .inr (SqT.of hb), rfl, _, rfl, ?_⟩
    cases hx with
    | nil => exact if_t rfl (if_t rfl q0)
    | @cons x0 xs' d0 qs' c0 cs =>
      refine if_f (decide_eq_false fun y => ?_) ?_
      · have := V.int.inj y
        rw [List.length_cons] at this
        omega
      refine ⟨_, rfl, b, _, _, x0, rfl, rfl, SqT.of hb, atI_nat (j := 0) rfl, x0, .ty "str", _, _, _, rfl, .ty _, c0.ty, kit_str _ d0, _, rfl, ?_⟩
      cases hs : isStr d0 with
      | false => exact if_t rfl (if_t rfl q0)
      | true =>
        refine if_f rfl ?_
        exact ⟨_, rfl, zk, _, rfl, rfl, hns, _, rfl, if_t rfl q0⟩
theorem fn_ex {ι : Type} {k : Nat} {f : Addr} {fd : FuncData} {ps : List Str} {sp : ι → Sp} (h : ∀ i, FnOk P w K mg base CX0 k f fd ps (sp i)) : FnOk P w K mg base CX0 k f fd ps (fun vs H Q E => ∃ i, sp i vs H Q E) :=
  ⟨fun vs H Q E ⟨i, q⟩ => (h i).len vs H Q E q, fun a b c d e f g i j k l m n ⟨t, q⟩ => (h t).run a b c d e f g i j k l m n q⟩
def aSub : Sp := fun vs H Q E => ∃ x : Nat × Nat, spQs (okSub x.1 x.2) (subsetB x.1 x.2) vs H Q E
def aWord : Sp := fun vs H Q E => ∃ cs : { cs : Cn // cs.length ≤ 100 }, spQs (okCnt cs.1) (wordB cs.1) vs H Q E
def aArr : Sp := fun vs H Q E => ∃ o : PyData, spQs (okArr o) (arrB o) vs H Q E
def aWalk : Sp := fun vs H Q E => ∃ x : Int × Int × Int, spQs (okWalk x.1 x.2.1 x.2.2) (walkB x.1 x.2.1 x.2.2) vs H Q E
def aCyc : Sp := fun vs H Q E => ∃ n : Int, spQs (okNum n) (cycleB n) vs H Q E
def aMat : Sp := fun vs H Q E => ∃ n : { n : Int // 0 ≤ n ∧ n ≤ 1000 }, spQs (okNum n.1) (matchB n.1) vs H Q E
def aPerm : Sp := fun vs H Q E => ∃ n : Int, spQs (okNum n) (permB n) vs H Q E
def aTree : Sp := fun vs H Q E => ∃ n : Int, spQs (okNum n) (treeB n) vs H Q E
def aStr : Sp := fun vs H Q E => ∃ n : Int, spQs (okStr n) (stringB n) vs H Q E
def aCho : Sp := spQs (fun _ _ => True) choiceB
structure Tab (P : Program) (w : World) (K : PySem.W.Frag) (mg : Str → Option Value) (base : Heap) (dC : Addr) (S : Addr → Option Sp) : Prop where
  Z : ChkG P w K mg base dC S
  n1 : PySem.W.nsIn K dC "product" = some none
  n2 : PySem.W.nsIn K dC "power" = some none
  s1 : ∃ fa : Addr, PySem.W.nsIn K dC "subset" = some (some (.ref fa)) ∧ S fa = some aSub
  s2 : ∃ fa : Addr, PySem.W.nsIn K dC "word" = some (some (.ref fa)) ∧ S fa = some aWord
  s3 : ∃ fa : Addr, PySem.W.nsIn K dC "arrangement" = some (some (.ref fa)) ∧ S fa = some aArr
  s4 : ∃ fa : Addr, PySem.W.nsIn K dC "walk" = some (some (.ref fa)) ∧ S fa = some aWalk
  s5 : ∃ fa : Addr, PySem.W.nsIn K dC "cycle" = some (some (.ref fa)) ∧ S fa = some aCyc
  s6 : ∃ fa : Addr, PySem.W.nsIn K dC "matching" = some (some (.ref fa)) ∧ S fa = some aMat
  s7 : ∃ fa : Addr, PySem.W.nsIn K dC "permutation" = some (some (.ref fa)) ∧ S fa = some aPerm
  s8 : ∃ fa : Addr, PySem.W.nsIn K dC "tree" = some (some (.ref fa)) ∧ S fa = some aTree
  s9 : ∃ fa : Addr, PySem.W.nsIn K dC "string" = some (some (.ref fa)) ∧ S fa = some aStr
  s10 : ∃ fa : Addr, PySem.W.nsIn K dC "choice" = some (some (.ref fa)) ∧ S fa = some aCho
  s11 : ∃ fa : Addr, PySem.W.nsIn K dC "decorated" = some (some (.ref fa)) ∧ S fa = some aWord
theorem ok_questI {f : Addr} {fd : FuncData} {dC : Addr} {S : Addr → Option Sp} (F : Fun K "is_question" "is_question" s_quest f fd) (T : Nm mg) (Z : Tab P w K mg base dC S) : FnOk P w K mg base CX0 9 f fd ["part", "question"] (spQuestI Y15) := by
  have G := fn_ex (P := P) (w := w) (K := K) (mg := mg) (base := base) (k := 9) (f := f) (fd := fd) (ps := ["part", "question"]) (sp := fun b : Bool => if b = true then spQuest K dC S else spQuestN K dC) fun b => by
    cases b with
    | true => exact ok_quest F T Z.Z
    | false => exact ok_questN F T Z.Z
  refine G.imp fun vs H Q E h => ?_
  obtain ⟨v, b, s, xs, q, rfl, hv, hok, hb, hx, hsh, k⟩ := h
  have hv : Dat H v (sdt s) := hv
  have hok : okS s := hok
  have k : ∀ H', Same H H' → Q (.bl (askQ (askS s) q)) H' := k
  have go : ∀ (fa : Addr) (zk : Str) (sq : Sp) (ok : Hp → List V → Prop) (g : Str → List PyData → Bool) (a0 : Addr) (ps : List V), askS s = g → v = .ref a0 → H a0 = some (.tup (.str zk :: ps)) → PySem.W.nsIn K dC zk = some (some (.ref fa)) → S fa = some sq → (∀ H', Same H H' → ok H' (.str zk :: ps)) → (∀ vs H Q E, spQs ok g vs H Q E → sq vs H Q E) →
      ∃ b0 : Bool, (if b0 = true then spQuest K dC S else spQuestN K dC) [v, .ref b] H Q E := fun fa zk sq ok g a0 ps hg hva h0 hn hS ho hsq => ⟨true, by
    rw [if_pos rfl]
    rw [hg] at k
    rw [hva]
    refine ⟨a0, b, fa, zk, ps, xs, q, sq, g, rfl, h0, hn, hS, fun z b2 xs' as H2 S2 hz hb2 hx2 hs2 k2 => hsq _ _ _ _ ?_, hb, hx, hsh, k⟩
    exact ⟨a0, b2, _, z, xs', as, rfl, S2 _ _ h0, ho H2 S2, hz, hb2, hx2, hs2, k2⟩⟩
  have no : ∀ (zk : Str) (a0 : Addr) (ps : List V), (∀ z as, askS s z as = false) → v = .ref a0 → H a0 = some (.tup (.str zk :: ps)) → PySem.W.nsIn K dC zk = some none →
      ∃ b0 : Bool, (if b0 = true then spQuest K dC S else spQuestN K dC) [v, .ref b] H Q E := fun zk a0 ps hg hva h0 hn => ⟨false, by
    rw [if_neg Bool.false_ne_true]
    rw [hva]
    refine ⟨a0, b, zk, ps, xs, q, rfl, h0, hn, hb, hx, fun H' S' => ?_⟩
    have z := k H' S'
    have e : askQ (askS s) q = false := by
      unfold askQ
      split
      · exact hg _ _
      · rfl
    rw [e] at z
    exact z⟩
  cases s with
  | leaf l =>
    cases l with
    | sub n m =>
      obtain ⟨fa, e1, e2⟩ := Z.s1
      obtain ⟨a0, ps, rfl, h0, hps⟩ := tup_hd (show Dat H v (.tuple (.str "subset" :: [.int (n : Nat), .int (m : Nat)])) from hv)
      obtain ⟨v1, v2, rfl, i1, i2⟩ := dat2 hps
      cases i1
      cases i2
      exact go fa _ _ _ _ a0 _ rfl rfl h0 e1 e2 (fun _ _ => ⟨_, rfl⟩) fun _ _ _ _ h => ⟨(n, m), h⟩
    | word cs =>
      obtain ⟨fa, e1, e2⟩ := Z.s2
      obtain ⟨a0, ps, rfl, h0, hps⟩ := tup_hd (show Dat H v (.tuple (.str "word" :: [cntsD cs])) from hv)
      obtain ⟨v1, rfl, i1⟩ := dat1 hps
      exact go fa _ _ _ _ a0 _ rfl rfl h0 e1 e2 (fun _ S' => ⟨_, _, _, rfl, i1.same S'⟩) fun _ _ _ _ h => ⟨⟨cs, hok⟩, h⟩
    | arr o =>
      obtain ⟨fa, e1, e2⟩ := Z.s3
      obtain ⟨a0, ps, rfl, h0, hps⟩ := tup_hd (show Dat H v (.tuple (.str "arrangement" :: [o])) from hv)
      obtain ⟨v1, rfl, i1⟩ := dat1 hps
      exact go fa _ _ _ _ a0 _ rfl rfl h0 e1 e2 (fun _ S' => ⟨_, _, _, rfl, i1.same S', hok⟩) fun _ _ _ _ h => ⟨o, h⟩
    | walk n s0 e0 lo hi =>
      obtain ⟨fa, e1, e2⟩ := Z.s4
      obtain ⟨a0, ps, rfl, h0, hps⟩ := tup_hd (show Dat H v (.tuple (.str "walk" :: [.int n, .int s0, .int e0, .int lo, .int hi])) from hv)
      match ps, hps, h0 with
      | _, .cons (.int _) (.cons (.int _) (.cons (.int _) (.cons (.int _) (.cons (.int _) .nil)))), h0 =>
        exact go fa _ _ _ _ a0 _ rfl rfl h0 e1 e2 (fun _ S' => ⟨_, _, _, rfl⟩) fun _ _ _ _ h => ⟨(n, s0, e0), h⟩
    | cyc n =>
      obtain ⟨fa, e1, e2⟩ := Z.s5
      obtain ⟨a0, ps, rfl, h0, hps⟩ := tup_hd (show Dat H v (.tuple (.str "cycle" :: [.int (n : Nat)])) from hv)
      obtain ⟨v1, rfl, i1⟩ := dat1 hps
      cases i1
      exact go fa _ _ _ _ a0 _ rfl rfl h0 e1 e2 (fun _ S' => ⟨_, _, rfl⟩) fun _ _ _ _ h => ⟨n, h⟩
    | mat n =>
      obtain ⟨fa, e1, e2⟩ := Z.s6
      obtain ⟨a0, ps, rfl, h0, hps⟩ := tup_hd (show Dat H v (.tuple (.str "matching" :: [.int (n : Nat)])) from hv)
      obtain ⟨v1, rfl, i1⟩ := dat1 hps
      cases i1
      have hok : n ≤ 1000 := hok
      exact go fa _ aMat (okNum (n : Int)) (matchB (n : Int)) a0 _ rfl rfl h0 e1 e2 (fun _ S' => ⟨_, _, rfl⟩) fun _ _ _ _ h => ⟨⟨(n : Int), by omega, by omega⟩, h⟩
    | perm n d =>
      obtain ⟨fa, e1, e2⟩ := Z.s7
      obtain ⟨a0, ps, rfl, h0, hps⟩ := tup_hd (show Dat H v (.tuple (.str "permutation" :: [.int (n : Nat), d])) from hv)
      obtain ⟨v1, v2, rfl, i1, i2⟩ := dat2 hps
      cases i1
      exact go fa _ _ _ _ a0 _ rfl rfl h0 e1 e2 (fun _ S' => ⟨_, _, rfl⟩) fun _ _ _ _ h => ⟨n, h⟩
    | tree n =>
      obtain ⟨fa, e1, e2⟩ := Z.s8
      obtain ⟨a0, ps, rfl, h0, hps⟩ := tup_hd (show Dat H v (.tuple (.str "tree" :: [.int (n : Nat)])) from hv)
      obtain ⟨v1, rfl, i1⟩ := dat1 hps
      cases i1
      exact go fa _ _ _ _ a0 _ rfl rfl h0 e1 e2 (fun _ S' => ⟨_, _, rfl⟩) fun _ _ _ _ h => ⟨n, h⟩
    | str n =>
      obtain ⟨fa, e1, e2⟩ := Z.s9
      obtain ⟨a0, ps, rfl, h0, hps⟩ := tup_hd (show Dat H v (.tuple (.str "string" :: [.tuple [.tuple movesD, .tuple [.int 0, .int 3]], .int (n : Nat)])) from hv)
      obtain ⟨v1, v2, rfl, i1, i2⟩ := dat2 hps
      cases i2
      exact go fa _ _ _ _ a0 _ rfl rfl h0 e1 e2 (fun _ S' => ⟨_, _, _, rfl⟩) fun _ _ _ _ h => ⟨n, h⟩
  | row c ls =>
    obtain ⟨a0, ps, rfl, h0, hps⟩ := tup_hd (show Dat H v (.tuple (.str (rowW c) :: [.tuple (ls.map ldt)])) from hv)
    cases c with
    | false => exact no _ a0 _ (fun _ _ => rfl) rfl h0 Z.n1
    | true =>
      obtain ⟨fa, e1, e2⟩ := Z.s10
      exact go fa _ _ _ choiceB a0 _ (by funext z as; exact Bool.true_and _) rfl h0 e1 e2 (fun _ S' => trivial) fun _ _ _ _ h => h
  | pow n l =>
    obtain ⟨a0, ps, rfl, h0, hps⟩ := tup_hd (show Dat H v (.tuple (.str "power" :: [.int (n : Nat), ldt l])) from hv)
    exact no _ a0 _ (fun _ _ => rfl) rfl h0 Z.n2
  | dec cs ls =>
    obtain ⟨fa, e1, e2⟩ := Z.s11
    obtain ⟨a0, ps, rfl, h0, hps⟩ := tup_hd (show Dat H v (.tuple (.str "decorated" :: [cntsD cs, .tuple (ls.map ldt)])) from hv)
    obtain ⟨v1, v2, rfl, i1, i2⟩ := dat2 hps
    exact go fa _ _ _ _ a0 _ rfl rfl h0 e1 e2 (fun _ S' => ⟨_, _, _, rfl, i1.same S'⟩) fun _ _ _ _ h => ⟨⟨cs, hok.1⟩, h⟩
end
end KF
set_option maxRecDepth 100000
set_option maxHeartbeats 8000000
namespace KF
open PySem PySem.Spec PyProof.Rows L2
/-! ### _law_many_names -/
abbrev s_many : Stmt := top 37
def abc : Str := "abcdefghijklmnopqrstuvwxyz"
def sig (i : Nat) : Str := ⟨#[97 + i]⟩
def mnN (k : Nat) : Str := ("n" : Str) ++ sig (k / 26 % 26) ++ sig (k % 26)
theorem abc_at : ∀ i : Fin 26, atI abc.cps.toList ((i.val : Nat) : Int) = some (97 + i.val) := by decide +kernel
theorem mn_name : ∀ i j : Fin 26, nameB (.str (("n" : Str) ++ sig i.val ++ sig j.val)) = true := by decide +kernel
theorem mnN_ok (k : Nat) : nameB (.str (mnN k)) = true := mn_name ⟨k / 26 % 26, Nat.mod_lt _ (by decide)⟩ ⟨k % 26, Nat.mod_lt _ (by decide)⟩
def spMany : Sp := fun vs H Q _ => ∃ n : Nat, vs = [.int (n : Nat)] ∧ n ≤ 1000 ∧ ∀ (t : Addr) (H' : Hp), H t = none → Same H H' → H' t = some (.lst ((List.range n).map fun k => V.str (mnN k))) → Q (.ref t) H'
section
variable {P : Program} {w : World} {K : PySem.W.Frag} {mg : Str → Option Value} {base : Heap}
theorem sc_many : FnScope ["_law_count", "_law_letters", "_law_k"] ["_law_count"] (defScope s_many) := ⟨rfl, rfl, rfl, by decide +kernel, rfl, by decide +kernel, by decide +kernel⟩
theorem ok_many {f : Addr} {fd : FuncData} (F : Fun K "_law_many_names" "_law_many_names" s_many f fd) (T : Nm mg) : FnOk P w K mg base CX0 1 f fd ["_law_count"] spMany := by
  refine F.ok sc_many (fun vs H Q E h => ?_) (fun cdv A outer s H vs Q E hr h => ?_)
  · obtain ⟨n, rfl, _⟩ := h
    rfl
  · obtain ⟨n, rfl, hn, k⟩ := h
    refine ⟨_, (pss_cons (ps_set (i := 1) sc_many.nd rfl (Or.inr rfl) pe_str)
      (pss_one (ps_ret (pe_lc (own := [("_law_k", 2)]) (g := (gName 2)) (tt := tYes) rfl sc_many.nd (pi_range1 rfl T.range (pa_cons (pv 0) pa_nil)) (blkOk_by (N := ["_law_count", "_law_letters", "_law_k"]) (sc := defScope s_many) (by decide +kernel))
          (fun _ _ _ _ _ => (pg_name (i := 2) sc_many.nd rfl (Or.inl rfl))) (fun _ _ _ _ _ => pts_nil) (fun _ _ _ _ _ => (pe_op op_add_str (pe_op op_add_str pe_str (pe_ix ix_str (pv 1) (pe_op op_mod (pe_op op_fdiv (pv 2) pe_int) pe_int) (fun _ _ => rfl))) (pe_ix ix_str (pv 1) (pe_op op_mod (pv 2) pe_int) (fun _ _ => rfl)))))))), ?_⟩
    refine ⟨_, rfl, ((n : Nat) : Int), rfl, by omega, by omega, fun M nM => lc_range (n := n) (fun j Hz => Same H Hz ∧ Hz M = some (.lst ((List.range j).map fun k => V.str (mnN k)))) ⟨same_new nM, upd_same⟩ ?_ ?_⟩
    · rintro j Hz hj ⟨S, hM⟩
      rw [show ((0 : Int) + (j : Nat)) = ((j : Nat) : Int) from Int.zero_add _]
      refine ⟨rfl, ?_⟩
      dsimp only [tYes]
      refine if_t rfl ⟨_, rfl, _, rfl, _, _, rfl, rfl, ⟨by decide, by decide⟩, _, _, rfl, rfl, (by show (0 : Int) < 26; decide), abc, ((j / 26 % 26 : Nat) : Int), 97 + j / 26 % 26, rfl, rfl, by decide, abc_at ⟨j / 26 % 26, Nat.mod_lt _ (by decide)⟩, "n", sig (j / 26 % 26), rfl, rfl, (by show 1 + 1 ≤ sizeLine; decide), ?_⟩
      refine ⟨_, rfl, _, rfl, _, _, rfl, rfl, (by show (0 : Int) < 26; decide), abc, ((j % 26 : Nat) : Int), 97 + j % 26, rfl, rfl, by decide, abc_at ⟨j % 26, Nat.mod_lt _ (by decide)⟩, ("n" : Str) ++ sig (j / 26 % 26), sig (j % 26), rfl, rfl, (by show 2 + 1 ≤ sizeLine; decide), ?_⟩
      refine ⟨_, hM, (by rw [List.length_map, List.length_range, sizeLine_eq]; omega), grow nM S, ?_⟩
      rw [upd_same, List.range_succ, List.map_append]
      rfl
    · rintro Hz ⟨S, hM⟩
      exact k M Hz nM S hM
end
end KF
set_option maxRecDepth 100000
set_option maxHeartbeats 8000000
namespace KF
open PySem PySem.Spec PyProof.Rows L2
/-! ### expressions that make data, apart from some places -/
def hid (hs : List Addr) (H : Hp) : Hp := fun b => if b ∈ hs then none else H b
def Liv (hs : List Addr) (H : Hp) : Prop := ∀ a ∈ hs, H a ≠ none
theorem hid_sub {hs : List Addr} {H : Hp} : Same (hid hs H) H := fun b o e => by
  unfold hid at e
  split at e
  · cases e
  · exact e
theorem hid_same {hs : List Addr} {H H' : Hp} (S : Same H H') : Same (hid hs H) (hid hs H') := fun b o e => by
  unfold hid at e ⊢
  split at e
  · cases e
  · rename_i h
    rw [if_neg h]
    exact S _ _ e
theorem hid_at {hs : List Addr} {H : Hp} {c : Addr} {o : HO} (h : H c = some o) (n : c ∉ hs) : hid hs H c = some o := by
  unfold hid
  rw [if_neg n]
  exact h
theorem hid_not {hs : List Addr} {H : Hp} {c : Addr} {o : HO} (h : hid hs H c = some o) : c ∉ hs := fun z => by
  unfold hid at h
  rw [if_pos z] at h
  cases h
theorem hid_more {hs ks : List Addr} {H : Hp} (h : ∀ a ∈ ks, a ∈ hs) : Same (hid hs H) (hid ks H) := fun b o e => hid_at (hid_sub _ _ e) fun z => hid_not e (h b z)
theorem hid_nil {H : Hp} : hid [] H = H := by
  funext b
  unfold hid
  rw [if_neg (List.not_mem_nil)]
theorem hid_hide {p q : Addr} {H : Hp} : hid [p, q] H = hide p q H := by
  funext b
  unfold hid hide
  by_cases h : b = p ∨ b = q
  · rw [if_pos h, if_pos (by simpa using h)]
  · rw [if_neg h, if_neg (by simpa using h)]
theorem Liv.same {hs : List Addr} {H H' : Hp} (l : Liv hs H) (S : Same H H') : Liv hs H' := fun a h => live_same (l a h) S
theorem Liv.new {hs : List Addr} {H : Hp} {a : Addr} (l : Liv hs H) (n : H a = none) : a ∉ hs := fun h => l a h n
theorem liv_nil {H : Hp} : Liv [] H := fun a h => by cases h
theorem hid_fresh {hs : List Addr} {H : Hp} {a : Addr} {o : HO} (l : Liv hs H) (n : H a = none) : hid hs (upd H a o) a = some o := hid_at upd_same (l.new n)
theorem hid_upd {hs : List Addr} {H : Hp} {a : Addr} {o : HO} (h : a ∈ hs) : hid hs (upd H a o) = hid hs H := by
  funext b
  unfold hid
  by_cases e : b ∈ hs
  · rw [if_pos e, if_pos e]
  · rw [if_neg e, if_neg e, upd_ne (fun z => e (by rw [z]; exact h))]
/-! data apart from lists that it does not know -/
mutual
theorem dat_hid {H : Hp} {hs : List Addr} (h : ∀ a ∈ hs, ∃ xs, H a = some (.lst xs)) : ∀ {v : V} {d : PyData}, Dat H v d → noL d = true → Dat (hid hs H) v d
  | _, _, .non, _ => .non
  | _, _, .bl b, _ => .bl b
  | _, _, .int i, _ => .int i
  | _, _, .str x hx, _ => .str x hx
  | _, _, .lst _ _, z => by simp [noL] at z
  | _, _, .d0 _, z => by simp [noL] at z
  | _, _, .tup (a := a) e t, z => .tup (hid_at e fun y => by
      obtain ⟨xs, hxs⟩ := h a y
      rw [hxs] at e
      cases e) (datAll_hid h t (by simpa only [noL] using z))
theorem datAll_hid {H : Hp} {hs : List Addr} (h : ∀ a ∈ hs, ∃ xs, H a = some (.lst xs)) : ∀ {vs : List V} {ds : List PyData}, DatAll H vs ds → noLs ds = true → DatAll (hid hs H) vs ds
  | _, _, .nil, _ => .nil
  | _, _, .cons (d := d) (ds := ds) a t, z => by
    have z' : noL d = true ∧ noLs ds = true := by simpa only [noLs, Bool.and_eq_true] using z
    exact .cons (dat_hid h a z'.1) (datAll_hid h t z'.2)
end
abbrev RD : Type := List Addr → L2.St → Hp → PyData → Prop
abbrev RDs : Type := List Addr → L2.St → Hp → List PyData → Prop
def tR (R : RD) : TE := fun σ H Q => ∃ hs d, Liv hs H ∧ R hs σ H d ∧ ∀ v H', Same H H' → Dat (hid hs H') v d → Q v H'
def tRs (R : RDs) : TA := fun σ H Q => ∃ hs ds, Liv hs H ∧ R hs σ H ds ∧ ∀ vs H', Same H H' → DatAll (hid hs H') vs ds → Q vs H'
def Mo (R : RD) : Prop := ∀ hs σ H H' d, Same H H' → R hs σ H d → R hs σ H' d
structure PR (X : Cx) (e : Expr) (R : RD) : Prop where
  pe : PE X e (tR R)
  mo : Mo R
structure PRs (X : Cx) (es : List Expr) (R : RDs) : Prop where
  pa : PA X es (tRs R)
  mo : ∀ hs σ H H' ds, Same H H' → R hs σ H ds → R hs σ H' ds
def rC (c : PyData) : RD := fun _ _ _ d => d = c
def rV (i : Nat) : RD := fun hs σ H d => ∃ v, σ[i]? = some (some v) ∧ Dat (hid hs H) v d
def rT (R : RDs) : RD := fun hs σ H d => ∃ ds, d = .tuple ds ∧ ds.length ≤ 1000 ∧ R hs σ H ds
def rL (R : RDs) : RD := fun hs σ H d => ∃ ds, d = .list ds ∧ ds.length ≤ 1000 ∧ R hs σ H ds
def rAdd (R S : RD) : RD := fun hs σ H d => ∃ i j : Int, d = .int (i + j) ∧ R hs σ H (.int i) ∧ S hs σ H (.int j)
def rSub (R S : RD) : RD := fun hs σ H d => ∃ i j : Int, d = .int (i - j) ∧ R hs σ H (.int i) ∧ S hs σ H (.int j)
def rDiv2 (R : RD) : RD := fun hs σ H d => ∃ i : Int, d = .int (i / 2) ∧ R hs σ H (.int i)
def rNil : RDs := fun _ _ _ ds => ds = []
def rCons (R : RD) (S : RDs) : RDs := fun hs σ H ds => ∃ d es, ds = d :: es ∧ R hs σ H d ∧ S hs σ H es
section
variable {X : Cx} {e e2 : Expr} {es : List Expr} {R S : RD} {RS : RDs} {pos : Pos}
theorem pr_of {v : V} {d : PyData} (a : PE X e (tC v)) (h : ∀ H : Hp, Dat H v d) : PR X e (rC d) := ⟨pe_weak a fun σ H Q ⟨hs, d', l, r, k⟩ => k v H (Same.refl H) (by rw [show d' = d from r]; exact h _), fun _ _ _ _ _ _ r => r⟩
theorem pr_none (a : PE X e (tC .non)) : PR X e (rC .none) := pr_of a fun _ => .non
theorem pr_bool {b : Bool} (a : PE X e (tC (.bl b))) : PR X e (rC (.bool b)) := pr_of a fun _ => .bl b
theorem pr_int {i : Int} (a : PE X e (tC (.int i))) : PR X e (rC (.int i)) := pr_of a fun _ => .int i
theorem pr_str {x : Str} (hx : x.length ≤ 1000) (a : PE X e (tC (.str x))) : PR X e (rC (.str x)) := pr_of a fun _ => .str x hx
theorem pr_neg {i : Int} (a : PE X e (tC (.int i))) : PR X (.UnaryOp .USub e pos) (rC (.int (-i))) :=
  ⟨pe_weak (pe_un un_neg a) fun σ H Q ⟨hs, d', l, r, k⟩ => ⟨i, rfl, k _ H (Same.refl H) (by rw [show d' = _ from r]; exact .int _)⟩, fun _ _ _ _ _ _ r => r⟩
theorem pr_pow {i : Int} {j : Nat} (hi : i.natAbs < 2 ^ 64) (hj : j ≤ 1000000) (a : PE X (.BinOp e .Pow e2 pos) (tOp (rI CPow fun i j => .int (i ^ j.toNat)) (tC (.int i)) (tC (.int (j : Nat))))) : PR X (.BinOp e .Pow e2 pos) (rC (.int (i ^ j))) :=
  ⟨pe_weak a fun σ H Q ⟨hs, d', l, r, k⟩ => ⟨i, ((j : Nat) : Int), rfl, rfl, ⟨by omega, by omega, hi⟩, k _ H (Same.refl H) (by
    rw [show d' = _ from r]
    show Dat _ (V.int (i ^ ((j : Nat) : Int).toNat)) _
    rw [Int.toNat_natCast]
    exact .int _)⟩, fun _ _ _ _ _ _ r => r⟩
theorem pr_var {i : Nat} (a : PE X e (tVar i)) : PR X e (rV i) := ⟨pe_weak a fun σ H Q ⟨hs, d, l, ⟨v, hv, dv⟩, k⟩ => ⟨v, hv, k v H (Same.refl H) dv⟩, fun _ _ _ _ _ Sm ⟨v, hv, dv⟩ => ⟨v, hv, dv.same (hid_same Sm)⟩⟩
theorem dat_int {H : Hp} {v : V} {i : Int} (h : Dat H v (.int i)) : v = .int i := by
  cases h
  rfl
theorem pr_add (a : PR X e R) (b : PR X e2 S) : PR X (.BinOp e .Add e2 pos) (rAdd R S) :=
  ⟨pe_weak (pe_op op_add a.pe b.pe) fun σ H Q ⟨hs, d, l, ⟨i, j, hd, ri, rj⟩, k⟩ => ⟨hs, _, l, ri, fun v H1 S1 dv => ⟨hs, _, l.same S1, b.mo _ _ _ _ _ S1 rj, fun w H2 S2 dw => ⟨i, j, dat_int dv, dat_int dw, k _ H2 (S1.trans S2) (by rw [hd]; exact .int _)⟩⟩⟩,
   fun _ _ _ _ _ Sm ⟨i, j, hd, ri, rj⟩ => ⟨i, j, hd, a.mo _ _ _ _ _ Sm ri, b.mo _ _ _ _ _ Sm rj⟩⟩
theorem pr_sub (a : PR X e R) (b : PR X e2 S) : PR X (.BinOp e .Sub e2 pos) (rSub R S) :=
  ⟨pe_weak (pe_op op_sub a.pe b.pe) fun σ H Q ⟨hs, d, l, ⟨i, j, hd, ri, rj⟩, k⟩ => ⟨hs, _, l, ri, fun v H1 S1 dv => ⟨hs, _, l.same S1, b.mo _ _ _ _ _ S1 rj, fun w H2 S2 dw => ⟨i, j, dat_int dv, dat_int dw, k _ H2 (S1.trans S2) (by rw [hd]; exact .int _)⟩⟩⟩,
   fun _ _ _ _ _ Sm ⟨i, j, hd, ri, rj⟩ => ⟨i, j, hd, a.mo _ _ _ _ _ Sm ri, b.mo _ _ _ _ _ Sm rj⟩⟩
theorem pr_div2 (a : PR X e R) (b : PE X e2 (tC (.int 2))) : PR X (.BinOp e .FloorDiv e2 pos) (rDiv2 R) :=
  ⟨pe_weak (pe_op op_fdiv a.pe b) fun σ H Q ⟨hs, d, l, ⟨i, hd, ri⟩, k⟩ => ⟨hs, _, l, ri, fun v H1 S1 dv => ⟨i, 2, dat_int dv, rfl, ⟨by decide, by decide⟩, k _ H1 S1 (by rw [hd]; exact .int _)⟩⟩,
   fun _ _ _ _ _ Sm ⟨i, hd, ri⟩ => ⟨i, hd, a.mo _ _ _ _ _ Sm ri⟩⟩
theorem pr_nil : PRs X [] rNil := ⟨pa_weak pa_nil fun σ H Q ⟨hs, ds, l, r, k⟩ => k [] H (Same.refl H) (by rw [show ds = [] from r]; exact .nil), fun _ _ _ _ _ _ r => r⟩
theorem pr_cons (a : PR X e R) (b : PRs X es RS) (hs : starEach (e :: es) X.env = (false, eval e X.env) :: starEach es X.env := by rfl) : PRs X (e :: es) (rCons R RS) :=
  ⟨pa_weak (pa_cons a.pe b.pa hs) fun σ H Q ⟨hs, ds, l, ⟨d, es', hd, r1, r2⟩, k⟩ => ⟨hs, d, l, r1, fun v H1 S1 dv => ⟨hs, es', l.same S1, b.mo _ _ _ _ _ S1 r2, fun vs H2 S2 dvs => k (v :: vs) H2 (S1.trans S2) (by rw [hd]; exact .cons (dv.same (hid_same S2)) dvs)⟩⟩,
   fun _ _ _ _ _ Sm ⟨d, es', hd, r1, r2⟩ => ⟨d, es', hd, a.mo _ _ _ _ _ Sm r1, b.mo _ _ _ _ _ Sm r2⟩⟩
theorem pr_tup {ctx : Nat} (a : PRs X es RS) : PR X (.Tuple es ctx pos) (rT RS) :=
  ⟨pe_weak (pe_tup a.pa) fun σ H Q ⟨hs, d, l, ⟨ds, hd, hl, r⟩, k⟩ => ⟨hs, ds, l, r, fun vs H1 S1 dvs => ⟨by rw [dvs.len, sizeLine_eq]; omega, fun c nc => k (.ref c) _ (S1.trans (same_new nc)) (by rw [hd]; exact .tup (hid_fresh (l.same S1) nc) (dvs.same (hid_same (same_new nc))))⟩⟩,
   fun _ _ _ _ _ Sm ⟨ds, hd, hl, r⟩ => ⟨ds, hd, hl, a.mo _ _ _ _ _ Sm r⟩⟩
theorem pr_lst (a : PRs X es RS) : PR X (.List es pos) (rL RS) :=
  ⟨pe_weak (pe_lst a.pa) fun σ H Q ⟨hs, d, l, ⟨ds, hd, hl, r⟩, k⟩ => ⟨hs, ds, l, r, fun vs H1 S1 dvs => ⟨by rw [dvs.len, sizeLine_eq]; omega, fun c nc => k (.ref c) _ (S1.trans (same_new nc)) (by rw [hd]; exact .lst (hid_fresh (l.same S1) nc) (dvs.same (hid_same (same_new nc))))⟩⟩,
   fun _ _ _ _ _ Sm ⟨ds, hd, hl, r⟩ => ⟨ds, hd, hl, a.mo _ _ _ _ _ Sm r⟩⟩
end
/-- a list whose items are known, new: for lists that are walked or grow -/
def tRN (R : RDs) : TE := fun σ H Q => ∃ hs ds, Liv hs H ∧ ds.length ≤ 1000 ∧ R hs σ H ds ∧ ∀ (a : Addr) (xs : List V) (H' : Hp), H a = none → Same H H' → H' a = some (.lst xs) → DatAll (hid (a :: hs) H') xs ds → Q (.ref a) H'
theorem dat_off {H : Hp} {hs : List Addr} {a : Addr} {o : HO} {vs : List V} {ds : List PyData} (d : DatAll (hid hs H) vs ds) (n : H a = none) : DatAll (hid (a :: hs) (upd H a o)) vs ds :=
  d.same fun b u e => by
    have hb := hid_sub _ _ e
    have ne := ne_of_none hb n
    exact hid_at (by rw [upd_ne ne]; exact hb) (by
      rw [List.mem_cons]
      rintro (z | z)
      · exact ne z
      · exact hid_not e z)
theorem pr_lstN {X : Cx} {es : List Expr} {RS : RDs} {pos : Pos} (a : PRs X es RS) : PE X (.List es pos) (tRN RS) :=
  pe_weak (pe_lst a.pa) fun σ H Q ⟨hs, ds, l, hl, r, k⟩ => ⟨hs, ds, l, r, fun vs H1 S1 dvs => ⟨by rw [dvs.len, sizeLine_eq]; omega, fun c nc => k c vs _ (by
    cases e : H c with
    | none => rfl
    | some o => rw [S1 _ _ e] at nc; cases nc) (S1.trans (same_new nc)) upd_same (dat_off dvs nc)⟩⟩
end KF
set_option maxRecDepth 100000
set_option maxHeartbeats 8000000
namespace KF
open PySem PySem.Spec PyProof.Rows L2
/-! ### _law_order -/
abbrev s_order : Stmt := top 38
def itemD (x : Str) : PyData := .tuple [.str "item", .str x]
def joinD (w : Str) (ds : List PyData) : PyData := .tuple [.str w, .tuple ds]
def isSP (w : Str) : Prop := w = "series" ∨ w = "parallel"
theorem item_order (n : Nat) {x : Str} (h : nameB (.str x) = true) : orderB (n + 1) (itemD x) = true := by
  rw [orderB]
  have e1 : tupOf 2 2 (itemD x) = true := rfl
  have e2 : eqStr "item" (at0 (tupItems (itemD x)) 0) = true := by
    show (("item" : Str) == "item") = true
    decide +kernel
  rw [e1, e2, if_pos rfl, Bool.true_and]
  exact h
theorem item_names (n : Nat) (x : Str) : namesN (n + 1) (itemD x) = [x] := by
  rw [namesN]
  have e2 : eqStr "item" (at0 (tupItems (itemD x)) 0) = true := by
    show (("item" : Str) == "item") = true
    decide +kernel
  rw [e2, if_pos rfl]
  rfl
theorem join_order (n : Nat) {w : Str} (hw : isSP w) {ds : List PyData} (h2 : 2 ≤ ds.length) (h6 : ds.length ≤ 6) (h : ∀ d ∈ ds, orderB n d = true) : orderB (n + 1) (joinD w ds) = true := by
  rw [orderB]
  have e1 : tupOf 2 2 (joinD w ds) = true := rfl
  have e2 : eqStr "item" (at0 (tupItems (joinD w ds)) 0) = false := by
    rcases hw with rfl | rfl
    · show (("series" : Str) == "item") = false
      decide +kernel
    · show (("parallel" : Str) == "item") = false
      decide +kernel
  have e3 : (eqStr "series" (at0 (tupItems (joinD w ds)) 0) || eqStr "parallel" (at0 (tupItems (joinD w ds)) 0)) = true := by
    rcases hw with rfl | rfl
    · show ((("series" : Str) == "series") || (("series" : Str) == "parallel")) = true
      decide +kernel
    · show ((("parallel" : Str) == "series") || (("parallel" : Str) == "parallel")) = true
      decide +kernel
  have e4 : tupOf 2 6 (at0 (tupItems (joinD w ds)) 1) = true := by
    show (decide ((2 : Int) ≤ (ds.length : Int)) && decide ((ds.length : Int) ≤ 6)) = true
    rw [decide_eq_true (by omega), decide_eq_true (by omega)]
    rfl
  have e5 : (tupItems (at0 (tupItems (joinD w ds)) 1)).all (orderB n) = true := by
    show ds.all (orderB n) = true
    exact List.all_eq_true.mpr h
  rw [e1, e2, if_neg Bool.false_ne_true, e3, e4, e5]
  rfl
theorem join_names (n : Nat) {w : Str} (hw : isSP w) (ds : List PyData) : namesN (n + 1) (joinD w ds) = ds.flatMap (namesN n) := by
  rw [namesN]
  have e2 : eqStr "item" (at0 (tupItems (joinD w ds)) 0) = false := by
    rcases hw with rfl | rfl
    · show (("series" : Str) == "item") = false
      decide +kernel
    · show (("parallel" : Str) == "item") = false
      decide +kernel
  rw [e2, if_neg Bool.false_ne_true]
  rfl
theorem cut_from {xs : List V} {n m : Nat} : cutV xs (some (n : Int)) (some (m : Int)) = (xs.take m).drop n := by
  unfold cutV
  have e1 : HT.sIx xs.length 0 (some (n : Int)) = min n xs.length := HT.sIx_nat xs.length _ n
  have e2 : HT.sIx xs.length xs.length (some (m : Int)) = min m xs.length := HT.sIx_nat xs.length _ m
  rw [e1, e2, List.drop_take]
  by_cases h : n ≤ xs.length
  · rw [Nat.min_eq_left h]
    rw [List.take_eq_take_iff, List.length_drop]
    omega
  · have a1 : xs.drop n = [] := List.drop_eq_nil_of_le (by omega)
    have a2 : min n xs.length = xs.length := by omega
    rw [a2, List.drop_length, a1, List.take_nil, List.take_nil]
def chunk (sz : Nat) (ns : List Str) (j : Nat) : List Str := (ns.take (j * sz + sz)).drop (j * sz)
def sizeN (n : Nat) : Nat := (n + 5) / 6
def countN (n : Nat) : Nat := (n + sizeN n - 1) / sizeN n
def wordN (e : Nat) : Str := if e % 2 = 0 then "parallel" else "series"
def ordD : Nat → List Str → Nat → PyData
  | 0, _, _ => .none
  | k + 1, ns, e => if ns.length = 1 then itemD (ns.headD Str.empty) else joinD (wordN e) ((List.range (countN ns.length)).map fun j => ordD k (chunk (sizeN ns.length) ns j) (e + 1))
def limT : Nat → Nat
  | 0 => 1
  | k + 1 => 6 * limT k
theorem chunk_len {sz : Nat} {ns : List Str} {j : Nat} (h : j * sz < ns.length) (hs : 1 ≤ sz) : 1 ≤ (chunk sz ns j).length ∧ (chunk sz ns j).length ≤ sz := by
  unfold chunk
  rw [List.length_drop, List.length_take]
  omega
theorem chunk_mem {sz : Nat} {ns : List Str} {j : Nat} {x : Str} (h : x ∈ chunk sz ns j) : x ∈ ns := List.mem_of_mem_take (List.mem_of_mem_drop h)
theorem chunk_all (sz : Nat) (ns : List Str) : ∀ m : Nat, (List.range m).flatMap (chunk sz ns) = ns.take (m * sz)
  | 0 => by simp
  | m + 1 => by
    rw [List.range_succ, List.flatMap_append, chunk_all sz ns m, List.flatMap_singleton]
    unfold chunk
    have e : ns.take (m * sz) = (ns.take (m * sz + sz)).take (m * sz) := by
      rw [List.take_take]
      congr 1
      omega
    rw [e, List.take_append_drop, Nat.succ_mul]
theorem rg_size : ∀ n : Fin 1001, 1 ≤ n.val → ((sizeN n.val : Nat) : Int) ≠ 0 ∧ ((sizeN n.val : Nat) : Int).natAbs < 1073741824 ∧ Builtin.Range.small 0 ((n.val : Nat) : Int) ((sizeN n.val : Nat) : Int) = true ∧ Builtin.Range.rangeSize 0 ((n.val : Nat) : Int) ((sizeN n.val : Nat) : Int) = ((countN n.val : Nat) : Int) := by decide +kernel
theorem cn_size : ∀ n : Fin 1001, 1 ≤ n.val → 1 ≤ sizeN n.val ∧ countN n.val ≤ 6 ∧ ∀ j : Fin 7, j.val < countN n.val → j.val * sizeN n.val < n.val := by decide +kernel
theorem cn_more : ∀ n : Fin 1001, 2 ≤ n.val → 2 ≤ countN n.val ∧ n.val ≤ countN n.val * sizeN n.val := by decide +kernel
theorem word_sp (e : Nat) : isSP (wordN e) := by
  unfold wordN
  split
  · exact .inr rfl
  · exact .inl rfl
theorem word_len (e : Nat) : (wordN e).length ≤ 1000 := by
  unfold wordN
  split <;> decide
theorem flat_congr {α β : Type} {f g : α → List β} : ∀ {l : List α}, (∀ x ∈ l, f x = g x) → l.flatMap f = l.flatMap g
  | [], _ => rfl
  | a :: l, h => by rw [List.flatMap_cons, List.flatMap_cons, h a List.mem_cons_self, flat_congr fun x hx => h x (List.mem_cons_of_mem _ hx)]
theorem ord_ok : ∀ (k : Nat) (ns : List Str) (e : Nat), 1 ≤ ns.length → ns.length ≤ limT k → ns.length ≤ 1000 → (∀ x ∈ ns, nameB (.str x) = true) → orderB (k + 1) (ordD (k + 1) ns e) = true ∧ namesN (k + 1) (ordD (k + 1) ns e) = ns := by
  intro k
  induction k with
  | zero =>
    intro ns e h1 h2 h3 hn
    obtain ⟨x, rfl⟩ : ∃ x, ns = [x] := List.length_eq_one_iff.mp (by rw [limT] at h2; omega)
    rw [ordD, if_pos (show [x].length = 1 from rfl)]
    exact ⟨item_order 0 (hn x (by simp)), item_names 0 x⟩
  | succ k ih =>
    intro ns e h1 h2 h3 hn
    rw [ordD]
    by_cases e1 : ns.length = 1
    · rw [if_pos e1]
      obtain ⟨x, rfl⟩ : ∃ x, ns = [x] := List.length_eq_one_iff.mp e1
      exact ⟨item_order _ (hn x (by simp)), item_names _ x⟩
    · rw [if_neg e1]
      obtain ⟨c1, c6, cj⟩ := cn_size ⟨ns.length, by omega⟩ h1
      obtain ⟨d2, dn⟩ := cn_more ⟨ns.length, by omega⟩ (by show 2 ≤ ns.length; omega)
      dsimp only at c1 c6 cj d2 dn
      have hsz : sizeN ns.length ≤ limT k := by
        unfold sizeN
        rw [limT] at h2
        omega
      have hsz2 : sizeN ns.length ≤ 1000 := by
        unfold sizeN
        omega
      have each : ∀ j, j < countN ns.length → orderB (k + 1) (ordD (k + 1) (chunk (sizeN ns.length) ns j) (e + 1)) = true ∧ namesN (k + 1) (ordD (k + 1) (chunk (sizeN ns.length) ns j) (e + 1)) = chunk (sizeN ns.length) ns j := fun j hj => by
        obtain ⟨l1, l2⟩ := chunk_len (sz := sizeN ns.length) (ns := ns) (j := j) (cj ⟨j, by omega⟩ hj) c1
        exact ih _ _ l1 (by omega) (by omega) fun x hx => hn x (chunk_mem hx)
      refine ⟨join_order _ (word_sp e) (by rw [List.length_map, List.length_range]; exact d2) (by rw [List.length_map, List.length_range]; exact c6) fun d hd => ?_, ?_⟩
      · obtain ⟨j, hj, rfl⟩ := List.mem_map.mp hd
        exact (each j (List.mem_range.mp hj)).1
      · rw [join_names _ (word_sp e), List.flatMap_map, flat_congr (g := chunk (sizeN ns.length) ns) fun j hj => (each j (List.mem_range.mp hj)).2, chunk_all, List.take_of_length_le dn]
theorem ord_noL : ∀ (k : Nat) (ns : List Str) (e : Nat), noL (ordD k ns e) = true
  | 0, _, _ => rfl
  | k + 1, ns, e => by
    rw [ordD]
    split
    · rfl
    · unfold joinD
      rw [noL, noLs, noLs, noLs, noL, noL, Bool.true_and, Bool.and_true]
      refine noLs_iff.mpr fun d hd => ?_
      obtain ⟨j, _, rfl⟩ := List.mem_map.mp hd
      exact ord_noL k _ _
def spOrd (k : Nat) : Sp := fun vs H Q _ => ∃ (t : Addr) (ns : List Str) (e : Nat), vs = [.ref t, .int (e : Nat)] ∧ H t = some (.lst (ns.map .str)) ∧ 1 ≤ ns.length ∧ ns.length ≤ limT k ∧ ns.length ≤ 1000 ∧ (∀ x ∈ ns, x.length ≤ 1000) ∧ ∀ (v : V) (H' : Hp), Same H H' → Dat H' v (ordD (k + 1) ns e) → Q v H'
section
variable {P : Program} {w : World} {K : PySem.W.Frag} {mg : Str → Option Value} {base : Heap}
theorem sc_order : FnScope ["_law_names", "_law_depth", "_law_size_here", "_law_groups", "_law_k", "_law_group"] ["_law_names", "_law_depth"] (defScope s_order) := ⟨rfl, rfl, rfl, by decide +kernel, rfl, by decide +kernel, by decide +kernel⟩
theorem od_body {f : Addr} {fd : FuncData} {sp : Sp} (k : Nat) (F : Fun K "_law_order" "_law_order" s_order f fd) (bs : L2.Binds K fd ["_law_names", "_law_depth"] []) (g : mg "_law_order" = some (.ref f)) (G : ∀ base : Heap, FnOk P w K mg base CX0 k f fd ["_law_names", "_law_depth"] sp) (T : Nm mg)
    (hn : ∀ M, k = M + 1 → ∀ vs H Q E, spOrd M vs H Q E → sp vs H Q E) : FnOk P w K mg base CX0 (1 + k) f fd ["_law_names", "_law_depth"] (spOrd k) := by
  rw [show 1 + k = k + 1 by omega]
  refine F.ok sc_order (fun vs H Q E h => ?_) (fun cdv A outer s H vs Q E hr h => ?_)
  · obtain ⟨t, ns, e, rfl, _⟩ := h
    rfl
  · obtain ⟨t, ns, dp, rfl, ht, h1, hk, hk2, hns, q⟩ := h
    refine ⟨_, (pss_cons (ps_if (pt_cmpR op_eq (pe_callB call_len_seq (by rfl) T.len PySem.boot_len (pa_cons (pv 0) pa_nil)) pe_int (nomark _))
        (pss_one (ps_ret (pe_tup (pa_cons pe_str (pa_cons (pe_ix ix_list (pv 0) pe_int (fun _ _ => rfl)) pa_nil)))))
        pss_nil)
      (pss_cons (ps_set (i := 2) sc_order.nd rfl (Or.inr rfl) (pe_op op_fdiv (pe_op op_add (pe_callB call_len_seq (by rfl) T.len PySem.boot_len (pa_cons (pv 0) pa_nil)) pe_int) pe_int))
      (pss_cons (ps_setLc (i := 3) (own := [("_law_k", 4)]) (g := (gName 4)) (tt := tYes) (te := tSl (rSlL K) (tVar 0) (tPart (tVar 4)) (tPart (tOp (fun x y H Q => ∃ n m : Nat, x = V.int (n : Int) ∧ y = V.int (m : Int) ∧ Q (V.int ((n + m : Nat) : Int)) H) (tVar 4) (tVar 2)))) rfl sc_order.nd rfl rfl (sw_true rfl rfl rfl (by decide +kernel)) (pi_range3 rfl T.range (pa_cons pe_int (pa_cons (pe_callB call_len_seq (by rfl) T.len PySem.boot_len (pa_cons (pv 0) pa_nil)) (pa_cons (pv 2) pa_nil)))) (blkOk_by (N := ["_law_names", "_law_depth", "_law_size_here", "_law_groups", "_law_k", "_law_group"]) (sc := defScope s_order) (by decide +kernel))
          (fun _ _ _ _ _ => (pg_name (i := 4) sc_order.nd rfl (Or.inl rfl))) (fun _ _ _ _ _ => pts_nil) (fun _ _ _ _ _ => (pe_slice sl_list (pv 0) (po_some (pv 4)) (po_some (pe_op op_addN (pv 4) (pv 2))))))
      (pss_one (ps_ret (pe_tup (pa_cons (pe_ix ix_list (pe_lst (pa_cons pe_str (pa_cons pe_str pa_nil))) (pe_op op_mod (pv 1) pe_int) (fun _ _ => rfl)) (pa_cons (pe_callTy call_tuple_of (by rfl) T.tuple (by decide +kernel) (pa_cons (pe_lc (own := [("_law_group", 5)]) (g := (gName 5)) (tt := tYes) (te := tCall sp [] E0 (tCons (tVar 5) (tCons (tOp (rI0 fun i j => .int (i + j)) (tVar 1) (tC (.int 1))) tNil))) rfl sc_order.nd (pi_list (pv 3)) (blkOk_by (N := ["_law_names", "_law_depth", "_law_size_here", "_law_groups", "_law_k", "_law_group"]) (sc := defScope s_order) (by decide +kernel))
          (fun _ _ _ _ _ => (pg_name (i := 5) sc_order.nd rfl (Or.inl rfl))) (fun _ _ _ _ _ => pts_nil) (fun _ _ _ _ _ => (pe_call (G _) hr rfl g F.kp bs .nil pass0 (pa_cons (pv 5) (pa_cons (pe_op op_add (pv 1) pe_int) pa_nil))))) pa_nil)) pa_nil)))))))), ?_⟩
    have hl : (ns.map V.str).length = ns.length := List.length_map ..
    refine ⟨_, rfl, t, _, rfl, .inl (SqL.of ht), rfl, _, rfl, ?_⟩
    by_cases e1 : ns.length = 1
    · obtain ⟨x, rfl⟩ : ∃ x, ns = [x] := List.length_eq_one_iff.mp e1
      refine if_t (decide_eq_true rfl) ?_
      refine ⟨_, rfl, t, _, _, _, rfl, rfl, SqL.of ht, atI_nat (j := 0) rfl, (by show 2 ≤ sizeLine; decide), fun a na => ?_⟩
      exact q _ _ (same_new na) (.tup upd_same (.cons (.str _ (by decide)) (.cons (.str _ (hns x (by simp))) .nil)))
    · refine if_f (decide_eq_false fun e => e1 ?_) ?_
      · have z := V.int.inj e
        rw [hl] at z
        omega
      refine ⟨_, rfl, t, _, rfl, .inl (SqL.of ht), _, _, rfl, rfl, _, _, rfl, rfl, ⟨by decide, by decide⟩, ?_⟩
      obtain ⟨m, hm⟩ : ∃ m, k = m + 1 := by
        cases k with
        | zero => exact absurd hk (by rw [limT]; omega)
        | succ m => exact ⟨m, rfl⟩
      obtain ⟨r1, r2, r3, r4⟩ := rg_size ⟨ns.length, by omega⟩ h1
      obtain ⟨c1, c6, cj⟩ := cn_size ⟨ns.length, by omega⟩ h1
      have hsz : sizeN ns.length ≤ limT m := by
        unfold sizeN
        rw [hm, limT] at hk
        omega
      have es : ((((ns.map V.str).length : Nat) : Int) + 5) / 6 = ((sizeN ns.length : Nat) : Int) := by
        rw [hl]
        rfl
      obtain ⟨sz, hs⟩ : ∃ sz, sz = sizeN ns.length := ⟨_, rfl⟩
      obtain ⟨cn, hc⟩ : ∃ cn, cn = countN ns.length := ⟨_, rfl⟩
      have el : (((ns.map V.str).length : Nat) : Int) = ((ns.length : Nat) : Int) := by rw [hl]
      dsimp only at r1 r2 r3 r4 c1 c6 cj
      rw [← hs] at r1 r2 r3 r4 c1 cj hsz es
      rw [← hc] at r4 c6 cj
      refine ⟨_, rfl, t, _, rfl, .inl (SqL.of ht), _, rfl, 0, ((ns.length : Nat) : Int), ((sz : Nat) : Int), cn, ?_, ⟨r1, r2, r3, r4⟩, fun D nD => ?_⟩
      · rw [el]
        rw [el] at es
        show [V.int 0, V.int ((ns.length : Nat) : Int), V.int ((((ns.length : Nat) : Int) + 5) / 6)] = _
        rw [es]
      refine lc_it (walk_rangeC (lo := 0) (c := ((sz : Nat) : Int)) (n := cn)) (fun j Hx => Same H Hx ∧ ∃ bs : List Addr, Hx D = some (.lst (bs.map V.ref)) ∧ bs.length = j ∧ ∀ (i : Nat) (b : Addr), bs[i]? = some b → Hx b = some (.lst ((chunk sz ns i).map .str)) ∧ b ≠ D)
        ⟨same_new nD, [], upd_same, rfl, by simp⟩ (fun _ _ _ _ => trivial) ?_ ?_
      · rintro j x Hx Hx' hj ⟨S2, bs, hD, hbl, hb⟩ ⟨rfl, hx⟩
        have hx' : some x = some (V.int (0 + ((j : Nat) : Int) * ((sz : Nat) : Int))) := by
          first
            | exact hx.symm
            | exact hx
            | exact congrArg some hx
        obtain rfl := Option.some.inj hx'
        have ej : (0 : Int) + ((j : Nat) : Int) * ((sz : Nat) : Int) = ((j * sz : Nat) : Int) := by rw [Int.zero_add, Int.natCast_mul]
        rw [ej]
        refine ⟨rfl, _, rfl, _, rfl, ((j * sz : Nat) : Int), rfl, _, rfl, _, rfl, j * sz, sz, rfl, congrArg V.int es, ((j * sz + sz : Nat) : Int), rfl, t, _, rfl, SqL.of (S2 _ _ ht), fun b nb => ?_⟩
        have u := same_new (o := HO.lst (cutV (ns.map V.str) (some ((j * sz : Nat) : Int)) (some ((j * sz + sz : Nat) : Int)))) nb
        have bD : b ≠ D := fun z => by
          rw [z, hD] at nb
          cases nb
        refine ⟨_, u _ _ hD, ?_, grow nD (S2.trans u), bs ++ [b], ?_, by rw [List.length_append, List.length_singleton, hbl], fun i' b' hb' => ?_⟩
        · rw [List.length_map, hbl, sizeLine_eq]
          omega
        · rw [upd_same, List.map_append]
          rfl
        · by_cases h : i' < bs.length
          · rw [List.getElem?_append_left h] at hb'
            obtain ⟨x1, x2⟩ := hb i' b' hb'
            exact ⟨by rw [upd_ne x2]; exact u _ _ x1, x2⟩
          · rw [List.getElem?_append_right (by omega)] at hb'
            have z : i' - bs.length = 0 := by
              by_cases y : i' - bs.length = 0
              · exact y
              · rw [List.getElem?_eq_none (by simp; omega)] at hb'
                cases hb'
            rw [z] at hb'
            obtain rfl := Option.some.inj hb'
            have ei : i' = j := by omega
            refine ⟨?_, bD⟩
            rw [upd_ne bD, upd_same, cut_from, ei]
            unfold chunk
            rw [List.map_drop, List.map_take]
      · rintro H3 ⟨S3, bs, hD, hbl, hb⟩
        refine ⟨(by show 2 ≤ sizeLine; decide), fun l nl => ?_⟩
        have u := same_new (o := HO.lst [.str "parallel", .str "series"]) nl
        have gl : upd H3 l (.lst [.str "parallel", .str "series"]) l = some (.lst [.str "parallel", .str "series"]) := upd_same
        generalize upd H3 l (.lst [.str "parallel", .str "series"]) = H4 at u gl ⊢
        have S4 := S3.trans u
        have ew : atI [V.str "parallel", V.str "series"] (((dp : Nat) : Int) % 2) = some (.str (wordN dp)) := by
          refine atI_nat (j := dp % 2) ?_
          unfold wordN
          have : dp % 2 = 0 ∨ dp % 2 = 1 := by omega
          rcases this with z | z <;> rw [z] <;> rfl
        refine ⟨_, rfl, _, _, rfl, rfl, (by show (0 : Int) < 2; decide), l, _, _, _, rfl, rfl, SqL.of gl, ew, ?_⟩
        have hD4 := u _ _ hD
        have hb4 : ∀ (i : Nat) (b : Addr), bs[i]? = some b → H4 b = some (.lst ((chunk sz ns i).map .str)) := fun i b z => u _ _ (hb i b z).1
        refine ⟨_, rfl, D, rfl, ⟨_, SqL.of hD4⟩, fun D2 nD2 => lc_list (K := K) (a := D) (xs := bs.map V.ref) (fun j Hx => Same H4 Hx ∧ ∃ acc : List V, Hx D2 = some (.lst acc) ∧ acc.length = j ∧ DatAll (noR D2 Hx) acc ((List.range j).map fun i => ordD k (chunk sz ns i) (dp + 1)))
          ⟨same_new nD2, [], upd_same, rfl, .nil⟩ (fun j Hx _ ⟨S, _⟩ => SqL.of (S _ _ hD4)) ?_ ?_⟩
        · rintro j x Hx hj ⟨S5, acc, hA, hal, dA⟩
          obtain ⟨b, hbj, rfl⟩ : ∃ b, bs[j]? = some b ∧ x = V.ref b := by
            rw [List.getElem?_map] at hj
            cases e : bs[j]? with
            | none =>
              rw [e] at hj
              cases hj
            | some z =>
              rw [e] at hj
              exact ⟨z, rfl, (Option.some.inj hj).symm⟩
          have hjl : j < cn := by
            have := (List.getElem?_eq_some_iff.mp hbj).1
            omega
          obtain ⟨l1, l2⟩ := chunk_len (sz := sz) (ns := ns) (j := j) (cj ⟨j, by omega⟩ hjl) c1
          refine ⟨rfl, _, rfl, _, rfl, _, _, rfl, rfl, hn m hm _ _ _ _ ⟨b, chunk sz ns j, dp + 1, rfl, S5 _ _ (hb4 j b hbj), l1, by omega, by omega, fun x hx => hns x (chunk_mem hx), fun v H' S6 dv => ⟨acc, S6 _ _ hA, ?_, grow nD2 (S5.trans S6), acc ++ [v], upd_same, by rw [List.length_append, List.length_singleton, hal], ?_⟩⟩⟩
          · rw [hal, sizeLine_eq]
            omega
          · rw [noR_upd, List.range_succ, List.map_append]
            rw [← hm] at dv
            exact datAll_append (dA.same (same_noR S6)) (.cons (dat_noR (S6 _ _ hA) dv (ord_noL _ _ _)) .nil)
        · rintro H5 ⟨S5, acc, hA, hal, dA⟩
          rw [List.length_map, hbl] at hal dA
          refine ⟨D2, acc, rfl, .inl ⟨SqL.of hA, fun a1 n1 => ⟨(by show 2 ≤ sizeLine; decide), fun a2 n2 => ?_⟩⟩⟩
          have u1 := same_new (o := HO.tup acc) n1
          have u2 := same_new (o := HO.tup [.str (wordN dp), .ref a1]) n2
          refine q _ _ ((((S4.trans S5).trans u1).trans u2)) ?_
          rw [ordD, if_neg e1, ← hc, ← hs]
          exact .tup upd_same (.cons (.str _ (word_len dp)) (.cons (.tup (u2 _ _ upd_same) (((dA.same noR_sub).same u1).same u2)) .nil))
theorem okl_order {f : Addr} {fd : FuncData} (F : Fun K "_law_order" "_law_order" s_order f fd) (bs : L2.Binds K fd ["_law_names", "_law_depth"] []) (g : mg "_law_order" = some (.ref f)) (T : Nm mg) : ∀ (k : Nat) (base : Heap), FnOk P w K mg base CX0 (1 + k) f fd ["_law_names", "_law_depth"] (spOrd k)
  | 0, _ => od_body (sp := fun _ _ _ _ => False) 0 F bs g (fun _ => fn_none) T fun M e => by cases e
  | k + 1, _ => by
    have G := okl_order F bs g T k
    rw [show 1 + k = k + 1 by omega] at G
    refine od_body (k + 1) F bs g G T fun M e vs H Q E h => ?_
    obtain rfl : k = M := Nat.succ.inj e
    exact h
end
end KF
set_option maxRecDepth 100000
set_option maxHeartbeats 8000000
namespace KF
open PySem PySem.Spec PyProof.Rows L2
/-! ### _law_counts -/
abbrev s_counts : Stmt := top 40
def poolC : List Str := ["a", "ab", "b", "x", "yz", "zzzzzz"]
/-- the counts that the law makes -/
def GoodC (cs : Cn) : Prop := (∃ m, 1 ≤ m ∧ m ≤ 6 ∧ cs.map (·.1) = poolC.take m) ∧ ∀ c ∈ cs, 1 ≤ c.2
theorem paired_imp {α β : Type} {F G : α → β → Prop} : ∀ {xs : List α} {ys : List β}, (∀ x ∈ xs, ∀ y, F x y → G x y) → Paired F xs ys → Paired G xs ys
  | _, _, _, .nil => .nil
  | _, _, h, .cons a t => .cons (h _ List.mem_cons_self _ a) (paired_imp (fun x hx => h x (List.mem_cons_of_mem _ hx)) t)
theorem paired_app {α β : Type} {F : α → β → Prop} : ∀ {xs xs' : List α} {ys ys' : List β}, Paired F xs ys → Paired F xs' ys' → Paired F (xs ++ xs') (ys ++ ys')
  | _, _, _, _, .nil, h => h
  | _, _, _, _, .cons a t, h => .cons a (paired_app t h)
theorem paired_len {α β : Type} {F : α → β → Prop} : ∀ {xs : List α} {ys : List β}, Paired F xs ys → xs.length = ys.length
  | _, _, .nil => rfl
  | _, _, .cons _ t => by rw [List.length_cons, List.length_cons, paired_len t]
theorem paired_get {α β : Type} {F : α → β → Prop} : ∀ {xs : List α} {ys : List β} {j : Nat} {x : α}, Paired F xs ys → xs[j]? = some x → ∃ y, ys[j]? = some y ∧ F x y
  | _, _, _, _, .nil, e => by simp at e
  | _, _, 0, _, .cons a _, e => by
    simp at e
    subst e
    exact ⟨_, rfl, a⟩
  | _, _, j + 1, x, .cons _ t, e => by
    obtain ⟨y, h1, h2⟩ := paired_get (j := j) (x := x) t (by simpa using e)
    exact ⟨y, by simpa using h1, h2⟩
theorem new_back {H H1 : Hp} {p q t : Addr} {b : Nat} (D : Dk H1 p q b) (O : Off p q H H1) (n : H1 t = none) : H t = none := by
  obtain ⟨n1, n2⟩ := D.new n
  cases e : H t with
  | none => rfl
  | some o =>
    rw [O _ _ e n1 n2] at n
    cases n
def cell (c : Str × Nat) : HO := .lst [.str c.1, .int (c.2 : Nat)]
structure CF (H : Hp) (p q F : Addr) (as : List Addr) (cs : Cn) (Hx : Hp) : Prop where
  nF : H F = none
  na : ∀ a ∈ as, H a = none
  nd : F ∉ as ∧ as.Nodup
  off : Off p q H Hx
  f : Hx F = some (.lst (as.map V.ref))
  pr : Paired (fun a c => Hx a = some (cell c)) as cs
theorem CF.offs {H Hx Hy : Hp} {p q F : Addr} {as : List Addr} {cs : Cn} {b : Nat} (c : CF H p q F as cs Hx) (D : Dk H p q b) (O : Off p q Hx Hy) : CF H p q F as cs Hy where
  nF := c.nF
  na := c.na
  nd := c.nd
  off := c.off.trans O
  f := O _ _ c.f (D.new c.nF).1 (D.new c.nF).2
  pr := paired_imp (fun a ha y e => O _ _ e (D.new (c.na a ha)).1 (D.new (c.na a ha)).2) c.pr
theorem Off.upd {H Hx : Hp} {p q a : Addr} {o : HO} (O : Off p q H Hx) (n : H a = none) : Off p q H (L2.upd Hx a o) := fun b u e h1 h2 => by
  rw [upd_ne (ne_of_none e n)]
  exact O b u e h1 h2
theorem CF.add {H Hx : Hp} {p q F a : Addr} {as : List Addr} {cs : Cn} {b : Nat} {c : Str × Nat} (h : CF H p q F as cs Hx) (D : Dk Hx p q b) (n : Hx a = none) : upd Hx a (cell c) F = some (.lst (as.map V.ref)) ∧ CF H p q F (as ++ [a]) (cs ++ [c]) (upd (upd Hx a (cell c)) F (.lst (as.map V.ref ++ [.ref a]))) := by
  have nH : H a = none := new_back D h.off n
  have S := same_new (o := cell c) n
  have aF : a ≠ F := fun z => by rw [z, h.f] at n; cases n
  have aas : a ∉ as := fun z => by
    obtain ⟨j, hj⟩ := List.mem_iff_getElem?.mp z
    obtain ⟨y, _, e⟩ := paired_get h.pr hj
    rw [e] at n
    cases n
  refine ⟨S _ _ h.f, h.nF, ?_, ⟨?_, ?_⟩, (h.off.trans (.of_same S)).upd h.nF, ?_, ?_⟩
  · intro x hx
    rcases List.mem_append.mp hx with hx | hx
    · exact h.na x hx
    · rw [List.mem_singleton.mp hx]
      exact nH
  · intro hx
    rcases List.mem_append.mp hx with hx | hx
    · exact h.nd.1 hx
    · exact aF (List.mem_singleton.mp hx).symm
  · rw [List.nodup_append]
    refine ⟨h.nd.2, by simp, fun x hx y hy e => ?_⟩
    rw [List.mem_singleton.mp hy] at e
    exact aas (by rw [← e]; exact hx)
  · rw [upd_same, List.map_append]
    rfl
  · refine paired_app (paired_imp (fun x hx y e => ?_) h.pr) (.cons ?_ .nil)
    · rw [upd_ne (fun z => h.nd.1 (by rw [← z]; exact hx))]
      exact S _ _ e
    · rw [upd_ne aF, upd_same]
theorem CF.last {H Hx : Hp} {p q F a : Addr} {as : List Addr} {cs : Cn} {c c' : Str × Nat} (h : CF H p q F (as ++ [a]) (cs ++ [c]) Hx) (hl : as.length = cs.length) : Hx a = some (cell c) ∧ CF H p q F (as ++ [a]) (cs ++ [c']) (upd Hx a (cell c')) := by
  have key : ∀ {as : List Addr} {cs : Cn}, as.length = cs.length → Paired (fun a c => Hx a = some (cell c)) (as ++ [a]) (cs ++ [c]) → Paired (fun a c => Hx a = some (cell c)) as cs ∧ Hx a = some (cell c) := by
    intro as
    induction as with
    | nil =>
      intro cs e pr
      match cs, e, pr with
      | [], _, .cons z _ => exact ⟨.nil, z⟩
    | cons x xs ih =>
      intro cs e pr
      match cs, e, pr with
      | y :: ys, e, .cons z t =>
        obtain ⟨h1, h2⟩ := ih (by simpa using e) t
        exact ⟨.cons z h1, h2⟩
  obtain ⟨k1, k2⟩ := key hl h.pr
  have nd := h.nd.2
  rw [List.nodup_append] at nd
  have aas : ∀ x ∈ as, x ≠ a := fun x hx => nd.2.2 x hx a (by simp)
  have Fa : F ≠ a := fun z => h.nd.1 (by rw [z]; simp)
  refine ⟨k2, h.nF, h.na, h.nd, h.off.upd (h.na a (by simp)), ?_, ?_⟩
  · rw [upd_ne Fa]
    exact h.f
  · refine paired_app (paired_imp (fun x hx y e => ?_) k1) (.cons upd_same .nil)
    rw [upd_ne (aas x hx)]
    exact e
theorem left_step {m i d : Nat} {l : Int} (hm : m ≤ 6) (hi : i < m) (h1 : 66 * ((m : Int) - (i : Nat)) ≤ l) (h2 : l ≤ 400) (hd : ((d : Nat) : Int) < (if l / (m : Nat) > 1 then l / (m : Nat) else 1)) : 66 * ((m : Int) - ((i + 1 : Nat) : Int)) ≤ l - (1 + (d : Nat)) ∧ l - (1 + (d : Nat)) ≤ 400 := by
  have hm' : m = 1 ∨ m = 2 ∨ m = 3 ∨ m = 4 ∨ m = 5 ∨ m = 6 := by omega
  rcases hm' with rfl | rfl | rfl | rfl | rfl | rfl <;> split at hd <;> omega
theorem max_ok {m : Nat} {l : Int} (hm : 1 ≤ m ∧ m ≤ 6) (h2 : l ≤ 400) : 0 < (if l / (m : Nat) > 1 then l / (m : Nat) else 1) ∧ (if l / (m : Nat) > 1 then l / (m : Nat) else 1) ≤ 1000000 := by
  have hm' : m = 1 ∨ m = 2 ∨ m = 3 ∨ m = 4 ∨ m = 5 ∨ m = 6 := by omega
  rcases hm' with rfl | rfl | rfl | rfl | rfl | rfl <;> split <;> omega
theorem pool_len : ∀ x ∈ poolC, x.length ≤ 1000 := by decide
theorem cnts_noL (cs : Cn) : noL (cntsD cs) = true := by
  unfold cntsD
  rw [noL]
  refine noLs_iff.mpr fun d hd => ?_
  obtain ⟨c, _, rfl⟩ := List.mem_map.mp hd
  rfl
def spCounts : Sp := fun vs H Q _ => ∃ (p q : Addr) (b : Nat), vs = [.ref p] ∧ Dk H p q b ∧ b + 20 ≤ 100000000 ∧ ∀ (v : V) (cs : Cn) (H' : Hp), GoodC cs → Off p q H H' → Dk H' p q (b + 8) → Dat (hide p q H') v (cntsD cs) → Q v H'
section
variable {P : Program} {w : World} {K : PySem.W.Frag} {mg : Str → Option Value} {base : Heap}
theorem sc_counts : FnScope ["_law_deck_here", "_law_names", "_law_left", "_law_found", "_law_name", "_law_often", "_law_one"] ["_law_deck_here"] (defScope s_counts) := ⟨rfl, rfl, rfl, by decide +kernel, rfl, by decide +kernel, by decide +kernel⟩
theorem ok_counts {f fD : Addr} {fd fdD : FuncData} (F : Fun K "_law_counts" "_law_counts" s_counts f fd) (T : Nm mg) (hmx : mg "max" = none) (D_draw : DefOk K mg "_law_draw" sDraw ["_law_deck_here", "_law_bound"] fD fdD) :
    FnOk P w K mg base CX0 2 f fd ["_law_deck_here"] spCounts := by
  have G_draw : FnOk P w K mg base CX0 1 fD fdD ["_law_deck_here", "_law_bound"] spDraw := ok_draw D_draw.F
  refine F.ok sc_counts (fun vs H Q E h => ?_) (fun cdv A outer s H vs Q E hr h => ?_)
  · obtain ⟨p, q, b, rfl, _⟩ := h
    rfl
  · obtain ⟨p, q, b, rfl, D, hb, k⟩ := h
    refine ⟨_, (pss_cons (ps_par3 (i := 1) (j := 2) (l := 3) rfl sc_counts.nd rfl rfl rfl (by decide) (by decide) (by decide) rfl rfl rfl (pa_cons (pe_slice sl_list (pe_lst (pa_cons pe_str (pa_cons pe_str (pa_cons pe_str (pa_cons pe_str (pa_cons pe_str (pa_cons pe_str pa_nil))))))) po_none (po_some (pe_op op_add pe_int (pe_call G_draw hr rfl D_draw.g D_draw.F.kp D_draw.b .nil pass0 (pa_cons (pv 0) (pa_cons pe_int pa_nil)))))) (pa_cons pe_int (pa_cons (pe_lst pa_nil) pa_nil))) (by rfl))
      (pss_cons (ps_for PassesOwn.never rfl (pi_list (pv 1)) (pg_name (i := 4) sc_counts.nd rfl (Or.inl rfl))
        (pss_cons (ps_set (i := 5) sc_counts.nd rfl (Or.inl rfl) (pe_op op_add pe_int (pe_call G_draw hr rfl D_draw.g D_draw.F.kp D_draw.b .nil pass0 (pa_cons (pv 0) (pa_cons (pe_callB (call_max2 rfl) (by rfl) hmx (by decide +kernel) (pa_cons pe_int (pa_cons (pe_op op_fdiv (pv 2) (pe_callB call_len_seq (by rfl) T.len PySem.boot_len (pa_cons (pv 1) pa_nil))) pa_nil))) pa_nil)))))
        (pss_cons (ps_expr (pe_bm PySem.F.plainAttrs_list PySem.F.slot_list_append PySem.F.type_list_append mt_append (pv 3) (pa_cons (pe_lst (pa_cons (pv 4) (pa_cons (pv 5) pa_nil))) pa_nil)))
        (pss_one (ps_set (i := 2) sc_counts.nd rfl (Or.inl rfl) (pe_op op_sub (pv 2) (pv 5)))))))
      (C8.pss_cut (ps_if (pt_cmpR op_eq (pe_call G_draw hr rfl D_draw.g D_draw.F.kp D_draw.b .nil pass0 (pa_cons (pv 0) (pa_cons pe_int pa_nil))) pe_int (nomark _))
        (pss_one (ps_asg (pe_op op_add (pe_ix ix_list (pe_ix ix_list (pv 3) (pe_un un_neg pe_int) (fun _ _ => rfl)) pe_int (fun _ _ => rfl)) (pv 2)) (pg_sub (pe_ix ix_list (pv 3) (pe_un un_neg pe_int) (fun _ _ => rfl)) pe_int set_list (fun _ => rfl))))
        pss_nil)
      (pss_one (ps_ret (pe_callTy call_tuple_of (by rfl) T.tuple (by decide +kernel) (pa_cons (pe_lc (own := [("_law_one", 6)]) (g := (gName 6)) (tt := tYes) (te := tCB (fun xs H Q => ∃ p ys, xs = [.ref p] ∧ ((SqL K H p ys ∧ ∀ l, H l = none → Q (.ref l) (upd H l (.tup ys))) ∨ (SqT K H p ys ∧ Q (.ref p) H))) (tCons (tVar 6) tNil)) rfl sc_counts.nd (pi_list (pv 3)) (blkOk_by (N := ["_law_deck_here", "_law_names", "_law_left", "_law_found", "_law_name", "_law_often", "_law_one"]) (sc := defScope s_counts) (by decide +kernel))
          (fun _ _ _ _ _ => (pg_name (i := 6) sc_counts.nd rfl (Or.inl rfl))) (fun _ _ _ _ _ => pts_nil) (fun _ _ _ _ _ => (pe_callTy call_tuple_of (by rfl) T.tuple (by decide +kernel) (pa_cons (pv 6) pa_nil)))) pa_nil))))))), ?_⟩
    -- names, left, found
    refine ⟨(by show 6 ≤ sizeLine; decide), fun l nl => ?_⟩
    have S0 := same_new (o := HO.lst [.str "a", .str "ab", .str "b", .str "x", .str "yz", .str "zzzzzz"]) nl
    have gl : upd H l (.lst [.str "a", .str "ab", .str "b", .str "x", .str "yz", .str "zzzzzz"]) l = some (.lst (poolC.map V.str)) := upd_same
    generalize upd H l (.lst [.str "a", .str "ab", .str "b", .str "x", .str "yz", .str "zzzzzz"]) = H0 at S0 gl ⊢
    have D0 := D.same S0
    have ln := D.new nl
    refine ⟨_, rfl, ?_⟩
    dsimp only [tCons, tC, tNil]
    refine draw_of (E := E0) (n := 6) D0 (by decide) (by decide) (by omega) fun m0 H1 hm0 O1 D1 => ?_
    have gl1 := O1 _ _ gl ln.1 ln.2
    obtain ⟨m, hm⟩ : ∃ m, m = 1 + m0 := ⟨_, rfl⟩
    have hmi : ((1 : Int) + (m0 : Nat)) = ((m : Nat) : Int) := by omega
    refine ⟨_, _, rfl, rfl, _, rfl, l, poolC.map V.str, rfl, SqL.of gl1, fun N nN => ?_⟩
    rw [hmi, cut_take, ← List.map_take]
    have SN := same_new (o := HO.lst ((poolC.take m).map V.str)) nN
    have gN : upd H1 N (.lst ((poolC.take m).map V.str)) N = some (.lst ((poolC.take m).map V.str)) := upd_same
    have OHN : Off p q H (upd H1 N (.lst ((poolC.take m).map V.str))) := ((Off.of_same S0).trans O1).trans (.of_same SN)
    have nNH : H N = none := new_back D1 ((Off.of_same S0).trans O1) nN
    have D2 := D1.same SN
    generalize upd H1 N (.lst ((poolC.take m).map V.str)) = H2 at SN gN OHN D2 ⊢
    refine ⟨(by show 0 ≤ sizeLine; decide), fun L nL => ⟨_, _, _, rfl, ?_⟩⟩
    have SL := same_new (o := HO.lst []) nL
    have LN : N ≠ L := fun z => by rw [z] at gN; rw [gN] at nL; cases nL
    have c0 : CF H p q L [] [] (upd H2 L (.lst [])) := ⟨new_back D2 OHN nL, (fun a h => by cases h), ⟨by simp, by simp⟩, OHN.trans (.of_same SL), upd_same, .nil⟩
    have D3 := D2.same SL
    have gN3 := SL _ _ gN
    generalize upd H2 L (.lst []) = H3 at SL c0 D3 gN3 ⊢
    have hpl : (poolC.take m).length = m := by
      rw [List.length_take]
      show min m 6 = m
      omega
    -- the loop
    refine ⟨_, rfl, N, rfl, ⟨_, SqL.of gN3⟩, for_list (K := K) (a := N) (xs := (poolC.take m).map V.str) (fun i σ Hx => ∃ (left : Int) (x4 x5 : Option V) (as : List Addr) (cs : Cn), σ = [some (.ref p), some (.ref N), some (.int left), some (.ref L), x4, x5, none] ∧ Dk Hx p q (b + 1 + i) ∧ Hx N = some (.lst ((poolC.take m).map V.str)) ∧ N ∉ as ∧ CF H p q L as cs Hx ∧ cs.map (·.1) = (poolC.take m).take i ∧ (∀ c ∈ cs, 1 ≤ c.2) ∧ 66 * ((m : Int) - (i : Nat)) ≤ left ∧ left ≤ 400)
      ⟨400, none, none, [], [], rfl, D3, gN3, by simp, c0, by simp, by simp, by omega, by decide⟩ (fun i σ Hx _ ⟨_, _, _, _, _, _, _, h, _⟩ => SqL.of h) ?_ ?_⟩
    · rintro i y σ Hx hy ⟨left, x4, x5, as, cs, rfl, Dx, gx, Nas, cf, hcs, hpos, hl1, hl2⟩
      have hi : i < m := by
        have := (List.getElem?_eq_some_iff.mp hy).1
        rw [List.length_map, hpl] at this
        exact this
      rw [List.getElem?_map] at hy
      obtain ⟨z, hz, rfl⟩ := Option.map_eq_some_iff.mp hy
      obtain ⟨mx1, mx2⟩ := max_ok (m := m) (l := left) ⟨by omega, by omega⟩ hl2
      have el : ((((poolC.take m).map V.str).length : Nat) : Int) = ((m : Nat) : Int) := by rw [List.length_map, hpl]
      refine ⟨_, rfl, _, rfl, _, rfl, N, _, rfl, .inl (SqL.of gx), _, _, rfl, rfl, ⟨by omega, by omega⟩, _, _, rfl, ?_⟩
      rw [el]
      dsimp only [tCons, tC, tNil]
      refine draw_of (E := E0) Dx mx1 mx2 (by omega) fun d Hd hd Od Dd => ?_
      obtain ⟨st1, st2⟩ := left_step (by omega) hi hl1 hl2 hd
      have nN' : N ≠ p ∧ N ≠ q := D.new nNH
      have gd := Od _ _ gx nN'.1 nN'.2
      have cd := cf.offs D Od
      refine ⟨_, _, rfl, rfl, ?_⟩
      have ed : ((1 : Int) + (d : Nat)) = ((1 + d : Nat) : Int) := by omega
      dsimp only
      rw [ed]
      refine ⟨_, rfl, .inl ⟨rfl, _, SqL.of cd.f⟩, _, rfl, _, rfl, (by show 2 ≤ sizeLine; decide), fun a na => ?_⟩
      obtain ⟨e1, cA⟩ := cd.add (c := (z, 1 + d)) Dd na
      have hasl := paired_len cd.pr
      have hcl : cs.length = i := by
        have := congrArg List.length hcs
        rw [List.length_map, List.length_take, hpl] at this
        omega
      refine ⟨L, _, _, rfl, rfl, e1, (by rw [List.length_map, hasl, hcl, sizeLine_eq]; omega), ?_⟩
      have aN : a ≠ N := fun z => by rw [z, gd] at na; cases na
      refine ⟨_, rfl, _, rfl, _, _, rfl, rfl, left - ((1 + d : Nat) : Int), _, _, as ++ [a], cs ++ [(z, 1 + d)], rfl, ?_, ?_, ?_, cA, ?_, ?_, ?_, ?_⟩
      · have z1 := dk_upd (o := HO.lst (as.map V.ref ++ [V.ref a])) (Dd.same (same_new (o := cell (z, 1 + d)) na)) (D.new c0.nF).1 (D.new c0.nF).2
        exact z1
      · rw [upd_ne LN, upd_ne (Ne.symm aN)]
        exact gd
      · intro hx
        rcases List.mem_append.mp hx with hx | hx
        · exact Nas hx
        · exact aN (List.mem_singleton.mp hx).symm
      · rw [List.map_append, hcs, List.take_add_one, hz]
        rfl
      · intro c hc
        rcases List.mem_append.mp hc with hc | hc
        · exact hpos c hc
        · rw [List.mem_singleton.mp hc]
          show 1 ≤ 1 + d
          omega
      · have : left - ((1 + d : Nat) : Int) = left - (1 + (d : Nat)) := by omega
        rw [this]
        exact st1
      · have : left - ((1 + d : Nat) : Int) = left - (1 + (d : Nat)) := by omega
        rw [this]
        exact st2
    · rintro σ Hx ⟨left, x4, x5, as, cs, rfl, Dx, gx, Nas, cf, hcs, hpos, hl1, hl2⟩
      rw [List.length_map, hpl] at Dx hcs hl1
      have hcs : cs.map (·.1) = poolC.take m := by rw [hcs, List.take_take, Nat.min_self]
      have left0 : 0 ≤ left := by omega
      refine ⟨fun σ' Hy => ∃ (cs' : Cn), σ' = [some (.ref p), some (.ref N), some (.int left), some (.ref L), x4, x5, none] ∧ Dk Hy p q (b + 8) ∧ CF H p q L as cs' Hy ∧ GoodC cs', ?_, ?_⟩
      · refine ⟨_, rfl, ?_⟩
        dsimp only [tCons, tC, tNil]
        refine draw_of (E := E0) (n := 2) Dx (by decide) (by decide) (by omega) fun d Hd hd Od Dd => ?_
        have cd := cf.offs D Od
        refine ⟨rfl, _, rfl, ?_⟩
        by_cases hd0 : d = 0
        · refine if_t (decide_eq_true (by rw [hd0]; rfl)) ?_
          have hlen : as.length = cs.length := paired_len cd.pr
          have hcl : cs.length = m := by
            have := congrArg List.length hcs
            rw [List.length_map, hpl] at this
            exact this
          obtain ⟨cs0, c, rfl⟩ : ∃ cs0 c, cs = cs0 ++ [c] := ⟨cs.dropLast, cs.getLast (by intro z; rw [z] at hcl; simp at hcl; omega), (List.dropLast_concat_getLast _).symm⟩
          obtain ⟨as0, a, rfl⟩ : ∃ as0 a, as = as0 ++ [a] := ⟨as.dropLast, as.getLast (by intro z; rw [z] at hlen; simp at hlen), (List.dropLast_concat_getLast _).symm⟩
          obtain ⟨u1, u2⟩ := cd.last (c' := (c.1, c.2 + left.toNat)) (by simpa using hlen)
          have fL := cd.f
          rw [List.map_append] at fL
          have fL : Hd L = some (.lst (as0.map V.ref ++ [V.ref a])) := fL
          refine ⟨_, rfl, _, rfl, L, _, _, _, rfl, rfl, SqL.of fL, atI_last _ _, a, _, _, _, rfl, rfl, SqL.of u1, atI_nat (j := 1) rfl, _, rfl, _, _, rfl, rfl, ?_⟩
          refine ⟨_, rfl, _, rfl, L, _, _, _, rfl, rfl, SqL.of fL, atI_last _ _, a, _, 1, 1, rfl, rfl, u1, rfl, ?_⟩
          have ec : cell (c.1, c.2 + left.toNat) = HO.lst ([V.str c.1, V.int (c.2 : Nat)].set 1 (V.int ((c.2 : Nat) + left))) := by
            unfold cell
            have : ((c.2 + left.toNat : Nat) : Int) = (c.2 : Nat) + left := by omega
            rw [show (c.1, c.2 + left.toNat).2 = c.2 + left.toNat from rfl, this]
            rfl
          rw [← ec]
          refine ⟨_, rfl, ?_, u2, ⟨m, by omega, by omega, ?_⟩, ?_⟩
          · exact (dk_upd Dd (D.new (cd.na a (by simp))).1 (D.new (cd.na a (by simp))).2).mono (by omega)
          · rw [← hcs]
            simp
          · intro x hx
            rcases List.mem_append.mp hx with hx | hx
            · exact hpos x (List.mem_append_left _ hx)
            · rw [List.mem_singleton.mp hx]
              have := hpos c (List.mem_append_right _ (by simp))
              show 1 ≤ c.2 + left.toNat
              omega
        · refine if_f (decide_eq_false fun e => hd0 (by have := V.int.inj e; omega)) ⟨cs, rfl, Dd.mono (by omega), cd, ⟨m, by omega, by omega, hcs⟩, hpos⟩
      · rintro σ' Hy ⟨cs', rfl, Dy, cy, good⟩
        have hlen : as.length = cs'.length := paired_len cy.pr
        have hcl : cs'.length ≤ 6 := by
          obtain ⟨⟨m', _, h6, e⟩, _⟩ := good
          have := congrArg List.length e
          rw [List.length_map, List.length_take] at this
          omega
        have hstr : ∀ c ∈ cs', c.1.length ≤ 1000 := fun c hc => by
          obtain ⟨⟨m', _, h6, e⟩, _⟩ := good
          refine pool_len _ (List.mem_of_mem_take (i := m') ?_)
          rw [← e]
          exact List.mem_map.mpr ⟨c, hc, rfl⟩
        refine ⟨_, rfl, L, rfl, ⟨_, SqL.of cy.f⟩, fun M nM => lc_list (K := K) (a := L) (xs := as.map V.ref) (fun j Hz => Gr Hy M ((cs'.take j).map cntD) Hz) (Gr.start nM) (fun j Hz _ g => SqL.of (g.2.1 _ _ cy.f)) ?_ ?_⟩
        · rintro j x Hz hj gz
          rw [List.getElem?_map] at hj
          obtain ⟨a, ha, rfl⟩ := Option.map_eq_some_iff.mp hj
          obtain ⟨c, hc, hac⟩ := paired_get cy.pr ha
          refine ⟨rfl, ?_⟩
          dsimp only [tYes]
          refine if_t rfl ⟨_, rfl, a, _, rfl, .inl ⟨SqL.of (gz.2.1 _ _ hac), fun t nt => ?_⟩⟩
          have y1 := same_new (o := HO.tup [.str c.1, .int (c.2 : Nat)]) nt
          have dz : DatAll (upd Hz t (.tup [.str c.1, .int (c.2 : Nat)])) [.ref t] [cntD c] := .cons (.tup upd_same (.cons (.str _ (hstr c (List.mem_of_getElem? hc))) (.cons (.int _) .nil))) .nil
          obtain ⟨xs', hM, hxl, _, g'⟩ := gz.add y1 dz rfl
          rw [List.length_map, List.length_take] at hxl
          refine ⟨xs', hM, (by rw [sizeLine_eq]; omega), ?_⟩
          rw [List.take_add_one, hc, List.map_append]
          exact g'
        · rintro Hz gz
          rw [List.length_map, hlen, List.take_length] at gz
          obtain ⟨xs', hM, hxl, dM⟩ := gz.fin
          refine ⟨M, xs', rfl, .inl ⟨SqL.of hM, fun t nt => ?_⟩⟩
          have y1 := same_new (o := HO.tup xs') nt
          have Dz := (Dy.same gz.2.1).same y1
          refine k (.ref t) cs' _ good ((cy.off.trans (.of_same gz.2.1)).trans (.of_same y1)) Dz (dat_hide Dz (.tup upd_same (dM.same y1)) (cnts_noL cs'))
end
end KF
set_option maxRecDepth 100000
set_option maxHeartbeats 4000000
namespace L2
open PySem PySem.Spec PyProof.Rows
/-! ### t[::2] of a tuple -/
section
variable {prog : Program} {w : World} {A : Around} {E : Value → Shared → Prop} {s : Shared}
def halfN (n : Nat) : Nat := (n + 1) / 2
def everyTwo {α : Type} (xs : List α) : List α := (List.range (halfN xs.length)).filterMap fun k => xs[2 * k]?
theorem adjust_two (n : Nat) : Builtin.Slice.sliceAdjust none none 2 (n : Int) = (0, (n : Int)) := by
  unfold Builtin.Slice.sliceAdjust
  have h1 : ¬ ((2 : Int) < 0) := by decide
  simp only [h1, if_false]
theorem places_two (n : Nat) : Builtin.Slice.slicePlaces 0 (n : Int) 2 = halfN n := by
  unfold Builtin.Slice.slicePlaces halfN
  have h1 : ((2 : Int) > 0) := by decide
  simp only [h1, if_true]
  split <;> omega
theorem applied_two {sl : Addr} {vl vu vs : Value} {n : Nat} {Q : Int × Int × Nat → Shared → Prop} (hs : s.heap.IsSliceOf sl vl vu vs) (pl : IsPart vl none) (pu : IsPart vu none) (ps : IsPart vs (some 2)) (h : Q (0, 2, halfN n) s) :
    wpAny (model prog w) A (Builtin.Slice.sliceApplied (.ref sl) (pure (n : Int))) Q E s := by
  obtain ⟨os, gos, gcs, gds⟩ := hs
  unfold Builtin.Slice.sliceApplied Builtin.Slice.sliceFields
  (refine wpAny_bind (wpAny_bind (wpAny_field gos gds (x := vl) rfl (wpAny_bind (wpAny_field gos gds (x := vu) rfl (wpAny_bind (wpAny_field gos gds (x := vs) rfl (wpAny_pure ?_))))))))
  refine wpAny_bind (HT.slicePart_ ps ?_)
  show wpAny _ _ (if ((2 : Int) == 0) = true then _ else _) _ _ s
  (rw [if_neg (by decide)]; refine wpAny_bind (HT.slicePart_ pl (wpAny_bind (HT.slicePart_ pu (wpAny_bind (wpAny_pure ?_))))))
  show wpAny _ _ (match Builtin.Slice.sliceAdjust none none 2 (n : Int) with | (lo, hi) => pure (lo, (2 : Int), Builtin.Slice.slicePlaces lo hi 2)) _ _ s
  rw [adjust_two n]
  show wpAny _ _ (pure ((0 : Int), (2 : Int), Builtin.Slice.slicePlaces 0 (n : Int) 2)) _ _ s
  rw [places_two]
  exact wpAny_pure h
theorem fm_cong {α β : Type} {f g : α → Option β} : ∀ {l : List α}, (∀ x ∈ l, f x = g x) → l.filterMap f = l.filterMap g
  | [], _ => rfl
  | a :: l, h => by
    rw [List.filterMap_cons, List.filterMap_cons, h a (by simp), fm_cong (l := l) fun x hx => h x (by simp [hx])]
theorem pick_two (xs : Array Value) : ((List.range (halfN xs.size)).filterMap fun (k : Nat) => xs[((0 : Int) + (k : Int) * 2).toNat]?).toArray = (everyTwo xs.toList).toArray := by
  unfold everyTwo
  congr 1
  rw [Array.length_toList]
  refine fm_cong fun k _ => ?_
  have e1 : ((0 : Int) + (k : Int) * 2).toNat = 2 * k := by omega
  rw [e1, Array.getElem?_toList]
theorem fm_len {α β : Type} {f : α → Option β} : ∀ l : List α, (l.filterMap f).length ≤ l.length
  | [] => Nat.le_refl _
  | a :: l => by
    rw [List.filterMap_cons]
    have := fm_len (f := f) l
    split
    · rw [List.length_cons]; omega
    · rw [List.length_cons, List.length_cons]; omega
theorem two_len {α : Type} (xs : List α) : (everyTwo xs).length ≤ xs.length := by
  have z := fm_len (f := fun k => xs[2 * k]?) (List.range (halfN xs.length))
  rw [List.length_range] at z
  unfold halfN at z
  show (everyTwo xs).length ≤ _
  unfold everyTwo halfN
  by_cases h : xs.length = 0
  · rw [h] at z ⊢
    omega
  · omega
theorem vals_fm {xs : List V} {us : List Value} (r : Vals xs us) : ∀ ks : List Nat, Vals (ks.filterMap fun k => xs[2 * k]?) (ks.filterMap fun k => us[2 * k]?)
  | [] => .nil
  | k :: ks => by
    have ih := vals_fm r ks
    rw [List.filterMap_cons, List.filterMap_cons]
    have hl := r.length
    cases e : xs[2 * k]? with
    | none =>
      have e2 : us[2 * k]? = none := by
        rw [List.getElem?_eq_none_iff] at e ⊢
        omega
      rw [e2]
      exact ih
    | some x =>
      obtain ⟨u, hu, ru⟩ := r.get e
      rw [hu]
      exact .cons ru ih
theorem vals_two {xs : List V} {us : List Value} (r : Vals xs us) : Vals (everyTwo xs) (everyTwo us) := by
  unfold everyTwo
  rw [r.length]
  exact vals_fm r _
theorem getItem_tuple_two {t sl : Addr} {its : Array Value} {vl vu vs : Value} {Q : Value → Shared → Prop} (ht : IsTup s.heap t its) (hs : s.heap.IsSliceOf sl vl vu vs) (pl : IsPart vl none) (pu : IsPart vu none) (ps : IsPart vs (some 2))
    (h : Q (.ref s.heap.objs.size) { s with heap := s.heap.push { cls := .type "tuple", data := .seq (everyTwo its.toList).toArray } }) (hsz : its.size ≤ sizeLine) : wpAny (model prog w) A (getItem (.ref t) (.ref sl)) Q E s := by
  have htake : sizeOk (.seq (everyTwo its.toList).toArray) := by
    show (everyTwo its.toList).toArray.size ≤ sizeLine
    rw [List.size_toArray]
    exact Nat.le_trans (two_len its.toList) (by rw [Array.length_toList]; exact hsz)
  obtain ⟨os, gos, gcs, gds⟩ := id hs
  have gTs : s.TypeIs (.ref sl) "slice" := ⟨os, gos, gcs⟩
  unfold getItem
  (try with_reducible refine wpAny_holding ?_)
  (first | refine wpAny_bind (wpAny_pure ?_) | skip)
  (refine wpAny_bind (wpAny_sequenceKey ht.typeIs (by decide) ?_))
  (refine wpAny_bind (wpAny_callSpecial?_slot (name := Str.ofString "__getitem__") ht.typeIs PyProof.Rows.slot_tuple_getitem (wpAny_call_entry PyProof.Rows.slot_tuple_getitem ht.typeIs entry_tuple_getitem ?_ (args_tuple_getitem _ _))))
  (show wpAny _ _ (Builtin.Tuple.tupleItemsOf (.ref t) >>= _) _ _ s)
  (refine wpAny_bind (tupleItemsOf_ ht (wpAny_bind (wpAny_typeOf gTs ?_))))
  rw [if_pos (by decide)]
  (refine wpAny_bind (applied_two hs pl pu ps ?_))
  have hno : ¬ (((0 : Int) == 0 && (2 : Int) == 1 && halfN its.size == its.size) = true) := by
    intro q
    rw [Bool.and_eq_true, Bool.and_eq_true] at q
    exact absurd q.1.2 (by decide)
  (show wpAny _ _ (if ((0 : Int) == 0 && (2 : Int) == 1 && halfN its.size == its.size) = true then _ else _) _ _ s)
  rw [if_neg hno, pick_two]
  (first
    | exact wpAny_bind (m := Builtin.Tuple.tupleExact _) (wpAny_newObj_type (wpAny_pure ⟨_, rfl, wpAny_pure h⟩) htake) | exact wpAny_bind (m := Builtin.Tuple.tupleExact _) (wpAny_newObj_type (wpAny_bind (wpAny_pure (wpAny_pure ⟨_, rfl, wpAny_pure h⟩))) htake)
    | exact wpAny_bind (wpAny_bind (m := Builtin.Tuple.tupleExact _) (wpAny_newObj_type (wpAny_pure (wpAny_pure ⟨_, rfl, wpAny_pure h⟩)) htake)) | exact wpAny_bind (wpAny_bind (m := Builtin.Tuple.tupleExact _) (wpAny_newObj_type (wpAny_pure ⟨_, rfl, wpAny_pure h⟩) htake)))
end
def tTwoT (K : PySem.W.Frag) (te : TE) : TE := fun σ H Q => te σ H fun x H1 => ∃ a xs, x = .ref a ∧ SqT K H1 a xs ∧ ∀ p, H1 p = none → Q (.ref p) (upd H1 p (.tup (everyTwo xs)))
theorem pe_twoT {X : Cx} {e : Expr} {te : TE} {k : Nat} {p1 p3 pos : Pos} (he : PE X e te) : PE X (.Subscript e (.Slice none none (some (.Constant (.int 2) k p1)) p3) pos) (tTwoT X.K te) := by
  refine ⟨fun pins s σ H Q I h => Subscript_ (thn (he.run pins s σ H _ I h) fun v s1 hv => ?_)⟩
  obtain ⟨x, H1, I1, r1, a, xs, ex, hx, q⟩ := hv
  subst ex
  cases r1
  have hst : PO X (some (.Constant (.int 2) k p1)) (tPart (tC (.int 2))) := (po_some pe_int)
  (refine wpAny_Slice (thn (po_none.run pins s1 σ H1 (fun o H2 => o = none ∧ H2 = H1) I1 ⟨rfl, rfl⟩) fun vl s2 hl => ?_))
  obtain ⟨l, H2, I2, pl, el, e2⟩ := hl
  subst el e2
  (refine thn (po_none.run pins s2 σ H2 (fun o H3 => o = none ∧ H3 = H2) I2 ⟨rfl, rfl⟩) fun vu s3 hu => ?_)
  obtain ⟨u, H3, I3, pu, eu, e3⟩ := hu
  subst eu e3
  (refine thn (hst.run pins s3 σ H3 (fun o H4 => o = some 2 ∧ H4 = H3) I3 ⟨2, rfl, rfl, rfl⟩) fun vs s4 hs4 => ?_)
  obtain ⟨o, H4, I4, ps, eo, e4⟩ := hs4
  subst eo e4
  have J : Inv X pins σ H4 { s4 with heap := s4.heap.push { cls := .type "slice", data := .fields #[vl, vu, vs] } } := (I4.kept (t' := s4.toks) fun b ob q => Heap.get?_push_of_some _ q)
  obtain ⟨its, r, ht, hz⟩ := J.tuple hx
  (show wpAny (model X.prog X.w) X.A (subscriptTail e (.Slice none none (some (.Constant (.int 2) k p1)) p3) (.ref a) (.ref s4.heap.objs.size)) (EP X pins σ Q) X.xe { s4 with heap := s4.heap.push { cls := .type "slice", data := .fields #[vl, vu, vs] } })
  refine tail_any (ops := [.ref a, .ref s4.heap.objs.size]) ht.typeIs (PyProof.Rows.slot_tuple_getitem.lookup) ?_ (by with_unfolding_all rfl)
  refine getItem_tuple_two ht (Heap.IsSliceOf.new _ vl vu vs) pl pu ps ?_ (by rw [List.size_toArray, ← r.length]; exact hz)
  refine ⟨.ref _, _, J.laid (t' := s4.toks) (o := .tup (everyTwo xs)) (fun b ob q => Heap.get?_push_of_some _ q) (Nat.le_refl _) ?_, rfl, q _ (J.hok.fresh (Nat.le_refl _))⟩
  exact ⟨Nat.le_trans (two_len xs) hz, _, vals_two r, IsTup.new _ _⟩
end L2
set_option maxRecDepth 100000
set_option maxHeartbeats 8000000
namespace KF
open PySem PySem.Spec PyProof.Rows L2
/-! ### the law's rows: what is due -/
abbrev Wd : Type := Str × Int × Int
abbrev Row : Type := S15 × List Wd
def wD (w : Wd) : PyData := .tuple [.str w.1, .int w.2.1, .int w.2.2]
def rowD (r : Row) : PyData := .tuple [sdt r.1, .list (r.2.map wD)]
structure OneOk (s : S15) (w : Wd) : Prop where
  len : w.1.length ≤ 1000
  one : ∀ d, askS s w.1 [d] = btw w.2.1 (w.2.2 - 1) d
  no0 : askS s w.1 [] = false
  no2 : ∀ d e, askS s w.1 [d, e] = false
def KindOk : S15 → Prop
  | .leaf (.word cs) => GoodC cs
  | .dec cs _ => GoodC cs
  | _ => True
structure GoodR (r : Row) : Prop where
  ok : okS r.1
  few : r.2.length ≤ 10
  one : ∀ w ∈ r.2, OneOk r.1 w
  kind : KindOk r.1
theorem look1 {z : Str} {n : Int} {r : Tops} : List.lookup z ((z, n) :: r) = some n := by
  rw [List.lookup_cons, beq_self_eq_true]
theorem look2 {z y : Str} {n : Int} {r : Tops} (h : (z == y) = false) : List.lookup z ((y, n) :: r) = List.lookup z r := by
  rw [List.lookup_cons, h]
theorem look0 {z : Str} : List.lookup z ([] : Tops) = none := rfl
theorem takes_some {t : Tops} {z : Str} {n : Int} (h : t.lookup z = some n) : (∀ d, takesB t z [d] = btw 0 n d) ∧ takesB t z [] = false ∧ ∀ d e, takesB t z [d, e] = false := by
  unfold takesB
  rw [h]
  exact ⟨fun _ => rfl, rfl, fun _ _ => rfl⟩
theorem takes_no {t : Tops} {z : Str} (h : t.lookup z = none) : ∀ as, takesB t z as = false := by
  unfold takesB
  rw [h]
  exact fun _ => rfl
theorem btw_none (d : PyData) : btw 0 (-1) d = false := by
  cases d with
  | int i =>
    show (decide (0 ≤ i) && decide (i ≤ -1)) = false
    by_cases h : 0 ≤ i
    · rw [decide_eq_false (show ¬ i ≤ -1 by omega), Bool.and_false]
    · rw [decide_eq_false h, Bool.false_and]
  | _ => rfl
/-- a word of a table -/
theorem one_tab {s : S15} {z : Str} {n f l : Int} {t : Tops} (hz : z.length ≤ 1000) (h : ∀ as, as.length ≤ 2 → askS s z as = takesB t z as) (hl : t.lookup z = some n) (hf : f = 0) (hn : l = n + 1) : OneOk s (z, f, l) := by
  obtain ⟨a, b, c⟩ := takes_some hl
  subst hf hn
  refine ⟨hz, fun d => ?_, ?_, fun d e => ?_⟩
  · rw [h _ (by show 1 ≤ 2; decide), a]
    show btw 0 n d = btw 0 (n + 1 - 1) d
    rw [Int.add_sub_cancel]
  · rw [h _ (by show 0 ≤ 2; decide), b]
  · rw [h _ (by show 2 ≤ 2; decide), c]
theorem one_sub (n k : Nat) : ∀ w ∈ ([("contains", 0, (n : Int)), ("rank", 0, (n : Int) + 1), ("select", 0, (k : Int))] : List Wd), OneOk (.leaf (.sub n k)) w := by
  intro w hw
  simp only [List.mem_cons, List.not_mem_nil, or_false] at hw
  rcases hw with rfl | rfl | rfl
  · exact one_tab (t := [("contains", (n : Int) - 1), ("rank", (n : Int)), ("select", (k : Int) - 1)]) (by decide) (fun _ _ => rfl) look1 rfl (by omega)
  · exact one_tab (t := [("contains", (n : Int) - 1), ("rank", (n : Int)), ("select", (k : Int) - 1)]) (by decide) (fun _ _ => rfl) (by rw [look2 (by decide +kernel), look1]) rfl rfl
  · exact one_tab (t := [("contains", (n : Int) - 1), ("rank", (n : Int)), ("select", (k : Int) - 1)]) (by decide) (fun _ _ => rfl) (by rw [look2 (by decide +kernel), look2 (by decide +kernel), look1]) rfl (by omega)
def wordW (cs : Cn) : List Wd := [("letter", 0, totC cs), ("prefix", 0, totC cs + 1), ("entry", 0, totC cs)]
theorem word_ask {cs : Cn} {z : Str} (h : decide (z = "select") = false) (as : List PyData) : wordB cs z as = takesB [("letter", totC cs - 1), ("prefix", totC cs), ("entry", totC cs - 1)] z as := by
  unfold wordB
  rw [h, Bool.false_and, if_neg Bool.false_ne_true]
theorem one_word {s : S15} (cs : Cn) (hs : ∀ z as, askS s z as = wordB cs z as) : ∀ w ∈ wordW cs, OneOk s w := by
  intro w hw
  unfold wordW at hw
  simp only [List.mem_cons, List.not_mem_nil, or_false] at hw
  rcases hw with rfl | rfl | rfl
  · exact one_tab (by decide) (fun as _ => (hs _ as).trans (word_ask (by decide +kernel) as)) look1 rfl (by omega)
  · exact one_tab (by decide) (fun as _ => (hs _ as).trans (word_ask (by decide +kernel) as)) (by rw [look2 (by decide +kernel), look1]) rfl rfl
  · exact one_tab (by decide) (fun as _ => (hs _ as).trans (word_ask (by decide +kernel) as)) (by rw [look2 (by decide +kernel), look2 (by decide +kernel), look1]) rfl (by omega)
theorem one_arr {o : PyData} {m : Nat} (h : (namesN 6 o).length = m) : ∀ w ∈ ([("entry", 0, (m : Int))] : List Wd), OneOk (.leaf (.arr o)) w := by
  intro w hw
  rw [List.mem_singleton.mp hw]
  refine one_tab (t := [("entry", (m : Int) - 1)]) (by decide) (fun as _ => ?_) look1 rfl (by omega)
  show arrB o "entry" as = _
  unfold arrB
  rw [show decide (("entry" : Str) = "locate") = false by decide +kernel, Bool.false_and, if_neg Bool.false_ne_true, h]
theorem one_cyc (n : Nat) : ∀ w ∈ ([("successor", 0, (n : Int)), ("predecessor", 0, (n : Int))] : List Wd), OneOk (.leaf (.cyc n)) w := by
  intro w hw
  simp only [List.mem_cons, List.not_mem_nil, or_false] at hw
  rcases hw with rfl | rfl
  · exact one_tab (t := [("successor", (n : Int) - 1), ("predecessor", (n : Int) - 1)]) (by decide) (fun _ _ => rfl) look1 rfl (by omega)
  · exact one_tab (t := [("successor", (n : Int) - 1), ("predecessor", (n : Int) - 1)]) (by decide) (fun _ _ => rfl) (by rw [look2 (by decide +kernel), look1]) rfl (by omega)
theorem one_tree (n : Nat) : ∀ w ∈ ([("parent", 1, (n : Int))] : List Wd), OneOk (.leaf (.tree n)) w := by
  intro w hw
  rw [List.mem_singleton.mp hw]
  obtain ⟨a, b, c⟩ := takes_some (t := [("parent", (n : Int) - 1)]) (z := "parent") look1
  refine ⟨(by show ("parent" : Str).length ≤ 1000; decide), fun d => ?_, ?_, fun d e => ?_⟩
  · show treeB n "parent" [d] = _
    unfold treeB
    rw [a]
    cases d with
    | int i =>
      show (decide ((0 : Int) ≤ i) && decide (i ≤ (n : Int) - 1) && !decide (i = 0)) = (decide ((1 : Int) ≤ i) && decide (i ≤ (n : Int) - 1))
      by_cases h0 : i = 0
      · subst h0
        rw [decide_eq_true rfl, decide_eq_false (show ¬ (1 : Int) ≤ 0 by decide)]
        simp
      · rw [decide_eq_false h0]
        by_cases h1 : 1 ≤ i
        · rw [decide_eq_true h1, decide_eq_true (show (0 : Int) ≤ i by omega)]
          simp
        · rw [decide_eq_false h1, decide_eq_false (show ¬ (0 : Int) ≤ i by omega)]
          simp
    | _ => rfl
  · show treeB n "parent" [] = false
    unfold treeB
    rw [b]
    rfl
  · show treeB n "parent" [d, e] = false
    unfold treeB
    rw [c]
    rfl
theorem one_mat (n : Nat) : ∀ w ∈ ([("partner", 0, 2 * (n : Int))] : List Wd), OneOk (.leaf (.mat n)) w := by
  intro w hw
  rw [List.mem_singleton.mp hw]
  exact one_tab (t := [("partner", 2 * (n : Int) - 1)]) (by decide) (fun _ _ => rfl) look1 rfl (by omega)
theorem one_perm (n : Nat) (d : PyData) : ∀ w ∈ ([("image", 0, (n : Int)), ("preimage", 0, (n : Int))] : List Wd), OneOk (.leaf (.perm n d)) w := by
  intro w hw
  simp only [List.mem_cons, List.not_mem_nil, or_false] at hw
  rcases hw with rfl | rfl
  · exact one_tab (t := [("image", (n : Int) - 1), ("preimage", (n : Int) - 1)]) (by decide) (fun _ _ => rfl) look1 rfl (by omega)
  · exact one_tab (t := [("image", (n : Int) - 1), ("preimage", (n : Int) - 1)]) (by decide) (fun _ _ => rfl) (by rw [look2 (by decide +kernel), look1]) rfl (by omega)
theorem str_ask {n : Int} {z : Str} (h : decide (z = "letter_in") = false) (h2 : decide (z = "state_in") = false) (as : List PyData) : stringB n z as = takesB [("letter", n - 1), ("state", n)] z as := by
  unfold stringB
  rw [h, h2, Bool.false_and, if_neg Bool.false_ne_true, if_neg Bool.false_ne_true]
theorem one_str (n : Nat) : ∀ w ∈ ([("letter", 0, (n : Int)), ("state", 0, (n : Int) + 1)] : List Wd), OneOk (.leaf (.str n)) w := by
  intro w hw
  simp only [List.mem_cons, List.not_mem_nil, or_false] at hw
  rcases hw with rfl | rfl
  · exact one_tab (t := [("letter", (n : Int) - 1), ("state", (n : Int))]) (by decide) (fun as _ => str_ask (n := (n : Int)) (z := "letter") (by decide +kernel) (by decide +kernel) as) look1 rfl (by omega)
  · exact one_tab (t := [("letter", (n : Int) - 1), ("state", (n : Int))]) (by decide) (fun as _ => str_ask (n := (n : Int)) (z := "state") (by decide +kernel) (by decide +kernel) as) (by rw [look2 (by decide +kernel), look1]) rfl rfl
def walkW (n s e : Int) : List Wd := ("height", 0, n + 1) :: (if (n + e - s) % 2 = 0 then [("up", 0, (n + e - s) / 2), ("down", 0, (n - e + s) / 2)] else [("up", 0, 0), ("down", 0, 0)])
theorem walk_ask {n s e : Int} {z : Str} (h : decide (z = "first_visit") = false) (h2 : decide (z = "last_visit") = false) (as : List PyData) : walkB n s e z as = takesB (topsW n s e) z as := by
  unfold walkB
  rw [h, h2, Bool.false_or, Bool.false_and, if_neg Bool.false_ne_true]
theorem one_walk (n s e lo hi : Int) : ∀ w ∈ walkW n s e, OneOk (.leaf (.walk n s e lo hi)) w := by
  intro w hw
  unfold walkW at hw
  have none : ∀ z : Str, z.length ≤ 1000 → decide (z = "first_visit") = false → decide (z = "last_visit") = false → (topsW n s e).lookup z = none → OneOk (.leaf (.walk n s e lo hi)) (z, 0, 0) := fun z hz h1 h2 hl => by
    have t := takes_no hl
    refine ⟨hz, fun d => ?_, ?_, fun d e' => ?_⟩
    · show walkB n s e z [d] = btw 0 (0 - 1) d
      rw [walk_ask h1 h2, t]
      exact (btw_none d).symm
    · show walkB n s e z [] = false
      rw [walk_ask h1 h2, t]
    · show walkB n s e z [d, e'] = false
      rw [walk_ask h1 h2, t]
  rcases List.mem_cons.mp hw with rfl | hw
  · refine one_tab (t := topsW n s e) (by decide) (fun as _ => walk_ask (n := n) (s := s) (e := e) (z := "height") (by decide +kernel) (by decide +kernel) as) ?_ rfl rfl
    unfold topsW
    split <;> exact look1
  · by_cases hev : (n + e - s) % 2 = 0
    · rw [if_pos hev] at hw
      simp only [List.mem_cons, List.not_mem_nil, or_false] at hw
      rcases hw with rfl | rfl
      · refine one_tab (t := topsW n s e) (n := (n + e - s) / 2 - 1) (by decide) (fun as _ => walk_ask (n := n) (s := s) (e := e) (z := "up") (by decide +kernel) (by decide +kernel) as) ?_ rfl (by omega)
        unfold topsW
        rw [if_pos hev, look2 (by decide +kernel), look1]
      · refine one_tab (t := topsW n s e) (n := (n - e + s) / 2 - 1) (by decide) (fun as _ => walk_ask (n := n) (s := s) (e := e) (z := "down") (by decide +kernel) (by decide +kernel) as) ?_ rfl (by omega)
        unfold topsW
        rw [if_pos hev, look2 (by decide +kernel), look2 (by decide +kernel), look1]
    · rw [if_neg hev] at hw
      have tp : topsW n s e = ([("height", n)] : Tops) := by
        unfold topsW
        rw [if_neg hev]
      simp only [List.mem_cons, List.not_mem_nil, or_false] at hw
      rcases hw with rfl | rfl
      · exact none _ (by decide) (by decide +kernel) (by decide +kernel) (by rw [tp, look2 (by decide +kernel), look0])
      · exact none _ (by decide) (by decide +kernel) (by decide +kernel) (by rw [tp, look2 (by decide +kernel), look0])
end KF
set_option maxRecDepth 100000
set_option maxHeartbeats 8000000
namespace KF
open PySem PySem.Spec PyProof.Rows L2
/-! ### _law_rows -/
abbrev s_rows : Stmt := top 42
theorem hid_off {hs : List Addr} {p q : Addr} {H H' : Hp} (hp : p ∈ hs) (hq : q ∈ hs) (O : Off p q H H') : Same (hid hs H) (hid hs H') := fun b o e => by
  have n := hid_not e
  exact hid_at (O _ _ (hid_sub _ _ e) (fun z => n (by rw [z]; exact hp)) (fun z => n (by rw [z]; exact hq))) n
theorem dk_liv {H : Hp} {p q : Addr} {b : Nat} (D : Dk H p q b) : H p ≠ none ∧ H q ≠ none := by
  obtain ⟨ns, m, c, D, _⟩ := D
  exact ⟨(by rw [D.ob]; intro z; cases z), (by rw [D.ce]; intro z; cases z)⟩
theorem dk_lists {H : Hp} {p q : Addr} {b : Nat} (D : Dk H p q b) : (∃ xs, H p = some (.lst xs)) ∧ ∃ xs, H q = some (.lst xs) := by
  obtain ⟨ns, m, c, D, _⟩ := D
  exact ⟨⟨_, D.ob⟩, _, D.ce⟩
/-- the list of rows, as it grows -/
structure RS (H : Hp) (p q F : Addr) (rows : List Row) (b : Nat) (Hx : Hp) : Prop where
  nF : H F = none
  ne : F ≠ p ∧ F ≠ q
  off : Off p q H Hx
  dk : Dk Hx p q b
  f : ∃ xs, Hx F = some (.lst xs) ∧ xs.length = rows.length ∧ DatAll (hid [p, q, F] Hx) xs (rows.map rowD)
  gd : ∀ r ∈ rows, GoodR r
section
variable {H Hx Hy : Hp} {p q F : Addr} {rows : List Row} {b b' : Nat}
theorem RS.liv (r : RS H p q F rows b Hx) : Liv [p, q, F] Hx := by
  obtain ⟨xs, h, _⟩ := r.f
  obtain ⟨h1, h2⟩ := dk_liv r.dk
  intro a ha
  simp only [List.mem_cons, List.not_mem_nil, or_false] at ha
  rcases ha with rfl | rfl | rfl
  · exact h1
  · exact h2
  · rw [h]
    intro z
    cases z
theorem RS.lists (r : RS H p q F rows b Hx) : ∀ a ∈ [p, q, F], ∃ xs, Hx a = some (.lst xs) := by
  obtain ⟨xs, h, _⟩ := r.f
  obtain ⟨h1, h2⟩ := dk_lists r.dk
  intro a ha
  simp only [List.mem_cons, List.not_mem_nil, or_false] at ha
  rcases ha with rfl | rfl | rfl
  · exact h1
  · exact h2
  · exact ⟨_, h⟩
theorem RS.offs (r : RS H p q F rows b Hx) (O : Off p q Hx Hy) (D : Dk Hy p q b') : RS H p q F rows b' Hy where
  nF := r.nF
  ne := r.ne
  off := r.off.trans O
  dk := D
  f := by
    obtain ⟨xs, h, l, d⟩ := r.f
    exact ⟨xs, O _ _ h r.ne.1 r.ne.2, l, d.same (hid_off (by simp) (by simp) O)⟩
  gd := r.gd
theorem RS.same (r : RS H p q F rows b Hx) (S : Same Hx Hy) : RS H p q F rows b Hy := r.offs (.of_same S) (r.dk.same S)
theorem RS.mono (r : RS H p q F rows b Hx) (h : b ≤ b') : RS H p q F rows b' Hx := ⟨r.nF, r.ne, r.off, r.dk.mono h, r.f, r.gd⟩
theorem RS.add {r : Row} {v : V} (s : RS H p q F rows b Hx) (dv : Dat (hid [p, q, F] Hx) v (rowD r)) (g : GoodR r) : ∃ xs, Hx F = some (.lst xs) ∧ xs.length = rows.length ∧ RS H p q F (rows ++ [r]) b (upd Hx F (.lst (xs ++ [v]))) ∧ Same (hid [p, q, F] Hx) (hid [p, q, F] (upd Hx F (.lst (xs ++ [v])))) := by
  obtain ⟨xs, h, l, d⟩ := s.f
  have e : hid [p, q, F] (upd Hx F (.lst (xs ++ [v]))) = hid [p, q, F] Hx := hid_upd (by simp)
  refine ⟨xs, h, l, ⟨s.nF, s.ne, s.off.upd s.nF, dk_upd s.dk s.ne.1 s.ne.2, ⟨_, upd_same, by rw [List.length_append, List.length_append, l]; rfl, ?_⟩, fun r' hr' => ?_⟩, ?_⟩
  · rw [e, List.map_append]
    exact datAll_append d (.cons dv .nil)
  · rcases List.mem_append.mp hr' with z | z
    · exact s.gd r' z
    · rw [List.mem_singleton.mp z]
      exact g
  · rw [e]
    exact Same.refl _
/-- data without lists is apart from the deck and the rows -/
theorem RS.dat (r : RS H p q F rows b Hx) {v : V} {d : PyData} (h : Dat Hx v d) (n : noL d = true) : Dat (hid [p, q, F] Hx) v d := dat_hid r.lists h n
end
def rDbl (R : RD) : RD := fun hs σ H d => ∃ i : Int, d = .int (2 * i) ∧ R hs σ H (.int i)
def rIx (k : Nat) (R : RD) : RD := fun hs σ H d => ∃ ds, R hs σ H (.tuple ds) ∧ ds[k]? = some d
section
variable {X : Cx} {e e2 : Expr} {R : RD} {pos : Pos}
theorem pr_dbl (b : PE X e2 (tC (.int 2))) (a : PR X e R) : PR X (.BinOp e2 .Mult e pos) (rDbl R) :=
  ⟨pe_weak (pe_op op_mul b a.pe) fun σ H Q ⟨hs, d, l, ⟨i, hd, ri⟩, k⟩ => ⟨hs, _, l, ri, fun v H1 S1 dv => ⟨2, i, rfl, dat_int dv, .inl ⟨by decide, by decide⟩, k _ H1 S1 (by rw [hd]; exact .int _)⟩⟩,
   fun _ _ _ _ _ Sm ⟨i, hd, ri⟩ => ⟨i, hd, a.mo _ _ _ _ _ Sm ri⟩⟩
theorem pr_ix {k : Nat} (a : PR X e R) (b : PE X e2 (tC (.int (k : Nat)))) (hs0 : PlainIx e2 := by exact fun _ _ => rfl) : PR X (.Subscript e e2 pos) (rIx k R) :=
  ⟨pe_weak (pe_ix ix_tup a.pe b hs0) fun σ H Q ⟨hs, d, l, ⟨ds, ri, hd⟩, kk⟩ => ⟨hs, _, l, ri, fun v H1 S1 dv => by
    cases dv with
    | @tup ad xs _ h0 h1 =>
      obtain ⟨x, hx, dx⟩ := h1.at hd
      exact ⟨ad, xs, _, x, rfl, rfl, SqT.of (hid_sub _ _ h0), atI_nat hx, kk x H1 S1 dx⟩⟩,
   fun _ _ _ _ _ Sm ⟨ds, ri, hd⟩ => ⟨ds, a.mo _ _ _ _ _ Sm ri, hd⟩⟩
end
def smallD : List PyData := [.tuple [.str "cycle", .int 1], .tuple [.str "subset", .int 1, .int 0]]
theorem small_get {j : Nat} {d : PyData} (h : smallD[j]? = some d) : ∃ l : L15, d = ldt l ∧ okL l ∧ noL d = true := by
  match j, h with
  | 0, h => exact ⟨.cyc 1, (Option.some.inj h).symm, trivial, by rw [← Option.some.inj h]; rfl⟩
  | 1, h => exact ⟨.sub 1 0, (Option.some.inj h).symm, trivial, by rw [← Option.some.inj h]; rfl⟩
  | n + 2, h => simp [smallD] at h
theorem ints_dat : ∀ xs : List V, (∀ x ∈ xs, ∃ i, x = V.int i) → ∃ ds : List PyData, ∀ H, DatAll H xs ds
  | [], _ => ⟨[], fun _ => .nil⟩
  | x :: xs, h => by
    obtain ⟨i, rfl⟩ := h x List.mem_cons_self
    obtain ⟨ds, hd⟩ := ints_dat xs fun y hy => h y (List.mem_cons_of_mem _ hy)
    exact ⟨.int i :: ds, fun H => .cons (.int i) (hd H)⟩
theorem two_mem {α : Type} {xs : List α} {x : α} (h : x ∈ everyTwo xs) : x ∈ xs := by
  unfold everyTwo at h
  obtain ⟨k, _, hk⟩ := List.mem_filterMap.mp h
  exact List.mem_of_getElem? hk
theorem rg_ints {a b : Int} : ∀ x ∈ rgV a b, ∃ i, x = V.int i := fun x hx => by
  unfold rgV at hx
  obtain ⟨k, _, rfl⟩ := List.mem_map.mp hx
  exact ⟨_, rfl⟩
theorem name_len {x : Str} (h : nameB (.str x) = true) : x.length ≤ 1000 := by
  have h' : (decide (1 ≤ (x.length : Int)) && decide ((x.length : Int) ≤ 6) && x.cps.toList.all azB) = true := h
  rw [Bool.and_eq_true, Bool.and_eq_true] at h'
  have := of_decide_eq_true h'.1.2
  omega
theorem str_noL (n : Nat) : noL (strD n) = true := by
  unfold strD
  rw [noL, noLs, noLs, noLs, noLs, noL, noLs, noL, movesD_noL]
  rfl
def spRows : Sp := fun vs H Q _ => ∃ (p q : Addr) (b : Nat), vs = [.ref p] ∧ Dk H p q b ∧ b + 200 ≤ 100000000 ∧
  ∀ (a : Addr) (xs : List V) (rows : List Row) (H' : Hp), H a = none → Off p q H H' → Dk H' p q (b + 60) → H' a = some (.lst xs) → DatAll (hide p q H') xs (rows.map rowD) → rows.length ≤ 20 → (∀ r ∈ rows, GoodR r) → Q (.ref a) H'
theorem good_mk {s : S15} {ws : List Wd} (h1 : okS s) (h2 : ws.length ≤ 10) (h3 : ∀ w ∈ ws, OneOk s w) (h4 : KindOk s) : GoodR (s, ws) := ⟨h1, h2, h3, h4⟩
section
variable {P : Program} {w : World} {K : PySem.W.Frag} {mg : Str → Option Value} {base : Heap}
theorem sc_rows : FnScope ["_law_deck_here", "_law_found", "_law_n", "_law_k", "_law_counts_here", "_law_total", "_law_words", "_law_small", "_law_names", "_law_leaf", "_law_letter", "_law_often"] ["_law_deck_here"] (defScope s_rows) := ⟨rfl, rfl, rfl, by decide +kernel, rfl, by decide +kernel, by decide +kernel⟩
theorem ok_rows {f fP fD fZ fC fM fO fS : Addr} {fd fdP fdD fdZ fdC fdM fdO fdS : FuncData} (F : Fun K "_law_rows" "_law_rows" s_rows f fd) (T : Nm mg)
    (D_pick : DefOk K mg "_law_pick" sPick ["_law_deck_here", "_law_items"] fP fdP) (D_draw : DefOk K mg "_law_draw" sDraw ["_law_deck_here", "_law_bound"] fD fdD) (D_size : DefOk K mg "_law_size" s_size ["_law_deck_here", "_law_most"] fZ fdZ) (D_counts : DefOk K mg "_law_counts" s_counts ["_law_deck_here"] fC fdC)
    (D_many : DefOk K mg "_law_many_names" s_many ["_law_count"] fM fdM) (D_order : DefOk K mg "_law_order" s_order ["_law_names", "_law_depth"] fO fdO) (D_string : DefOk K mg "_law_string" s_string ["_law_deck_here"] fS fdS)
    (G_pick : FnOk P w K mg base CX0 2 fP fdP ["_law_deck_here", "_law_items"] spPick) (G_size : FnOk P w K mg base CX0 3 fZ fdZ ["_law_deck_here", "_law_most"] spSize) (G_counts : FnOk P w K mg base CX0 2 fC fdC ["_law_deck_here"] spCounts)
    (G_many : FnOk P w K mg base CX0 1 fM fdM ["_law_count"] spMany) (G_order : FnOk P w K mg base CX0 6 fO fdO ["_law_names", "_law_depth"] (spOrd 5)) (G_string : FnOk P w K mg base CX0 3 fS fdS ["_law_deck_here"] spString) :
    FnOk P w K mg base CX0 7 f fd ["_law_deck_here"] spRows := by
  have G_draw : FnOk P w K mg base CX0 1 fD fdD ["_law_deck_here", "_law_bound"] spDraw := ok_draw D_draw.F
  refine F.ok sc_rows (fun vs H Q E h => ?_) (fun cdv A outer s H vs Q E hr h => ?_)
  · obtain ⟨p, q, b, rfl, _⟩ := h
    rfl
  · obtain ⟨p, q, b, rfl, D, hb, k⟩ := h
    have hr1 : Room 1 _ := hr.mono (by decide)
    have hr2 : Room 2 _ := hr.mono (by decide)
    have hr3 : Room 3 _ := hr.mono (by decide)
    refine ⟨_, (pss_cons (ps_par (i := 1) (j := 2) rfl sc_rows.nd rfl rfl (by decide) rfl rfl (pa_cons (pe_lst pa_nil) (pa_cons (pe_call G_size hr3 rfl D_size.g D_size.F.kp D_size.b .nil pass0 (pa_cons (pv 0) (pa_cons pe_int pa_nil))) pa_nil)) (by rfl))
      (pss_cons (ps_set (i := 3) sc_rows.nd rfl (Or.inl rfl) (pe_call G_pick hr2 rfl D_pick.g D_pick.F.kp D_pick.b .nil pass0 (pa_cons (pv 0) (pa_cons (pe_lst (pa_cons pe_int (pa_cons (pv 2) (pa_cons (pe_call G_draw hr1 rfl D_draw.g D_draw.F.kp D_draw.b .nil pass0 (pa_cons (pv 0) (pa_cons (pe_op op_add (pv 2) pe_int) pa_nil))) pa_nil)))) pa_nil))))
      (pss_cons (ps_expr (pe_bm PySem.F.plainAttrs_list PySem.F.slot_list_append PySem.F.type_list_append mt_append (pv 1) (pa_cons (pr_tup (pr_cons (pr_tup (pr_cons (pr_str (by decide) pe_str) (pr_cons (pr_var (pv 2)) (pr_cons (pr_var (pv 3)) pr_nil)))) (pr_cons (pr_lst (pr_cons (pr_tup (pr_cons (pr_str (by decide) pe_str) (pr_cons (pr_int pe_int) (pr_cons (pr_var (pv 2)) pr_nil)))) (pr_cons (pr_tup (pr_cons (pr_str (by decide) pe_str) (pr_cons (pr_int pe_int) (pr_cons (pr_add (pr_var (pv 2)) (pr_int pe_int)) pr_nil)))) (pr_cons (pr_tup (pr_cons (pr_str (by decide) pe_str) (pr_cons (pr_int pe_int) (pr_cons (pr_var (pv 3)) pr_nil)))) pr_nil)))) pr_nil))).pe pa_nil)))
      (pss_cons (ps_set (i := 4) sc_rows.nd rfl (Or.inl rfl) (pe_call G_counts hr2 rfl D_counts.g D_counts.F.kp D_counts.b .nil pass0 (pa_cons (pv 0) pa_nil)))
      (pss_cons (ps_set (i := 5) sc_rows.nd rfl (Or.inl rfl) (pe_callB (cr_sum rfl) (by rfl) T.sum boot_sum (pa_cons (pe_lc (own := [("_law_letter", 10), ("_law_often", 11)]) (g := (gTup K 2 (gCons (gName 10) (gCons (gName 11) gNil)))) (tt := tYes) (te := tVar 11) rfl sc_rows.nd (pi_tup (pv 4)) (blkOk_by (N := ["_law_deck_here", "_law_found", "_law_n", "_law_k", "_law_counts_here", "_law_total", "_law_words", "_law_small", "_law_names", "_law_leaf", "_law_letter", "_law_often"]) (sc := defScope s_rows) (by decide +kernel))
          (fun _ _ _ _ _ => (pg_tup rfl (pgs_cons (pg_name (i := 10) sc_rows.nd rfl (Or.inl rfl)) (pgs_cons (pg_name (i := 11) sc_rows.nd rfl (Or.inl rfl)) pgs_nil)))) (fun _ _ _ _ _ => pts_nil) (fun _ _ _ _ _ => (pv 11))) pa_nil)))
      (pss_cons (ps_set (i := 6) sc_rows.nd rfl (Or.inl rfl) (pr_lst (pr_cons (pr_tup (pr_cons (pr_str (by decide) pe_str) (pr_cons (pr_int pe_int) (pr_cons (pr_var (pv 5)) pr_nil)))) (pr_cons (pr_tup (pr_cons (pr_str (by decide) pe_str) (pr_cons (pr_int pe_int) (pr_cons (pr_add (pr_var (pv 5)) (pr_int pe_int)) pr_nil)))) (pr_cons (pr_tup (pr_cons (pr_str (by decide) pe_str) (pr_cons (pr_int pe_int) (pr_cons (pr_var (pv 5)) pr_nil)))) pr_nil)))).pe)
      (pss_cons (ps_expr (pe_bm PySem.F.plainAttrs_list PySem.F.slot_list_append PySem.F.type_list_append mt_append (pv 1) (pa_cons (pr_tup (pr_cons (pr_tup (pr_cons (pr_str (by decide) pe_str) (pr_cons (pr_var (pv 4)) pr_nil))) (pr_cons (pr_var (pv 6)) pr_nil))).pe pa_nil)))
      (pss_cons (ps_set (i := 7) sc_rows.nd rfl (Or.inl rfl) (pe_callTy call_tuple_of (by rfl) T.tuple (by decide +kernel) (pa_cons (pe_lc (own := [("_law_letter", 10), ("_law_often", 11)]) (g := (gTup K 2 (gCons (gName 10) (gCons (gName 11) gNil)))) (tt := tYes) (te := tCall spPick [] E0 (tCons (tVar 0) (tCons (tRN (rCons (rT (rCons (rC (.str "cycle")) (rCons (rC (.int 1)) rNil))) (rCons (rT (rCons (rC (.str "subset")) (rCons (rC (.int 1)) (rCons (rC (.int 0)) rNil)))) rNil))) tNil))) rfl sc_rows.nd (pi_tup (pv 4)) (blkOk_by (N := ["_law_deck_here", "_law_found", "_law_n", "_law_k", "_law_counts_here", "_law_total", "_law_words", "_law_small", "_law_names", "_law_leaf", "_law_letter", "_law_often"]) (sc := defScope s_rows) (by decide +kernel))
          (fun _ _ _ _ _ => (pg_tup rfl (pgs_cons (pg_name (i := 10) sc_rows.nd rfl (Or.inl rfl)) (pgs_cons (pg_name (i := 11) sc_rows.nd rfl (Or.inl rfl)) pgs_nil)))) (fun _ _ _ _ _ => pts_nil) (fun _ _ _ _ _ => (pe_call G_pick hr2 rfl D_pick.g D_pick.F.kp D_pick.b .nil pass0 (pa_cons (pv 0) (pa_cons (pr_lstN (pr_cons (pr_tup (pr_cons (pr_str (by decide) pe_str) (pr_cons (pr_int pe_int) pr_nil))) (pr_cons (pr_tup (pr_cons (pr_str (by decide) pe_str) (pr_cons (pr_int pe_int) (pr_cons (pr_int pe_int) pr_nil)))) pr_nil))) pa_nil))))) pa_nil)))
      (pss_cons (ps_expr (pe_bm PySem.F.plainAttrs_list PySem.F.slot_list_append PySem.F.type_list_append mt_append (pv 1) (pa_cons (pr_tup (pr_cons (pr_tup (pr_cons (pr_str (by decide) pe_str) (pr_cons (pr_var (pv 4)) (pr_cons (pr_var (pv 7)) pr_nil)))) (pr_cons (pr_var (pv 6)) pr_nil))).pe pa_nil)))
      (pss_cons (ps_set (i := 8) sc_rows.nd rfl (Or.inl rfl) (pe_call G_many hr1 rfl D_many.g D_many.F.kp D_many.b .nil pass0 (pa_cons (pe_call G_size hr3 rfl D_size.g D_size.F.kp D_size.b .nil pass0 (pa_cons (pv 0) (pa_cons pe_int pa_nil))) pa_nil)))
      (pss_cons (ps_expr (pe_bm PySem.F.plainAttrs_list PySem.F.slot_list_append PySem.F.type_list_append mt_append (pv 1) (pa_cons (pe_tup (pa_cons (pe_tup (pa_cons pe_str (pa_cons (pe_call G_order hr rfl D_order.g D_order.F.kp D_order.b .nil pass0 (pa_cons (pv 8) (pa_cons (pe_call G_draw hr1 rfl D_draw.g D_draw.F.kp D_draw.b .nil pass0 (pa_cons (pv 0) (pa_cons pe_int pa_nil))) pa_nil))) pa_nil))) (pa_cons (pe_lst (pa_cons (pe_tup (pa_cons pe_str (pa_cons pe_int (pa_cons (pe_callB call_len_seq (by rfl) T.len PySem.boot_len (pa_cons (pv 8) pa_nil)) pa_nil)))) pa_nil)) pa_nil))) pa_nil)))
      (pss_cons (ps_set (i := 2) sc_rows.nd rfl (Or.inl rfl) (pe_call G_size hr3 rfl D_size.g D_size.F.kp D_size.b .nil pass0 (pa_cons (pv 0) (pa_cons pe_int pa_nil))))
      (pss_cons (ps_expr (pe_bm PySem.F.plainAttrs_list PySem.F.slot_list_append PySem.F.type_list_append mt_append (pv 1) (pa_cons (pr_tup (pr_cons (pr_tup (pr_cons (pr_str (by decide) pe_str) (pr_cons (pr_var (pv 2)) pr_nil))) (pr_cons (pr_lst (pr_cons (pr_tup (pr_cons (pr_str (by decide) pe_str) (pr_cons (pr_int pe_int) (pr_cons (pr_var (pv 2)) pr_nil)))) (pr_cons (pr_tup (pr_cons (pr_str (by decide) pe_str) (pr_cons (pr_int pe_int) (pr_cons (pr_var (pv 2)) pr_nil)))) pr_nil))) pr_nil))).pe pa_nil)))
      (pss_cons (ps_expr (pe_bm PySem.F.plainAttrs_list PySem.F.slot_list_append PySem.F.type_list_append mt_append (pv 1) (pa_cons (pr_tup (pr_cons (pr_tup (pr_cons (pr_str (by decide) pe_str) (pr_cons (pr_var (pv 2)) pr_nil))) (pr_cons (pr_lst (pr_cons (pr_tup (pr_cons (pr_str (by decide) pe_str) (pr_cons (pr_int pe_int) (pr_cons (pr_var (pv 2)) pr_nil)))) pr_nil)) pr_nil))).pe pa_nil)))
      (pss_cons (ps_set (i := 2) sc_rows.nd rfl (Or.inl rfl) (pe_call G_pick hr2 rfl D_pick.g D_pick.F.kp D_pick.b .nil pass0 (pa_cons (pv 0) (pa_cons (pe_lst (pa_cons pe_int (pa_cons pe_int (pa_cons (pe_op op_add pe_int (pe_call G_draw hr1 rfl D_draw.g D_draw.F.kp D_draw.b .nil pass0 (pa_cons (pv 0) (pa_cons pe_int pa_nil)))) pa_nil)))) pa_nil))))
      (pss_cons (ps_expr (pe_bm PySem.F.plainAttrs_list PySem.F.slot_list_append PySem.F.type_list_append mt_append (pv 1) (pa_cons (pr_tup (pr_cons (pr_tup (pr_cons (pr_str (by decide) pe_str) (pr_cons (pr_var (pv 2)) pr_nil))) (pr_cons (pr_lst (pr_cons (pr_tup (pr_cons (pr_str (by decide) pe_str) (pr_cons (pr_int pe_int) (pr_cons (pr_dbl pe_int (pr_var (pv 2))) pr_nil)))) pr_nil)) pr_nil))).pe pa_nil)))
      (pss_cons (ps_set (i := 2) sc_rows.nd rfl (Or.inl rfl) (pe_call G_pick hr2 rfl D_pick.g D_pick.F.kp D_pick.b .nil pass0 (pa_cons (pv 0) (pa_cons (pe_lst (pa_cons pe_int (pa_cons pe_int (pa_cons (pe_op op_add pe_int (pe_call G_draw hr1 rfl D_draw.g D_draw.F.kp D_draw.b .nil pass0 (pa_cons (pv 0) (pa_cons pe_int pa_nil)))) pa_nil)))) pa_nil))))
      (pss_cons (ps_expr (pe_bm PySem.F.plainAttrs_list PySem.F.slot_list_append PySem.F.type_list_append mt_append (pv 1) (pa_cons (pe_tup (pa_cons (pe_tup (pa_cons pe_str (pa_cons (pv 2) (pa_cons (pe_twoT (pe_tupRg rfl (by rfl) T.tuple (prg_1 (by rfl) T.range (pv 2)))) pa_nil)))) (pa_cons (pr_lst (pr_cons (pr_tup (pr_cons (pr_str (by decide) pe_str) (pr_cons (pr_int pe_int) (pr_cons (pr_var (pv 2)) pr_nil)))) (pr_cons (pr_tup (pr_cons (pr_str (by decide) pe_str) (pr_cons (pr_int pe_int) (pr_cons (pr_var (pv 2)) pr_nil)))) pr_nil))).pe pa_nil))) pa_nil)))
      (pss_cons (ps_set (i := 9) sc_rows.nd rfl (Or.inl rfl) (pe_call G_string hr3 rfl D_string.g D_string.F.kp D_string.b .nil pass0 (pa_cons (pv 0) pa_nil)))
      (pss_cons (ps_expr (pe_bm PySem.F.plainAttrs_list PySem.F.slot_list_append PySem.F.type_list_append mt_append (pv 1) (pa_cons (pr_tup (pr_cons (pr_var (pv 9)) (pr_cons (pr_lst (pr_cons (pr_tup (pr_cons (pr_str (by decide) pe_str) (pr_cons (pr_int pe_int) (pr_cons (pr_ix (k := 2) (pr_var (pv 9)) pe_int) pr_nil)))) (pr_cons (pr_tup (pr_cons (pr_str (by decide) pe_str) (pr_cons (pr_int pe_int) (pr_cons (pr_add (pr_ix (k := 2) (pr_var (pv 9)) pe_int) (pr_int pe_int)) pr_nil)))) pr_nil))) pr_nil))).pe pa_nil)))
      (pss_one (ps_ret (pv 1))))))))))))))))))))))), ?_⟩
    -- found, n
    refine ⟨(by show 0 ≤ sizeLine; decide), fun L nL => ⟨_, rfl, p, q, b, 400, rfl, D.same (same_new nL), by omega, by decide, by decide, fun n H1 hn1 hn2 O1 D1 => ⟨_, _, rfl, ?_⟩⟩⟩
    have SL := same_new (o := HO.lst []) nL
    have Ln := D.new nL
    have rs : RS H p q L [] (b + 2) H1 := ⟨nL, Ln, (Off.of_same SL).trans O1, D1, ⟨[], O1 _ _ upd_same Ln.1 Ln.2, rfl, .nil⟩, fun r h => by cases h⟩
    -- k
    refine ⟨_, rfl, _, rfl, _, rfl, _, rfl, _, _, rfl, rfl, ?_⟩
    dsimp only [tCons, tC, tNil]
    rw [show ((n : Nat) : Int) + 1 = ((n + 1 : Nat) : Int) by omega]
    refine draw_of (E := E0) D1 (by omega) (by omega) (by omega) fun j H2 hj O2 D2 => ?_
    refine ⟨(by show 3 ≤ sizeLine; decide), fun l nl => ?_⟩
    have S3 := same_new (o := HO.lst [.int 0, .int (n : Nat), .int (j : Nat)]) nl
    have ln := D2.new nl
    refine pick_of (E := E0) (D2.same S3) upd_same ln.1 ln.2 (by show 0 < 3; decide) (by show 3 ≤ 1000; decide) (by omega) fun i x H4 hx O4 D4 => ?_
    obtain ⟨k0, rfl⟩ : ∃ k0 : Nat, x = .int (k0 : Nat) := by
      match i, hx with
      | 0, hx => exact ⟨0, (Option.some.inj hx).symm⟩
      | 1, hx => exact ⟨n, (Option.some.inj hx).symm⟩
      | 2, hx => exact ⟨j, (Option.some.inj hx).symm⟩
      | n + 3, hx => cases hx
    have rs := ((rs.offs O2 D2).same S3).offs O4 D4
    clear nl S3 ln
    obtain ⟨xs0, hL0, _⟩ := rs.f
    refine ⟨_, rfl, .inl ⟨rfl, _, SqL.of hL0⟩, [p, q, L], rowD (S15.leaf (.sub n k0), [("contains", 0, (n : Int)), ("rank", 0, (n : Int) + 1), ("select", 0, (k0 : Int))]), rs.liv, ⟨_, rfl, Nat.le_of_ble_eq_true rfl, ⟨_, _, rfl, ⟨_, rfl, Nat.le_of_ble_eq_true rfl, ⟨_, _, rfl, rfl, ⟨_, _, rfl, ⟨_, rfl, .int _⟩, ⟨_, _, rfl, ⟨_, rfl, .int _⟩, rfl⟩⟩⟩⟩, ⟨_, _, rfl, ⟨_, rfl, Nat.le_of_ble_eq_true rfl, ⟨_, _, rfl, ⟨_, rfl, Nat.le_of_ble_eq_true rfl, ⟨_, _, rfl, rfl, ⟨_, _, rfl, rfl, ⟨_, _, rfl, ⟨_, rfl, .int _⟩, rfl⟩⟩⟩⟩, ⟨_, _, rfl, ⟨_, rfl, Nat.le_of_ble_eq_true rfl, ⟨_, _, rfl, rfl, ⟨_, _, rfl, rfl, ⟨_, _, rfl, ⟨_, _, rfl, ⟨_, rfl, .int _⟩, rfl⟩, rfl⟩⟩⟩⟩, ⟨_, _, rfl, ⟨_, rfl, Nat.le_of_ble_eq_true rfl, ⟨_, _, rfl, rfl, ⟨_, _, rfl, rfl, ⟨_, _, rfl, ⟨_, rfl, .int _⟩, rfl⟩⟩⟩⟩, rfl⟩⟩⟩⟩, rfl⟩⟩⟩, fun v Hy Sy dv => ?_⟩
    obtain ⟨xs, hL, hxl, rs, Sh⟩ := (rs.same Sy).add (r := (S15.leaf (.sub n k0), [("contains", 0, (n : Int)), ("rank", 0, (n : Int) + 1), ("select", 0, (k0 : Int))])) dv (by exact good_mk trivial (by show 3 ≤ 10; decide) (one_sub n k0) trivial)
    refine ⟨L, xs, _, rfl, rfl, hL, (by rw [hxl, sizeLine_eq]; show 0 < _; decide), ?_⟩
    have hh := (hid_same (hs := [p, q, L]) Sy).trans Sh
    generalize upd Hy L (.lst (xs ++ [v])) = Hz at rs hh ⊢
    -- counts
    refine ⟨_, rfl, p, q, _, rfl, rs.dk, by omega, fun vc cs H5 gc O5 D5 dc => ?_⟩
    have rs := rs.offs O5 D5
    have dcs := rs.dat (dc.same (hide_sub p q H5)) (cnts_noL cs)
    clear dc D1 D2 D4 O1 O2 O4 O5 D5 hh
    have hcl : cs.length ≤ 6 := by
      obtain ⟨⟨m', _, h6, e⟩, _⟩ := gc
      have := congrArg List.length e
      rw [List.length_map, List.length_take] at this
      omega
    obtain ⟨bc, xc, rfl, hbc, hxc⟩ : ∃ (bc : Addr) (xc : List V), vc = .ref bc ∧ hid [p, q, L] H5 bc = some (.tup xc) ∧ DatAll (hid [p, q, L] H5) xc (cs.map cntD) := by
      cases dcs with
      | tup h1 h2 => exact ⟨_, _, rfl, h1, h2⟩
    have lc := hxc.len
    rw [List.length_map] at lc
    -- total
    refine ⟨_, rfl, bc, rfl, ⟨_, SqT.of (hid_sub _ _ hbc)⟩, fun D nD => lc_map (K := K) (fun d => .int (cN d)) (hid_sub _ _ hbc) (hxc.same hid_sub) (by omega) nD (fun i x d Hx hi hdi td S R hR => ?_) mono_tup2 fun H6 S6 hD => ?_⟩
    · obtain ⟨c, hc', rfl⟩ := List.mem_map.mp (List.mem_of_getElem? hdi)
      obtain ⟨b, rfl, hb⟩ := cnt_at td
      exact ⟨b, _, rfl, SqT.of hb, rfl, _, _, rfl, _, _, rfl, rfl, rfl, _, rfl, hR Hx (Same.refl Hx)⟩
    refine ⟨D, cs.map fun c => (c.2 : Int), rfl, by rw [← sum_len10]; exact SqL.of hD, ?_⟩
    have rs := rs.same S6
    have dcs := dcs.same (hid_same (hs := [p, q, L]) S6)
    have hbc := hid_same (hs := [p, q, L]) S6 _ _ hbc
    have hxc := hxc.same (hid_same (hs := [p, q, L]) S6)
    -- words
    refine ⟨[p, q, L], .list ((wordW cs).map wD), rs.liv, ⟨_, rfl, Nat.le_of_ble_eq_true rfl, ⟨_, _, rfl, ⟨_, rfl, Nat.le_of_ble_eq_true rfl, ⟨_, _, rfl, rfl, ⟨_, _, rfl, rfl, ⟨_, _, rfl, ⟨_, rfl, .int _⟩, rfl⟩⟩⟩⟩, ⟨_, _, rfl, ⟨_, rfl, Nat.le_of_ble_eq_true rfl, ⟨_, _, rfl, rfl, ⟨_, _, rfl, rfl, ⟨_, _, rfl, ⟨_, _, rfl, ⟨_, rfl, .int _⟩, rfl⟩, rfl⟩⟩⟩⟩, ⟨_, _, rfl, ⟨_, rfl, Nat.le_of_ble_eq_true rfl, ⟨_, _, rfl, rfl, ⟨_, _, rfl, rfl, ⟨_, _, rfl, ⟨_, rfl, .int _⟩, rfl⟩⟩⟩⟩, rfl⟩⟩⟩⟩, fun vw H7 S7 dws => ?_⟩
    have rs := rs.same S7
    have dcs := dcs.same (hid_same (hs := [p, q, L]) S7)
    have hbc := hid_same (hs := [p, q, L]) S7 _ _ hbc
    have hxc := hxc.same (hid_same (hs := [p, q, L]) S7)
    clear S6 S7 hD nD
    obtain ⟨xs0, hL0, _⟩ := rs.f
    refine ⟨_, rfl, .inl ⟨rfl, _, SqL.of hL0⟩, [p, q, L], rowD (S15.leaf (.word cs), wordW cs), rs.liv, ⟨_, rfl, Nat.le_of_ble_eq_true rfl, ⟨_, _, rfl, ⟨_, rfl, Nat.le_of_ble_eq_true rfl, ⟨_, _, rfl, rfl, ⟨_, _, rfl, ⟨_, rfl, dcs⟩, rfl⟩⟩⟩, ⟨_, _, rfl, ⟨_, rfl, dws⟩, rfl⟩⟩⟩, fun v Hy Sy dv => ?_⟩
    obtain ⟨xs, hL, hxl, rs, Sh⟩ := (rs.same Sy).add (r := (S15.leaf (.word cs), wordW cs)) dv (by exact good_mk (by show cs.length ≤ 100; omega) (by show 3 ≤ 10; decide) (one_word cs fun _ _ => rfl) gc)
    refine ⟨L, xs, _, rfl, rfl, hL, (by rw [hxl, sizeLine_eq]; show 1 < _; decide), ?_⟩
    have hh := (hid_same (hs := [p, q, L]) Sy).trans Sh
    generalize upd Hy L (.lst (xs ++ [v])) = Hz at rs hh ⊢
    have dcs := dcs.same hh
    have dws := dws.same hh
    have hbc := hh _ _ hbc
    have hxc := hxc.same hh
    -- small
    have O8 : Off p q Hz Hz := Off.refl
    obtain ⟨B, hB, rs⟩ : ∃ B, B ≤ b + 20 ∧ RS H p q L _ B Hz := ⟨_, by omega, rs⟩
    have hk0 : ∀ i xs0, hid [p, q, L] Hz i = some (.tup xs0) → i ≠ p ∧ i ≠ q := fun i xs0 h => ⟨fun z => hid_not h (by rw [z]; simp), fun z => hid_not h (by rw [z]; simp)⟩
    refine ⟨_, rfl, bc, rfl, ⟨_, SqT.of (hid_sub _ _ hbc)⟩, fun M nM => lc_it (walk_tup (K := K) (a := bc) (xs := xc)) (fun j Hy => Off p q Hz Hy ∧ Dk Hy p q (B + j) ∧ ∃ (acc : List V) (ls : List L15), Hy M = some (.lst acc) ∧ acc.length = j ∧ ls.length = j ∧ (∀ l ∈ ls, okL l) ∧ noLs (ls.map ldt) = true ∧ DatAll (hid [p, q, M] Hy) acc (ls.map ldt))
      ⟨.of_same (same_new nM), rs.dk.same (same_new nM), [], [], upd_same, rfl, rfl, (fun l h => by cases h), rfl, .nil⟩ (fun j Hy _ ⟨O, _⟩ => SqT.of (O _ _ (hid_sub _ _ hbc) (hk0 _ _ hbc).1 (hk0 _ _ hbc).2)) ?_ ?_⟩
    · rintro j x Hx Hx' hj ⟨O, Dj, acc, ls, hM, hal, hll, hok, hno, dA⟩ ⟨rfl, hxj⟩
      obtain ⟨d, hd, td⟩ := hxc.get hxj
      obtain ⟨c, hc', rfl⟩ := List.mem_map.mp (List.mem_of_getElem? hd)
      obtain ⟨bp, rfl, hbp⟩ := cnt_at td
      have hbp' := O _ _ (hid_sub _ _ hbp) (hk0 _ _ hbp).1 (hk0 _ _ hbp).2
      have Mn := rs.dk.new nM
      obtain ⟨lp, lq⟩ := dk_liv Dj
      have lv : Liv [p, q, M] Hx' := by
        intro a ha
        simp only [List.mem_cons, List.not_mem_nil, or_false] at ha
        rcases ha with rfl | rfl | rfl
        · exact lp
        · exact lq
        · rw [hM]
          intro z
          cases z
      refine ⟨bp, _, rfl, SqT.of hbp', rfl, _, _, rfl, _, _, rfl, rfl, rfl, ?_⟩
      dsimp only [tYes]
      refine if_t rfl ⟨_, rfl, [p, q, M], smallD, lv, (by decide), ⟨_, _, rfl, ⟨_, rfl, Nat.le_of_ble_eq_true rfl, ⟨_, _, rfl, rfl, ⟨_, _, rfl, rfl, rfl⟩⟩⟩, ⟨_, _, rfl, ⟨_, rfl, Nat.le_of_ble_eq_true rfl, ⟨_, _, rfl, rfl, ⟨_, _, rfl, rfl, ⟨_, _, rfl, rfl, rfl⟩⟩⟩⟩, rfl⟩⟩, fun la xs Hs nla Ss hla dS => ?_⟩
      have lan := (Dj.new nla)
      have xl := dS.len
      refine pick_of (E := E0) (Dj.same Ss) hla lan.1 lan.2 (by rw [xl]; decide) (by rw [xl]; decide) (by omega) fun i x H4 hx O4 D4 => ?_
      obtain ⟨d, hdi, dx⟩ := dS.get hx
      obtain ⟨l, rfl, okl, nol⟩ := small_get hdi
      have dx := dx.same (hid_off (by simp) (by simp) O4)
      have O24 := (Off.of_same Ss).trans O4
      have hM4 := O24 _ _ hM Mn.1 Mn.2
      have dA4 := dA.same (hid_off (hs := [p, q, M]) (by simp) (by simp) O24)
      have dx4 := dx.same (hid_more (hs := [la, p, q, M]) (ks := [p, q, M]) (H := H4) (by simp))
      have e : ∀ o, hid [p, q, M] (upd H4 M o) = hid [p, q, M] H4 := fun o => hid_upd (by simp)
      refine ⟨acc, hM4, (by rw [hal, sizeLine_eq]; omega), (O.trans O24).upd nM, (dk_upd D4 Mn.1 Mn.2).mono (by omega), acc ++ [x], ls ++ [l], upd_same, by rw [List.length_append, hal]; rfl, by rw [List.length_append, hll]; rfl, ?_, ?_, ?_⟩
      · intro l' hl'
        rcases List.mem_append.mp hl' with z | z
        · exact hok l' z
        · rw [List.mem_singleton.mp z]
          exact okl
      · refine noLs_iff.mpr fun d hd => ?_
        rw [List.map_append] at hd
        rcases List.mem_append.mp hd with z | z
        · exact noLs_iff.mp hno d z
        · rw [List.mem_singleton.mp z]
          exact nol
      · rw [e, List.map_append]
        exact datAll_append dA4 (.cons dx4 .nil)
    · rintro Hx ⟨O, Dj, acc, ls, hM, hal, hll, hok, hno, dA⟩
      rw [lc] at hll
      refine ⟨M, acc, rfl, .inl ⟨SqL.of hM, fun t nt => ?_⟩⟩
      have St := same_new (o := HO.tup acc) nt
      have rs := (rs.offs O Dj).same St
      have dsm := rs.dat (v := .ref t) (d := .tuple (ls.map ldt)) (.tup upd_same ((dA.same hid_sub).same St)) (by rw [noL]; exact hno)
      have hOS := (hid_off (hs := [p, q, L]) (by simp) (by simp) O).trans (hid_same St)
      have dcs := dcs.same hOS
      have dws := dws.same hOS
      generalize upd Hx t (.tup acc) = Hw at rs dsm dcs dws ⊢
      clear hOS St nt dA hM Dj O hxc hbc hh nM hk0 O8
      obtain ⟨xs0, hL0, _⟩ := rs.f
      refine ⟨_, rfl, .inl ⟨rfl, _, SqL.of hL0⟩, [p, q, L], rowD (S15.dec cs ls, wordW cs), rs.liv, ⟨_, rfl, Nat.le_of_ble_eq_true rfl, ⟨_, _, rfl, ⟨_, rfl, Nat.le_of_ble_eq_true rfl, ⟨_, _, rfl, rfl, ⟨_, _, rfl, ⟨_, rfl, dcs⟩, ⟨_, _, rfl, ⟨_, rfl, dsm⟩, rfl⟩⟩⟩⟩, ⟨_, _, rfl, ⟨_, rfl, dws⟩, rfl⟩⟩⟩, fun v Hy Sy dv => ?_⟩
      obtain ⟨xs, hL, hxl, rs, Sh⟩ := (rs.same Sy).add (r := (S15.dec cs ls, wordW cs)) dv (by exact good_mk ⟨by omega, hll, hok⟩ (by show 3 ≤ 10; decide) (one_word cs fun _ _ => rfl) gc)
      refine ⟨L, xs, _, rfl, rfl, hL, (by rw [hxl, sizeLine_eq]; show 2 < _; decide), ?_⟩
      have hh := (hid_same (hs := [p, q, L]) Sy).trans Sh
      generalize upd Hy L (.lst (xs ++ [v])) = Hz at rs hh ⊢
      clear dcs dws dsm hh
      -- names
      refine ⟨_, rfl, p, q, _, 400, rfl, rs.dk, by omega, by decide, by decide, fun m H7 hm1 hm2 O7 D7 => ⟨m, rfl, by omega, fun tn H8 ntn S8 htn => ?_⟩⟩
      have ltn := (rs.offs O7 D7).liv.new ntn
      have rs := (rs.offs O7 D7).same S8
      -- the order
      obtain ⟨xs0, hL0, _⟩ := rs.f
      refine ⟨_, rfl, .inl ⟨rfl, _, SqL.of hL0⟩, _, rfl, _, rfl, ?_⟩
      dsimp only [tCons, tC, tNil]
      refine draw_of (E := E0) (n := 2) rs.dk (by decide) (by decide) (by omega) fun e H9 he O9 D9 => ?_
      have htn9 := O9 _ _ htn (fun z => ltn (by rw [z]; simp)) (fun z => ltn (by rw [z]; simp))
      have rs := rs.offs O9 D9
      obtain ⟨ns, hns⟩ : ∃ ns, ns = (List.range m).map mnN := ⟨_, rfl⟩
      have nl : ns.length = m := by rw [hns, List.length_map, List.length_range]
      have nall : ∀ x ∈ ns, nameB (.str x) = true := fun x hx => by
        rw [hns] at hx
        obtain ⟨k, _, rfl⟩ := List.mem_map.mp hx
        exact mnN_ok k
      have etn : (List.range m).map (fun k => V.str (mnN k)) = ns.map V.str := by
        rw [hns, List.map_map]
        rfl
      rw [etn] at htn9
      have lim : limT 5 = 7776 := rfl
      refine ⟨tn, ns, e, rfl, htn9, by omega, by omega, by omega, fun x hx => name_len (nall x hx), fun vo H10 S10 dvo => ?_⟩
      obtain ⟨ob, on⟩ := ord_ok 5 ns e (by omega) (by omega) (by omega) nall
      have rs := rs.same S10
      have dvo := rs.dat dvo (ord_noL _ _ _)
      have htn10 := S10 _ _ htn9
      refine ⟨(by show 2 ≤ sizeLine; decide), fun a1 n1 => ?_⟩
      have l1 := rs.liv.new n1
      have y1 := same_new (o := HO.tup [.str "arrangement", vo]) n1
      have u1 : upd H10 a1 (.tup [.str "arrangement", vo]) a1 = some (.tup [.str "arrangement", vo]) := upd_same
      have rs := rs.same y1
      generalize upd H10 a1 (.tup [.str "arrangement", vo]) = H11 at y1 u1 rs ⊢
      refine ⟨_, rfl, tn, _, rfl, .inl (SqL.of (y1 _ _ htn10)), (by show 3 ≤ sizeLine; decide), fun a2 n2 => ?_⟩
      rw [List.length_map, nl]
      have l2 := rs.liv.new n2
      have y2 := same_new (o := HO.tup [.str "entry", .int 0, .int (m : Nat)]) n2
      have u2 : upd H11 a2 (.tup [.str "entry", .int 0, .int (m : Nat)]) a2 = some (.tup [.str "entry", .int 0, .int (m : Nat)]) := upd_same
      have rs := rs.same y2
      generalize upd H11 a2 (.tup [.str "entry", .int 0, .int (m : Nat)]) = H12 at y2 u2 rs ⊢
      refine ⟨(by show 1 ≤ sizeLine; decide), fun a3 n3 => ?_⟩
      have l3 := rs.liv.new n3
      have y3 := same_new (o := HO.lst [.ref a2]) n3
      have u3 : upd H12 a3 (.lst [.ref a2]) a3 = some (.lst [.ref a2]) := upd_same
      have rs := rs.same y3
      generalize upd H12 a3 (.lst [.ref a2]) = H13 at y3 u3 rs ⊢
      refine ⟨(by show 2 ≤ sizeLine; decide), fun a4 n4 => ?_⟩
      have l4 := rs.liv.new n4
      have y4 := same_new (o := HO.tup [.ref a1, .ref a3]) n4
      have u4 : upd H13 a4 (.tup [.ref a1, .ref a3]) a4 = some (.tup [.ref a1, .ref a3]) := upd_same
      have rs := rs.same y4
      generalize upd H13 a4 (.tup [.ref a1, .ref a3]) = Hy at y4 u4 rs ⊢
      have S14 := ((y1.trans y2).trans y3).trans y4
      have dv : Dat (hid [p, q, L] Hy) (.ref a4) (rowD (S15.leaf (.arr (ordD 6 ns e)), [("entry", 0, (m : Int))])) :=
        .tup (hid_at u4 l4) (.cons (.tup (hid_at (y4 _ _ (y3 _ _ (y2 _ _ u1))) l1) (.cons (.str _ (by decide)) (.cons (dvo.same (hid_same S14)) .nil))) (.cons (.lst (hid_at (y4 _ _ u3) l3) (.cons (.tup (hid_at (y4 _ _ (y3 _ _ u2)) l2) (.cons (.str _ (by decide)) (.cons (.int _) (.cons (.int _) .nil)))) .nil)) .nil))
      have Sy : Same Hy Hy := Same.refl _
      obtain ⟨v, hv⟩ : ∃ v, v = V.ref a4 := ⟨_, rfl⟩
      rw [← hv] at dv ⊢
      obtain ⟨xs, hL, hxl, rs, Sh⟩ := (rs.same Sy).add (r := (S15.leaf (.arr (ordD 6 ns e)), [("entry", 0, (m : Int))])) dv (by exact good_mk ob (by show 1 ≤ 10; decide) (one_arr (by rw [on]; exact nl)) trivial)
      refine ⟨L, xs, _, rfl, rfl, hL, (by rw [hxl, sizeLine_eq]; show 3 < _; decide), ?_⟩
      have hh := (hid_same (hs := [p, q, L]) Sy).trans Sh
      generalize upd Hy L (.lst (xs ++ [v])) = Hz at rs hh ⊢
      clear hh Sh Sy dv hv u1 u2 u3 u4 y1 y2 y3 y4 l1 l2 l3 l4 n1 n2 n3 n4 S14 dvo htn10 htn9 htn S10 O9 D9 S8 O7 D7
      -- n
      refine ⟨_, rfl, p, q, _, 400, rfl, rs.dk, by omega, by decide, by decide, fun n H7 hn1 hn2 O7 D7 => ?_⟩
      have rs := rs.offs O7 D7
      obtain ⟨xs0, hL0, _⟩ := rs.f
      refine ⟨_, rfl, .inl ⟨rfl, _, SqL.of hL0⟩, [p, q, L], rowD (S15.leaf (.cyc n), [("successor", 0, (n : Int)), ("predecessor", 0, (n : Int))]), rs.liv, ⟨_, rfl, Nat.le_of_ble_eq_true rfl, ⟨_, _, rfl, ⟨_, rfl, Nat.le_of_ble_eq_true rfl, ⟨_, _, rfl, rfl, ⟨_, _, rfl, ⟨_, rfl, .int _⟩, rfl⟩⟩⟩, ⟨_, _, rfl, ⟨_, rfl, Nat.le_of_ble_eq_true rfl, ⟨_, _, rfl, ⟨_, rfl, Nat.le_of_ble_eq_true rfl, ⟨_, _, rfl, rfl, ⟨_, _, rfl, rfl, ⟨_, _, rfl, ⟨_, rfl, .int _⟩, rfl⟩⟩⟩⟩, ⟨_, _, rfl, ⟨_, rfl, Nat.le_of_ble_eq_true rfl, ⟨_, _, rfl, rfl, ⟨_, _, rfl, rfl, ⟨_, _, rfl, ⟨_, rfl, .int _⟩, rfl⟩⟩⟩⟩, rfl⟩⟩⟩, rfl⟩⟩⟩, fun v Hy Sy dv => ?_⟩
      obtain ⟨xs, hL, hxl, rs, Sh⟩ := (rs.same Sy).add (r := (S15.leaf (.cyc n), [("successor", 0, (n : Int)), ("predecessor", 0, (n : Int))])) dv (by exact good_mk trivial (by show 2 ≤ 10; decide) (one_cyc n) trivial)
      refine ⟨L, xs, _, rfl, rfl, hL, (by rw [hxl, sizeLine_eq]; show 4 < _; decide), ?_⟩
      have hh := (hid_same (hs := [p, q, L]) Sy).trans Sh
      generalize upd Hy L (.lst (xs ++ [v])) = Hz at rs hh ⊢
      clear hh
      obtain ⟨xs0, hL0, _⟩ := rs.f
      refine ⟨_, rfl, .inl ⟨rfl, _, SqL.of hL0⟩, [p, q, L], rowD (S15.leaf (.tree n), [("parent", 1, (n : Int))]), rs.liv, ⟨_, rfl, Nat.le_of_ble_eq_true rfl, ⟨_, _, rfl, ⟨_, rfl, Nat.le_of_ble_eq_true rfl, ⟨_, _, rfl, rfl, ⟨_, _, rfl, ⟨_, rfl, .int _⟩, rfl⟩⟩⟩, ⟨_, _, rfl, ⟨_, rfl, Nat.le_of_ble_eq_true rfl, ⟨_, _, rfl, ⟨_, rfl, Nat.le_of_ble_eq_true rfl, ⟨_, _, rfl, rfl, ⟨_, _, rfl, rfl, ⟨_, _, rfl, ⟨_, rfl, .int _⟩, rfl⟩⟩⟩⟩, rfl⟩⟩, rfl⟩⟩⟩, fun v Hy Sy dv => ?_⟩
      obtain ⟨xs, hL, hxl, rs, Sh⟩ := (rs.same Sy).add (r := (S15.leaf (.tree n), [("parent", 1, (n : Int))])) dv (by exact good_mk trivial (by show 1 ≤ 10; decide) (one_tree n) trivial)
      refine ⟨L, xs, _, rfl, rfl, hL, (by rw [hxl, sizeLine_eq]; show 5 < _; decide), ?_⟩
      have hh := (hid_same (hs := [p, q, L]) Sy).trans Sh
      generalize upd Hy L (.lst (xs ++ [v])) = Hz at rs hh ⊢
      clear hh O7 D7
      refine ⟨_, rfl, _, rfl, ?_⟩
      dsimp only [tCons, tC, tNil]
      refine draw_of (E := E0) (n := 200) rs.dk (by decide) (by decide) (by omega) fun j H7 hj O7 D7 => ?_
      refine ⟨_, _, rfl, rfl, (by show 3 ≤ sizeLine; decide), fun l nl => ?_⟩
      have S7 := same_new (o := HO.lst [.int 200, .int 0, .int (1 + (j : Nat))]) nl
      have ln := D7.new nl
      refine pick_of (E := E0) (D7.same S7) upd_same ln.1 ln.2 (by show 0 < 3; decide) (by show 3 ≤ 1000; decide) (by omega) fun i x H9 hx O9 D9 => ?_
      obtain ⟨n, rfl, hn⟩ : ∃ n : Nat, x = .int (n : Nat) ∧ n ≤ 200 := by
        match i, hx with
        | 0, hx => exact ⟨200, (Option.some.inj hx).symm, by decide⟩
        | 1, hx => exact ⟨0, (Option.some.inj hx).symm, by decide⟩
        | 2, hx => exact ⟨1 + j, (Option.some.inj hx).symm.trans (by show V.int ((1 : Int) + (j : Nat)) = _; rw [show ((1 : Int) + (j : Nat)) = ((1 + j : Nat) : Int) by omega]), by omega⟩
        | n + 3, hx => cases hx
      have rs := ((rs.offs O7 D7).same S7).offs O9 D9
      clear nl S7 ln O7 D7 O9 D9
      obtain ⟨xs0, hL0, _⟩ := rs.f
      refine ⟨_, rfl, .inl ⟨rfl, _, SqL.of hL0⟩, [p, q, L], rowD (S15.leaf (.mat n), [("partner", 0, 2 * (n : Int))]), rs.liv, ⟨_, rfl, Nat.le_of_ble_eq_true rfl, ⟨_, _, rfl, ⟨_, rfl, Nat.le_of_ble_eq_true rfl, ⟨_, _, rfl, rfl, ⟨_, _, rfl, ⟨_, rfl, .int _⟩, rfl⟩⟩⟩, ⟨_, _, rfl, ⟨_, rfl, Nat.le_of_ble_eq_true rfl, ⟨_, _, rfl, ⟨_, rfl, Nat.le_of_ble_eq_true rfl, ⟨_, _, rfl, rfl, ⟨_, _, rfl, rfl, ⟨_, _, rfl, ⟨_, rfl, ⟨_, rfl, .int _⟩⟩, rfl⟩⟩⟩⟩, rfl⟩⟩, rfl⟩⟩⟩, fun v Hy Sy dv => ?_⟩
      obtain ⟨xs, hL, hxl, rs, Sh⟩ := (rs.same Sy).add (r := (S15.leaf (.mat n), [("partner", 0, 2 * (n : Int))])) dv (by exact good_mk (by show n ≤ 1000; omega) (by show 1 ≤ 10; decide) (one_mat n) trivial)
      refine ⟨L, xs, _, rfl, rfl, hL, (by rw [hxl, sizeLine_eq]; show 6 < _; decide), ?_⟩
      have hh := (hid_same (hs := [p, q, L]) Sy).trans Sh
      generalize upd Hy L (.lst (xs ++ [v])) = Hz at rs hh ⊢
      clear hh
      refine ⟨_, rfl, _, rfl, ?_⟩
      dsimp only [tCons, tC, tNil]
      refine draw_of (E := E0) (n := 60) rs.dk (by decide) (by decide) (by omega) fun j H7 hj O7 D7 => ?_
      refine ⟨_, _, rfl, rfl, (by show 3 ≤ sizeLine; decide), fun l nl => ?_⟩
      have S7 := same_new (o := HO.lst [.int 60, .int 0, .int (1 + (j : Nat))]) nl
      have ln := D7.new nl
      refine pick_of (E := E0) (D7.same S7) upd_same ln.1 ln.2 (by show 0 < 3; decide) (by show 3 ≤ 1000; decide) (by omega) fun i x H9 hx O9 D9 => ?_
      obtain ⟨n, rfl, hn⟩ : ∃ n : Nat, x = .int (n : Nat) ∧ n ≤ 60 := by
        match i, hx with
        | 0, hx => exact ⟨60, (Option.some.inj hx).symm, by decide⟩
        | 1, hx => exact ⟨0, (Option.some.inj hx).symm, by decide⟩
        | 2, hx => exact ⟨1 + j, (Option.some.inj hx).symm.trans (by show V.int ((1 : Int) + (j : Nat)) = _; rw [show ((1 : Int) + (j : Nat)) = ((1 + j : Nat) : Int) by omega]), by omega⟩
        | n + 3, hx => cases hx
      have rs := ((rs.offs O7 D7).same S7).offs O9 D9
      clear nl S7 ln O7 D7 O9 D9
      -- permutation
      obtain ⟨xs0, hL0, _⟩ := rs.f
      refine ⟨_, rfl, .inl ⟨rfl, _, SqL.of hL0⟩, _, rfl, _, rfl, ((n : Nat) : Int), rfl, RgOk.of_le (by decide) (by omega) (by decide) (by omega), fun q1 nq1 => ⟨q1, _, rfl, SqT.of upd_same, fun q2 nq2 => ?_⟩⟩
      obtain ⟨ds, hds⟩ := ints_dat (everyTwo (rgV 0 ((n : Nat) : Int))) fun x hx => rg_ints x (two_mem hx)
      have z1 := same_new (o := HO.tup (rgV 0 ((n : Nat) : Int))) nq1
      have rs := rs.same z1
      generalize upd H9 q1 (.tup (rgV 0 ((n : Nat) : Int))) = H10 at z1 nq2 rs ⊢
      have l1 := rs.liv.new nq2
      have y1 := same_new (o := HO.tup (everyTwo (rgV 0 ((n : Nat) : Int)))) nq2
      have u1 : upd H10 q2 (.tup (everyTwo (rgV 0 ((n : Nat) : Int)))) q2 = some (.tup (everyTwo (rgV 0 ((n : Nat) : Int)))) := upd_same
      have rs := rs.same y1
      generalize upd H10 q2 (.tup (everyTwo (rgV 0 ((n : Nat) : Int)))) = H11 at y1 u1 rs ⊢
      refine ⟨(by show 3 ≤ sizeLine; decide), fun a2 n2 => ?_⟩
      have l2 := rs.liv.new n2
      have y2 := same_new (o := HO.tup [.str "permutation", .int (n : Nat), .ref q2]) n2
      have u2 : upd H11 a2 (.tup [.str "permutation", .int (n : Nat), .ref q2]) a2 = some (.tup [.str "permutation", .int (n : Nat), .ref q2]) := upd_same
      have rs := rs.same y2
      generalize upd H11 a2 (.tup [.str "permutation", .int (n : Nat), .ref q2]) = H12 at y2 u2 rs ⊢
      refine ⟨[p, q, L], .list (([("image", 0, (n : Int)), ("preimage", 0, (n : Int))] : List Wd).map wD), rs.liv, ⟨_, rfl, Nat.le_of_ble_eq_true rfl, ⟨_, _, rfl, ⟨_, rfl, Nat.le_of_ble_eq_true rfl, ⟨_, _, rfl, rfl, ⟨_, _, rfl, rfl, ⟨_, _, rfl, ⟨_, rfl, .int _⟩, rfl⟩⟩⟩⟩, ⟨_, _, rfl, ⟨_, rfl, Nat.le_of_ble_eq_true rfl, ⟨_, _, rfl, rfl, ⟨_, _, rfl, rfl, ⟨_, _, rfl, ⟨_, rfl, .int _⟩, rfl⟩⟩⟩⟩, rfl⟩⟩⟩, fun vw H13 S13 dw => ⟨(by show 2 ≤ sizeLine; decide), fun a4 n4 => ?_⟩⟩
      have rs := rs.same S13
      have l4 := rs.liv.new n4
      have y4 := same_new (o := HO.tup [.ref a2, vw]) n4
      have u4 : upd H13 a4 (.tup [.ref a2, vw]) a4 = some (.tup [.ref a2, vw]) := upd_same
      have rs := rs.same y4
      generalize upd H13 a4 (.tup [.ref a2, vw]) = Hy at y4 u4 rs ⊢
      have dv : Dat (hid [p, q, L] Hy) (.ref a4) (rowD (S15.leaf (.perm n (.tuple ds)), [("image", 0, (n : Int)), ("preimage", 0, (n : Int))])) :=
        .tup (hid_at u4 l4) (.cons (.tup (hid_at (y4 _ _ (S13 _ _ u2)) l2) (.cons (.str _ (by decide)) (.cons (.int _) (.cons (.tup (hid_at (y4 _ _ (S13 _ _ (y2 _ _ u1))) l1) (hds _)) .nil)))) (.cons (dw.same (hid_same y4)) .nil))
      have Sy : Same Hy Hy := Same.refl _
      obtain ⟨v, hv⟩ : ∃ v, v = V.ref a4 := ⟨_, rfl⟩
      rw [← hv] at dv ⊢
      obtain ⟨xs, hL, hxl, rs, Sh⟩ := (rs.same Sy).add (r := (S15.leaf (.perm n (.tuple ds)), [("image", 0, (n : Int)), ("preimage", 0, (n : Int))])) dv (by exact good_mk trivial (by show 2 ≤ 10; decide) (one_perm n (.tuple ds)) trivial)
      refine ⟨L, xs, _, rfl, rfl, hL, (by rw [hxl, sizeLine_eq]; show 7 < _; decide), ?_⟩
      have hh := (hid_same (hs := [p, q, L]) Sy).trans Sh
      generalize upd Hy L (.lst (xs ++ [v])) = Hz at rs hh ⊢
      clear hh Sh Sy dv hv u1 u2 u4 y1 y2 y4 l1 l2 l4 n2 n4
      -- the string
      refine ⟨_, rfl, p, q, _, rfl, rs.dk, by omega, fun vl n H7 hn O7 D7 dl => ?_⟩
      have rs := rs.offs O7 D7
      have dl := rs.dat (dl.same (hide_sub p q H7)) (str_noL n)
      obtain ⟨xs0, hL0, _⟩ := rs.f
      refine ⟨_, rfl, .inl ⟨rfl, _, SqL.of hL0⟩, [p, q, L], rowD (S15.leaf (.str n), [("letter", 0, (n : Int)), ("state", 0, (n : Int) + 1)]), rs.liv, ⟨_, rfl, Nat.le_of_ble_eq_true rfl, ⟨_, _, rfl, ⟨_, rfl, dl⟩, ⟨_, _, rfl, ⟨_, rfl, Nat.le_of_ble_eq_true rfl, ⟨_, _, rfl, ⟨_, rfl, Nat.le_of_ble_eq_true rfl, ⟨_, _, rfl, rfl, ⟨_, _, rfl, rfl, ⟨_, _, rfl, ⟨_, ⟨_, rfl, dl⟩, rfl⟩, rfl⟩⟩⟩⟩, ⟨_, _, rfl, ⟨_, rfl, Nat.le_of_ble_eq_true rfl, ⟨_, _, rfl, rfl, ⟨_, _, rfl, rfl, ⟨_, _, rfl, ⟨_, _, rfl, ⟨_, ⟨_, rfl, dl⟩, rfl⟩, rfl⟩, rfl⟩⟩⟩⟩, rfl⟩⟩⟩, rfl⟩⟩⟩, fun v Hy Sy dv => ?_⟩
      obtain ⟨xs, hL, hxl, rs, Sh⟩ := (rs.same Sy).add (r := (S15.leaf (.str n), [("letter", 0, (n : Int)), ("state", 0, (n : Int) + 1)])) dv (by exact good_mk trivial (by show 2 ≤ 10; decide) (one_str n) trivial)
      refine ⟨L, xs, _, rfl, rfl, hL, (by rw [hxl, sizeLine_eq]; show 8 < _; decide), ?_⟩
      have hh := (hid_same (hs := [p, q, L]) Sy).trans Sh
      generalize upd Hy L (.lst (xs ++ [v])) = Hz at rs hh ⊢
      obtain ⟨xs1, hL1, hx1, dx1⟩ := rs.f
      refine ⟨_, rfl, k L xs1 _ _ rs.nF rs.off (rs.dk.mono (by omega)) hL1 (dx1.same ?_) (by show 9 ≤ 20; decide) rs.gd⟩
      rw [← hid_hide]
      exact hid_more (by simp)
end
end KF
set_option maxRecDepth 100000
set_option maxHeartbeats 8000000
namespace KF
open PySem PySem.Spec PyProof.Rows L2
/-! ### _law_walks -/
abbrev s_walks : Stmt := top 43
def rCatD (R S : RD) : RD := fun hs σ H d => ∃ ds es, d = .list (ds ++ es) ∧ ds.length + es.length ≤ 1000 ∧ R hs σ H (.list ds) ∧ S hs σ H (.list es)
theorem pr_cat {X : Cx} {e e2 : Expr} {R S : RD} {pos : Pos} (a : PR X e R) (b : PR X e2 S) : PR X (.BinOp e .Add e2 pos) (rCatD R S) :=
  ⟨pe_weak (pe_op op_cat a.pe b.pe) fun σ H Q ⟨hs, d, l, ⟨ds, es, hd, hl, ri, rj⟩, k⟩ => ⟨hs, _, l, ri, fun v H1 S1 dv => ⟨hs, _, l.same S1, b.mo _ _ _ _ _ S1 rj, fun w H2 S2 dw => by
    cases dv with
    | @lst a1 xs _ h1 d1 =>
      cases dw with
      | @lst a2 ys _ h2 d2 =>
        refine ⟨a1, a2, xs, ys, rfl, rfl, S2 _ _ (hid_sub _ _ h1), hid_sub _ _ h2, by rw [d1.len, d2.len, sizeLine_eq]; omega, fun c nc => k (.ref c) _ ((S1.trans S2).trans (same_new nc)) ?_⟩
        rw [hd]
        exact .lst (hid_fresh ((l.same S1).same S2) nc) (datAll_append ((d1.same (hid_same S2)).same (hid_same (same_new nc))) (d2.same (hid_same (same_new nc))))⟩⟩,
   fun _ _ _ _ _ Sm ⟨ds, es, hd, hl, ri, rj⟩ => ⟨ds, es, hd, hl, a.mo _ _ _ _ _ Sm ri, b.mo _ _ _ _ _ Sm rj⟩⟩
theorem four_get {s e : Int} {j : Nat} {d : PyData} (h : ([.tuple [.int s, .int e], .tuple [.int (-60), .int 60], .tuple [.int 60, .int (-60)], .tuple [.int s, .int s]] : List PyData)[j]? = some d) : ∃ s' e' : Int, d = .tuple [.int s', .int e'] := by
  match j, h with
  | 0, h => exact ⟨_, _, (Option.some.inj h).symm⟩
  | 1, h => exact ⟨_, _, (Option.some.inj h).symm⟩
  | 2, h => exact ⟨_, _, (Option.some.inj h).symm⟩
  | 3, h => exact ⟨_, _, (Option.some.inj h).symm⟩
  | n + 4, h => simp at h
def spWalks : Sp := fun vs H Q _ => ∃ (p q : Addr) (b : Nat), vs = [.ref p] ∧ Dk H p q b ∧ b + 200 ≤ 100000000 ∧
  ∀ (a : Addr) (xs : List V) (rows : List Row) (H' : Hp), H a = none → Off p q H H' → Dk H' p q (b + 60) → H' a = some (.lst xs) → DatAll (hide p q H') xs (rows.map rowD) → rows.length ≤ 4 → (∀ r ∈ rows, GoodR r) → Q (.ref a) H'
section
variable {P : Program} {w : World} {K : PySem.W.Frag} {mg : Str → Option Value} {base : Heap}
theorem sc_walks : FnScope ["_law_deck_here", "_law_found", "_law_turn", "_law_n", "_law_start", "_law_end", "_law_low", "_law_high", "_law_leaf", "_law_words"] ["_law_deck_here"] (defScope s_walks) := ⟨rfl, rfl, rfl, by decide +kernel, rfl, by decide +kernel, by decide +kernel⟩
theorem ok_walks {f fP fD : Addr} {fd fdP fdD : FuncData} (F : Fun K "_law_walks" "_law_walks" s_walks f fd) (T : Nm mg) (hmn : mg "min" = none) (hmx : mg "max" = none)
    (D_pick : DefOk K mg "_law_pick" sPick ["_law_deck_here", "_law_items"] fP fdP) (D_draw : DefOk K mg "_law_draw" sDraw ["_law_deck_here", "_law_bound"] fD fdD) (G_pick : FnOk P w K mg base CX0 2 fP fdP ["_law_deck_here", "_law_items"] spPick) :
    FnOk P w K mg base CX0 3 f fd ["_law_deck_here"] spWalks := by
  have G_draw : FnOk P w K mg base CX0 1 fD fdD ["_law_deck_here", "_law_bound"] spDraw := ok_draw D_draw.F
  refine F.ok sc_walks (fun vs H Q E h => ?_) (fun cdv A outer s H vs Q E hr h => ?_)
  · obtain ⟨p, q, b, rfl, _⟩ := h
    rfl
  · obtain ⟨p, q, b, rfl, D, hb, k⟩ := h
    have hr1 : Room 1 _ := hr.mono (by decide)
    refine ⟨_, (pss_cons (ps_set (i := 1) sc_walks.nd rfl (Or.inl rfl) (pe_lst pa_nil))
      (pss_cons (ps_for PassesOwn.never rfl (pi_range1 rfl T.range (pa_cons pe_int pa_nil)) (pg_name (i := 2) sc_walks.nd rfl (Or.inl rfl))
        (pss_cons (ps_par3 (i := 3) (j := 4) (l := 5) rfl sc_walks.nd rfl rfl rfl (by decide) (by decide) (by decide) rfl rfl rfl (pa_cons (pe_call G_pick hr rfl D_pick.g D_pick.F.kp D_pick.b .nil pass0 (pa_cons (pv 0) (pa_cons (pe_lst (pa_cons pe_int (pa_cons pe_int (pa_cons pe_int (pa_cons pe_int pa_nil))))) pa_nil))) (pa_cons (pe_op op_sub (pe_call G_draw hr1 rfl D_draw.g D_draw.F.kp D_draw.b .nil pass0 (pa_cons (pv 0) (pa_cons pe_int pa_nil))) pe_int) (pa_cons (pe_op op_sub (pe_call G_draw hr1 rfl D_draw.g D_draw.F.kp D_draw.b .nil pass0 (pa_cons (pv 0) (pa_cons pe_int pa_nil))) pe_int) pa_nil))) (by rfl))
        (pss_cons (ps_asg (pe_ix ix_list (pr_lstN (pr_cons (pr_tup (pr_cons (pr_var (pv 4)) (pr_cons (pr_var (pv 5)) pr_nil))) (pr_cons (pr_tup (pr_cons (pr_neg pe_int) (pr_cons (pr_int pe_int) pr_nil))) (pr_cons (pr_tup (pr_cons (pr_int pe_int) (pr_cons (pr_neg pe_int) pr_nil))) (pr_cons (pr_tup (pr_cons (pr_var (pv 4)) (pr_cons (pr_var (pv 4)) pr_nil))) pr_nil))))) (pe_call G_draw hr1 rfl D_draw.g D_draw.F.kp D_draw.b .nil pass0 (pa_cons (pv 0) (pa_cons pe_int pa_nil))) (fun _ _ => rfl)) (pg_tup rfl (pgs_cons (pg_name (i := 4) sc_walks.nd rfl (Or.inl rfl)) (pgs_cons (pg_name (i := 5) sc_walks.nd rfl (Or.inl rfl)) pgs_nil))))
        (pss_cons (ps_par (i := 6) (j := 7) rfl sc_walks.nd rfl rfl (by decide) rfl rfl (pa_cons (pe_callB (call_min2 rfl) (by rfl) hmn (by decide +kernel) (pa_cons (pv 4) (pa_cons (pv 5) pa_nil))) (pa_cons (pe_callB (call_max2 rfl) (by rfl) hmx (by decide +kernel) (pa_cons (pv 4) (pa_cons (pv 5) pa_nil))) pa_nil)) (by rfl))
        (pss_cons (ps_set (i := 8) sc_walks.nd rfl (Or.inl rfl) (pe_tup (pa_cons pe_str (pa_cons (pv 3) (pa_cons (pv 4) (pa_cons (pv 5) (pa_cons (pe_call G_pick hr rfl D_pick.g D_pick.F.kp D_pick.b .nil pass0 (pa_cons (pv 0) (pa_cons (pe_lst (pa_cons (pv 6) (pa_cons (pe_un un_neg pe_int) pa_nil))) pa_nil))) (pa_cons (pe_call G_pick hr rfl D_pick.g D_pick.F.kp D_pick.b .nil pass0 (pa_cons (pv 0) (pa_cons (pe_lst (pa_cons (pv 7) (pa_cons pe_int pa_nil))) pa_nil))) pa_nil))))))))
        (pss_cons (ps_set (i := 9) sc_walks.nd rfl (Or.inl rfl) (pr_lst (pr_cons (pr_tup (pr_cons (pr_str (by decide) pe_str) (pr_cons (pr_int pe_int) (pr_cons (pr_add (pr_var (pv 3)) (pr_int pe_int)) pr_nil)))) pr_nil)).pe)
        (C8.pss_cut (ps_if (pt_cmpR op_eq (pe_op op_mod (pe_op op_sub (pe_op op_add (pv 3) (pv 5)) (pv 4)) pe_int) pe_int (nomark _))
          (pss_one (ps_set (i := 9) sc_walks.nd rfl (Or.inl rfl) (pr_cat (pr_var (pv 9)) (pr_lst (pr_cons (pr_tup (pr_cons (pr_str (by decide) pe_str) (pr_cons (pr_int pe_int) (pr_cons (pr_div2 (pr_sub (pr_add (pr_var (pv 3)) (pr_var (pv 5))) (pr_var (pv 4))) pe_int) pr_nil)))) (pr_cons (pr_tup (pr_cons (pr_str (by decide) pe_str) (pr_cons (pr_int pe_int) (pr_cons (pr_div2 (pr_add (pr_sub (pr_var (pv 3)) (pr_var (pv 5))) (pr_var (pv 4))) pe_int) pr_nil)))) pr_nil)))).pe))
          (pss_one (ps_set (i := 9) sc_walks.nd rfl (Or.inl rfl) (pr_cat (pr_var (pv 9)) (pr_lst (pr_cons (pr_tup (pr_cons (pr_str (by decide) pe_str) (pr_cons (pr_int pe_int) (pr_cons (pr_int pe_int) pr_nil)))) (pr_cons (pr_tup (pr_cons (pr_str (by decide) pe_str) (pr_cons (pr_int pe_int) (pr_cons (pr_int pe_int) pr_nil)))) pr_nil)))).pe)))
        (pss_one (ps_expr (pe_bm PySem.F.plainAttrs_list PySem.F.slot_list_append PySem.F.type_list_append mt_append (pv 1) (pa_cons (pr_tup (pr_cons (pr_var (pv 8)) (pr_cons (pr_var (pv 9)) pr_nil))).pe pa_nil)))))))))))
      (pss_one (ps_ret (pv 1))))), ?_⟩
    refine ⟨(by show 0 ≤ sizeLine; decide), fun L nL => ?_⟩
    have SL := same_new (o := HO.lst []) nL
    have rs0 : RS H p q L [] (b + 10 * 0) (upd H L (.lst [])) := ⟨nL, D.new nL, .of_same SL, D.same SL, ⟨[], upd_same, rfl, .nil⟩, fun r h => by cases h⟩
    refine ⟨4, rfl, by decide, by decide, for_range (n := 4) (fun i σ Hx => ∃ (rows : List Row) (x2 x3 x4 x5 x6 x7 x8 x9 : Option V), σ = [some (.ref p), some (.ref L), x2, x3, x4, x5, x6, x7, x8, x9] ∧ rows.length = i ∧ RS H p q L rows (b + 10 * i) Hx) ⟨[], none, none, none, none, none, none, none, none, rfl, rfl, rs0⟩ ?_ ?_⟩
    · rintro i σ Hx hi ⟨rows, x2, x3, x4, x5, x6, x7, x8, x9, rfl, hrl, rs⟩
      -- n, start, end
      refine ⟨_, rfl, (by show 4 ≤ sizeLine; decide), fun l nl => ?_⟩
      have S1 := same_new (o := HO.lst [.int 60, .int 0, .int 59, .int 1]) nl
      have ln := rs.dk.new nl
      refine pick_of (E := E0) (rs.dk.same S1) upd_same ln.1 ln.2 (by show 0 < 4; decide) (by show 4 ≤ 1000; decide) (by omega) fun j x H2 hx O2 D2 => ?_
      obtain ⟨n, rfl⟩ : ∃ n : Int, x = .int n := by
        match j, hx with
        | 0, hx => exact ⟨60, (Option.some.inj hx).symm⟩
        | 1, hx => exact ⟨0, (Option.some.inj hx).symm⟩
        | 2, hx => exact ⟨59, (Option.some.inj hx).symm⟩
        | 3, hx => exact ⟨1, (Option.some.inj hx).symm⟩
        | n + 4, hx => cases hx
      have rs := (rs.same S1).offs O2 D2
      clear ln nl hx O2 D2 S1
      refine ⟨_, rfl, ?_⟩
      dsimp only [tCons, tC, tNil]
      refine draw_of (E := E0) (n := 121) rs.dk (by decide) (by decide) (by omega) fun j1 H3 hj1 O3 D3 => ?_
      have rs := rs.offs O3 D3
      refine ⟨_, _, rfl, rfl, _, rfl, ?_⟩
      dsimp only [tCons, tC, tNil]
      refine draw_of (E := E0) (n := 121) rs.dk (by decide) (by decide) (by omega) fun j2 H4 hj2 O4 D4 => ?_
      have rs := rs.offs O4 D4
      refine ⟨_, _, rfl, rfl, _, _, _, rfl, ?_⟩
      clear O3 D3 O4 D4
      obtain ⟨s0, hs0⟩ : ∃ s0 : Int, s0 = ((j1 : Nat) : Int) - 60 := ⟨_, rfl⟩
      obtain ⟨e0, he0⟩ : ∃ e0 : Int, e0 = ((j2 : Nat) : Int) - 60 := ⟨_, rfl⟩
      -- start, end
      refine ⟨[p, q, L], [.tuple [.int s0, .int e0], .tuple [.int (-60), .int 60], .tuple [.int 60, .int (-60)], .tuple [.int s0, .int s0]], rs.liv, Nat.le_of_ble_eq_true rfl, ⟨_, _, rfl, ⟨_, rfl, Nat.le_of_ble_eq_true rfl, _, _, rfl, ⟨_, rfl, by rw [hs0]; exact .int _⟩, _, _, rfl, ⟨_, rfl, by rw [he0]; exact .int _⟩, rfl⟩, _, _, rfl, ⟨_, rfl, Nat.le_of_ble_eq_true rfl, _, _, rfl, rfl, _, _, rfl, rfl, rfl⟩, _, _, rfl, ⟨_, rfl, Nat.le_of_ble_eq_true rfl, _, _, rfl, rfl, _, _, rfl, rfl, rfl⟩, _, _, rfl, ⟨_, rfl, Nat.le_of_ble_eq_true rfl, _, _, rfl, ⟨_, rfl, by rw [hs0]; exact .int _⟩, _, _, rfl, ⟨_, rfl, by rw [hs0]; exact .int _⟩, rfl⟩, rfl⟩, fun la xs H5 nla S5 hla dS => ?_⟩
      have lan := rs.dk.new nla
      have rs := rs.same S5
      have xl := dS.len
      refine ⟨_, rfl, ?_⟩
      dsimp only [tCons, tC, tNil]
      refine draw_of (E := E0) (n := 4) rs.dk (by decide) (by decide) (by omega) fun j3 H6 hj3 O6 D6 => ?_
      have hla6 := O6 _ _ hla lan.1 lan.2
      have dS6 := dS.same (hid_off (by simp) (by simp) O6)
      have rs := rs.offs O6 D6
      have h3 : j3 < xs.length := by
        rw [xl]
        show j3 < 4
        omega
      obtain ⟨x, hxx⟩ : ∃ x, xs[j3]? = some x := ⟨_, List.getElem?_eq_getElem h3⟩
      obtain ⟨d, hd, dx⟩ := dS6.get hxx
      obtain ⟨sv, ev, rfl⟩ := four_get hd
      obtain ⟨ty, rfl, hty⟩ : ∃ ty, x = .ref ty ∧ H6 ty = some (.tup [.int sv, .int ev]) := by
        cases dx with
        | @tup ty ws _ h0 h1 =>
          obtain ⟨w1, w2, rfl, d1, d2⟩ := dat2 h1
          cases d1
          cases d2
          exact ⟨ty, rfl, hid_sub _ _ h0⟩
      refine ⟨la, xs, _, _, rfl, rfl, SqL.of hla6, atI_nat hxx, ty, _, rfl, SqT.of hty, rfl, _, _, rfl, _, _, rfl, rfl, ?_⟩
      clear dS6 dS hla6 hla S5 lan O6 D6 hty hxx hd xl nla h3
      -- low, high
      refine ⟨_, rfl, _, rfl, _, _, rfl, _, rfl, _, rfl, _, _, rfl, _, _, rfl, ?_⟩
      -- the space
      refine ⟨_, rfl, _, rfl, _, rfl, _, rfl, _, rfl, _, rfl, (by show 2 ≤ sizeLine; decide), fun l nl => ?_⟩
      obtain ⟨lw, hlw⟩ : ∃ lw : Int, lw = if ev < sv then ev else sv := ⟨_, rfl⟩
      rw [← hlw]
      have S1 := same_new (o := HO.lst [.int lw, .int (-60)]) nl
      have ln := rs.dk.new nl
      refine pick_of (E := E0) (rs.dk.same S1) upd_same ln.1 ln.2 (by show 0 < 2; decide) (by show 2 ≤ 1000; decide) (by omega) fun j x H7 hx O7 D7 => ?_
      obtain ⟨lo, rfl⟩ : ∃ lo : Int, x = .int lo := by
        match j, hx with
        | 0, hx => exact ⟨_, (Option.some.inj hx).symm⟩
        | 1, hx => exact ⟨_, (Option.some.inj hx).symm⟩
        | n + 2, hx => cases hx
      have rs := (rs.same S1).offs O7 D7
      clear nl S1 ln hx O7 D7
      refine ⟨_, rfl, _, rfl, (by show 2 ≤ sizeLine; decide), fun l nl => ?_⟩
      obtain ⟨hw, hhw⟩ : ∃ hw : Int, hw = if ev > sv then ev else sv := ⟨_, rfl⟩
      rw [← hhw]
      have S1 := same_new (o := HO.lst [.int hw, .int 60]) nl
      have ln := rs.dk.new nl
      refine pick_of (E := E0) (rs.dk.same S1) upd_same ln.1 ln.2 (by show 0 < 2; decide) (by show 2 ≤ 1000; decide) (by omega) fun j x H8 hx O8 D8 => ?_
      obtain ⟨hi', rfl⟩ : ∃ hi' : Int, x = .int hi' := by
        match j, hx with
        | 0, hx => exact ⟨_, (Option.some.inj hx).symm⟩
        | 1, hx => exact ⟨_, (Option.some.inj hx).symm⟩
        | n + 2, hx => cases hx
      have rs := (rs.same S1).offs O8 D8
      clear nl S1 ln hx O8 D8
      refine ⟨(by show 6 ≤ sizeLine; decide), fun a1 n1 => ?_⟩
      have l1 := rs.liv.new n1
      have y1 := same_new (o := HO.tup [.str "walk", .int n, .int sv, .int ev, .int lo, .int hi']) n1
      have dl : Dat (hid [p, q, L] (upd H8 a1 (.tup [.str "walk", .int n, .int sv, .int ev, .int lo, .int hi']))) (.ref a1) (ldt (.walk n sv ev lo hi')) := .tup (hid_at upd_same l1) (.cons (.str _ (by decide)) (.cons (.int _) (.cons (.int _) (.cons (.int _) (.cons (.int _) (.cons (.int _) .nil))))))
      have rs := rs.same y1
      generalize upd H8 a1 (.tup [.str "walk", .int n, .int sv, .int ev, .int lo, .int hi']) = H9 at dl rs ⊢
      clear l1 y1 n1
      -- words
      refine ⟨[p, q, L], .list (([("height", 0, n + 1)] : List Wd).map wD), rs.liv, ⟨_, rfl, Nat.le_of_ble_eq_true rfl, ⟨_, _, rfl, ⟨_, rfl, Nat.le_of_ble_eq_true rfl, ⟨_, _, rfl, rfl, ⟨_, _, rfl, rfl, ⟨_, _, rfl, ⟨_, _, rfl, ⟨_, rfl, .int _⟩, rfl⟩, rfl⟩⟩⟩⟩, rfl⟩⟩, fun vw H10 S10 dw => ?_⟩
      have rs := rs.same S10
      have dl := dl.same (hid_same (hs := [p, q, L]) S10)
      clear S10
      refine ⟨fun σ' Hy => ∃ (x9 : V), σ' = [some (.ref p), some (.ref L), some (.int (0 + (i : Nat))), some (.int n), some (.int sv), some (.int ev), some (.int lw), some (.int hw), some (.ref a1), some x9] ∧ RS H p q L rows (b + 10 * i + 1 + 1 + 1 + 1 + 1 + 1) Hy ∧ Dat (hid [p, q, L] Hy) (.ref a1) (ldt (.walk n sv ev lo hi')) ∧ Dat (hid [p, q, L] Hy) x9 (.list ((walkW n sv ev).map wD)), ?_, ?_⟩
      · refine ⟨_, rfl, _, rfl, _, _, rfl, rfl, _, rfl, _, _, rfl, rfl, _, _, rfl, rfl, (by show (0 : Int) < 2; decide), rfl, _, rfl, ?_⟩
        by_cases hev : (n + ev - sv) % 2 = 0
        · refine if_t (decide_eq_true (congrArg V.int hev)) ?_
          refine ⟨[p, q, L], .list ((walkW n sv ev).map wD), rs.liv, ?_, fun vw2 H11 S11 dw2 => ?_⟩
          · refine ⟨([("height", 0, n + 1)] : List Wd).map wD, ([("up", 0, (n + ev - sv) / 2), ("down", 0, (n - ev + sv) / 2)] : List Wd).map wD, ?_, Nat.le_of_ble_eq_true rfl, ⟨_, rfl, dw⟩, ⟨_, rfl, Nat.le_of_ble_eq_true rfl, ⟨_, _, rfl, ⟨_, rfl, Nat.le_of_ble_eq_true rfl, ⟨_, _, rfl, rfl, ⟨_, _, rfl, rfl, ⟨_, _, rfl, ⟨_, rfl, ⟨_, _, rfl, ⟨_, _, rfl, ⟨_, rfl, .int _⟩, ⟨_, rfl, .int _⟩⟩, ⟨_, rfl, .int _⟩⟩⟩, rfl⟩⟩⟩⟩, ⟨_, _, rfl, ⟨_, rfl, Nat.le_of_ble_eq_true rfl, ⟨_, _, rfl, rfl, ⟨_, _, rfl, rfl, ⟨_, _, rfl, ⟨_, rfl, ⟨_, _, rfl, ⟨_, _, rfl, ⟨_, rfl, .int _⟩, ⟨_, rfl, .int _⟩⟩, ⟨_, rfl, .int _⟩⟩⟩, rfl⟩⟩⟩⟩, rfl⟩⟩⟩⟩
            unfold walkW
            rw [if_pos hev]
            rfl
          · exact ⟨vw2, rfl, rs.same S11, dl.same (hid_same S11), dw2⟩
        · refine if_f (decide_eq_false fun y => hev (V.int.inj y)) ?_
          refine ⟨[p, q, L], .list ((walkW n sv ev).map wD), rs.liv, ?_, fun vw2 H11 S11 dw2 => ?_⟩
          · refine ⟨([("height", 0, n + 1)] : List Wd).map wD, ([("up", 0, 0), ("down", 0, 0)] : List Wd).map wD, ?_, Nat.le_of_ble_eq_true rfl, ⟨_, rfl, dw⟩, ⟨_, rfl, Nat.le_of_ble_eq_true rfl, ⟨_, _, rfl, ⟨_, rfl, Nat.le_of_ble_eq_true rfl, ⟨_, _, rfl, rfl, ⟨_, _, rfl, rfl, ⟨_, _, rfl, rfl, rfl⟩⟩⟩⟩, ⟨_, _, rfl, ⟨_, rfl, Nat.le_of_ble_eq_true rfl, ⟨_, _, rfl, rfl, ⟨_, _, rfl, rfl, ⟨_, _, rfl, rfl, rfl⟩⟩⟩⟩, rfl⟩⟩⟩⟩
            unfold walkW
            rw [if_neg hev]
            rfl
          · exact ⟨vw2, rfl, rs.same S11, dl.same (hid_same S11), dw2⟩
      · rintro σ' Hy ⟨x9, rfl, rs, dl, dw⟩
        obtain ⟨xs0, hL0, _⟩ := rs.f
        refine ⟨_, rfl, .inl ⟨rfl, _, SqL.of hL0⟩, [p, q, L], rowD (S15.leaf (.walk n sv ev lo hi'), walkW n sv ev), rs.liv, ⟨_, rfl, Nat.le_of_ble_eq_true rfl, ⟨_, _, rfl, ⟨_, rfl, dl⟩, ⟨_, _, rfl, ⟨_, rfl, dw⟩, rfl⟩⟩⟩, fun v Hz Sz dv => ?_⟩
        have wl : (walkW n sv ev).length ≤ 10 := by
          unfold walkW
          rw [List.length_cons]
          split <;> (show 3 ≤ 10; decide)
        obtain ⟨xs, hL, hxl, rs, Sh⟩ := (rs.same Sz).add (r := (S15.leaf (.walk n sv ev lo hi'), walkW n sv ev)) dv (good_mk trivial wl (one_walk n sv ev lo hi') trivial)
        refine ⟨L, xs, _, rfl, rfl, hL, (by rw [hxl, sizeLine_eq]; omega), ?_⟩
        exact ⟨_, _, _, _, _, _, _, _, _, rfl, by rw [List.length_append, hrl]; rfl, rs.mono (by omega)⟩
    · rintro σ Hx ⟨rows, x2, x3, x4, x5, x6, x7, x8, x9, rfl, hrl, rs⟩
      obtain ⟨xs1, hL1, hx1, dx1⟩ := rs.f
      refine ⟨_, rfl, k L xs1 rows _ rs.nF rs.off (rs.dk.mono (by omega)) hL1 (dx1.same ?_) (by omega) rs.gd⟩
      rw [← hid_hide]
      exact hid_more (by simp)
end
end KF
set_option maxRecDepth 100000
set_option maxHeartbeats 8000000
namespace KF
open PySem PySem.Spec PyProof.Rows L2
/-! ### _law_one_right -/
abbrev s_one : Stmt := top 44
theorem hu_of {k : Nat} {A : Around} (r : Room k A) : A.units + 1 < cLine := by
  have := r.un
  omega
section
variable {X : Cx}
/-- isinstance(v, int) and not isinstance(v, bool), v in slot i -/
def tIsNum (i : Nat) : TE := fun σ H Q => ∃ v d, σ[i]? = some (some v) ∧ Dat H v d ∧ Q (.bl (isInt d)) H
theorem pe_isnum {e : Expr} {i : Nat} (a : PE X e (tAndV (tCB (rIsi X.K) (tCons (tVar i) (tCons (tC (.ty "int")) tNil))) (tNotV (tCB (rIsi X.K) (tCons (tVar i) (tCons (tC (.ty "bool")) tNil)))))) : PE X e (tIsNum i) :=
  pe_weak a fun σ H Q ⟨v, d, hv, hd, q⟩ => by
    refine ⟨v, hv, v, .ty "int", _, _, _, rfl, .ty _, hd.ty, kit_int _ d, _, rfl, ?_⟩
    cases d with
    | int i => exact ⟨v, hv, v, .ty "bool", _, _, _, rfl, .ty _, hd.ty, kit_bool _ _, _, rfl, q⟩
    | bool b => exact ⟨v, hv, v, .ty "bool", _, _, _, rfl, .ty _, hd.ty, kit_bool _ _, _, rfl, q⟩
    | none => exact q
    | str x => exact q
    | list ds => exact q
    | tuple ds => exact q
    | dict kv => exact q
/-- is_number and first <= v < last -/
def tDue (n f v l : Nat) : TE := fun σ H Q => ∃ (x : V) (d : PyData) (i j : Int), σ[n]? = some (some (.bl (isInt d))) ∧ σ[f]? = some (some (.int i)) ∧ σ[v]? = some (some x) ∧ σ[l]? = some (some (.int j)) ∧ Dat H x d ∧ Q (.bl (btw i (j - 1) d)) H
theorem pe_due {e : Expr} {n f v l : Nat} (a : PE X e (tAndV (tVar n) (tChain (rI0 fun i j => .bl (decide (i ≤ j))) (rI0 fun i j => .bl (decide (i < j))) (tVar f) (tVar v) (tVar l)))) : PE X e (tDue n f v l) :=
  pe_weak a fun σ H Q ⟨x, d, i, j, h1, h2, h3, h4, hd, q⟩ => by
    refine ⟨_, h1, _, rfl, ?_⟩
    cases d with
    | int z =>
      cases hd
      refine if_t rfl ⟨_, h2, _, h3, _, _, rfl, rfl, _, rfl, ?_⟩
      have e0 : btw i (j - 1) (.int z) = (decide (i ≤ z) && decide (z < j)) := by
        show (decide (i ≤ z) && decide (z ≤ j - 1)) = _
        congr 1
        by_cases h : z < j
        · rw [decide_eq_true h, decide_eq_true (by omega)]
        · rw [decide_eq_false h, decide_eq_false (by omega)]
      rw [e0] at q
      by_cases h : i ≤ z
      · rw [decide_eq_true h] at q ⊢
        exact if_t rfl ⟨_, h4, _, _, rfl, rfl, q⟩
      · rw [decide_eq_false h] at q ⊢
        exact if_f rfl q
    | bool b => exact if_f rfl q
    | none => exact if_f rfl q
    | str x => exact if_f rfl q
    | list ds => exact if_f rfl q
    | tuple ds => exact if_f rfl q
    | dict kv => exact if_f rfl q
end
theorem q_root (s : S15) (z : Str) (as : List PyData) : queryI Y15 s (.tuple (.tuple [] :: .str z :: as)) = askS s z as := rfl
theorem short_cons {d : PyData} {ds : List PyData} (h : (tupItems d).length ≤ 1000) (t : shortQ ds) : shortQ (d :: ds) := fun x hx => by
  rcases List.mem_cons.mp hx with rfl | hx
  · exact h
  · exact t x hx
theorem short_nil : shortQ [] := fun x hx => by cases hx
def valsD (f l : Int) (j : Nat) (big : Int) : List PyData := [.int (f - 1), .int f, .int (l - 1), .int l, .int (j : Nat), .int big, .bool true, .bool false, .none, .str "0", .tuple [.int 0], .str ""]
theorem vals_short {f l : Int} {j : Nat} {big : Int} : ∀ d ∈ valsD f l j big, (tupItems d).length ≤ 1000 := by
  intro d hd
  unfold valsD at hd
  simp only [List.mem_cons, List.not_mem_nil, or_false] at hd
  rcases hd with rfl | rfl | rfl | rfl | rfl | rfl | rfl | rfl | rfl | rfl | rfl | rfl <;> exact Nat.le_of_ble_eq_true rfl
def spOne : Sp := fun vs H Q _ => ∃ (p q wl : Addr) (b : Nat) (v : V) (s : S15) (ws : List V) (wds : List Wd), vs = [.ref p, v, .ref wl] ∧ Dk H p q b ∧ b + 200 ≤ 100000000 ∧ Dat (hid [p, q] H) v (sdt s) ∧ okS s ∧ hid [p, q] H wl = some (.lst ws) ∧ DatAll (hid [p, q] H) ws (wds.map wD) ∧ wds.length ≤ 10 ∧ (∀ w ∈ wds, OneOk s w) ∧
  ∀ H', Off p q H H' → Dk H' p q (b + 20) → Q (.bl true) H'
section
variable {P : Program} {w : World} {K : PySem.W.Frag} {mg : Str → Option Value} {base : Heap}
theorem sc_one : FnScope ["_law_deck_here", "_law_space", "_law_words", "_law_word", "_law_first", "_law_last", "_law_values", "_law_value", "_law_is_number", "_law_due"] ["_law_deck_here", "_law_space", "_law_words"] (defScope s_one) := ⟨rfl, rfl, rfl, by decide +kernel, rfl, by decide +kernel, by decide +kernel⟩
theorem ok_one {f fD fQ : Addr} {fd fdD fdQ : FuncData} (F : Fun K "_law_one_right" "_law_one_right" s_one f fd) (T : Nm mg) (eS : PySem.W.nsIn K cStatics "sys.int_max_str_digits" = some none)
    (D_draw : DefOk K mg "_law_draw" sDraw ["_law_deck_here", "_law_bound"] fD fdD) (D_query : DefOk K mg "is_query" s_query ["space", "value"] fQ fdQ) (G_query : FnOk P w K mg base CX0 10 fQ fdQ ["space", "value"] (spQuery Y15)) :
    FnG P w K mg base 11 f fd ["_law_deck_here", "_law_space", "_law_words"] spOne := by
  have G_draw : FnOk P w K mg base CX0 1 fD fdD ["_law_deck_here", "_law_bound"] spDraw := ok_draw D_draw.F
  refine F.okG sc_one (fun vs H Q E h => ?_) (fun cdv A outer s H vs Q E hg hr h => ?_)
  · obtain ⟨p, q, wl, b, v, s, ws, wds, rfl, _⟩ := h
    rfl
  · obtain ⟨p, q, wl, b, v, sp, ws, wds, rfl, D, hb, dv, hok, hwl, dws, hwn, hone, k⟩ := h
    have hu : (A.deeper (envOfC "_law_one_right" (defScope s_one) s.heap.objs.size f cdv)).units + 128 < cLine := by
      have := hr.un
      omega
    have hr1 : Room 1 _ := hr.mono (by decide)
    have hr10 : Room 10 _ := hr
    refine ⟨_, (pss_cons (ps_for PassesOwn.never rfl (pi_list (pv 2)) (pg_tup rfl (pgs_cons (pg_name (i := 3) sc_one.nd rfl (Or.inl rfl)) (pgs_cons (pg_name (i := 4) sc_one.nd rfl (Or.inl rfl)) (pgs_cons (pg_name (i := 5) sc_one.nd rfl (Or.inl rfl)) pgs_nil))))
        (pss_cons (ps_set (i := 6) sc_one.nd rfl (Or.inl rfl) (pe_lst (pa_cons (pe_op op_sub (pv 4) pe_int) (pa_cons (pv 4) (pa_cons (pe_op op_sub (pv 5) pe_int) (pa_cons (pv 5) (pa_cons (pe_call G_draw hr1 rfl D_draw.g D_draw.F.kp D_draw.b .nil pass0 (pa_cons (pv 0) (pa_cons pe_int pa_nil))) (pa_cons (pe_op op_pow pe_int pe_int) (pa_cons pe_bl (pa_cons pe_bl (pa_cons pe_non (pa_cons pe_str (pa_cons (pr_tup (pr_cons (pr_int pe_int) pr_nil)).pe (pa_cons pe_str pa_nil))))))))))))))
        (pss_cons (ps_for PassesOwn.never rfl (pi_list (pv 6)) (pg_name (i := 7) sc_one.nd rfl (Or.inl rfl))
          (pss_cons (ps_set (i := 8) sc_one.nd rfl (Or.inl rfl) (pe_isnum (i := 7) (pe_and (pe_callB call_isi (by rfl) T.isinstance boot_isinstance (pa_cons (pv 7) (pa_cons (pe_bltn (v := .ty "int") rfl T.int (by decide +kernel) rfl) pa_nil))) (pe_one (pe_not (pe_callB call_isi (by rfl) T.isinstance boot_isinstance (pa_cons (pv 7) (pa_cons (pe_bltn (v := .ty "bool") rfl T.bool (by decide +kernel) rfl) pa_nil))))))))
          (pss_cons (ps_set (i := 9) sc_one.nd rfl (Or.inl rfl) (pe_due (n := 8) (f := 4) (v := 7) (l := 5) (pe_and (pv 8) (pe_one (pe_chain op_le op_lt (pv 4) (pv 7) (pv 5))))))
          (pss_one (ps_if (pt_cmpR op_ne (pe_callB (call_reprD hg hu eS) (by rfl) T.repr (by decide +kernel) (pa_cons (pe_call G_query hr10 rfl D_query.g D_query.F.kp D_query.b .nil pass0 (pa_cons (pv 1) (pa_cons (pr_tup (pr_cons (pr_tup pr_nil) (pr_cons (pr_var (pv 3)) (pr_cons (pr_var (pv 7)) pr_nil)))).pe pa_nil))) pa_nil)) (pe_callB (call_reprD hg hu eS) (by rfl) T.repr (by decide +kernel) (pa_cons (pv 9) pa_nil)) (nomark _))
            (pss_one (ps_ret pe_bl))
            pss_nil)))))
        (pss_one (ps_if (PW.pt (pw_or (pt_cmpR op_notBl (pe_call G_query hr10 rfl D_query.g D_query.F.kp D_query.b .nil pass0 (pa_cons (pv 1) (pa_cons (pr_tup (pr_cons (pr_tup pr_nil) (pr_cons (pr_var (pv 3)) pr_nil))).pe pa_nil))) pe_bl (nomark _)) (pw_or1 (pt_cmpR op_notBl (pe_call G_query hr10 rfl D_query.g D_query.F.kp D_query.b .nil pass0 (pa_cons (pv 1) (pa_cons (pr_tup (pr_cons (pr_tup pr_nil) (pr_cons (pr_var (pv 3)) (pr_cons (pr_var (pv 4)) (pr_cons (pr_var (pv 4)) pr_nil))))).pe pa_nil))) pe_bl (nomark _)))))
          (pss_one (ps_ret pe_bl))
          pss_nil)))))
      (pss_one (ps_ret pe_bl))), ?_⟩
    have wn : wl ≠ p ∧ wl ≠ q := ⟨fun z => hid_not hwl (by rw [z]; simp), fun z => hid_not hwl (by rw [z]; simp)⟩
    have wsl := dws.len
    rw [List.length_map] at wsl
    refine ⟨_, rfl, wl, rfl, ⟨_, SqL.of (hid_sub _ _ hwl)⟩, for_list (K := K) (a := wl) (xs := ws) (fun i σ Hx => ∃ (x3 x4 x5 x6 x7 x8 x9 : Option V), σ = [some (.ref p), some v, some (.ref wl), x3, x4, x5, x6, x7, x8, x9] ∧ Off p q H Hx ∧ Dk Hx p q (b + i)) ⟨none, none, none, none, none, none, none, rfl, Off.refl, D⟩ (fun i σ Hx _ ⟨_, _, _, _, _, _, _, _, O, _⟩ => SqL.of (O _ _ (hid_sub _ _ hwl) wn.1 wn.2)) ?_ ?_⟩
    · rintro i y σ Hx hy ⟨x3, x4, x5, x6, x7, x8, x9, rfl, O, Dx⟩
      have hi : i < 10 := by
        have := (List.getElem?_eq_some_iff.mp hy).1
        omega
      obtain ⟨d, hd, dy⟩ := dws.get hy
      rw [List.getElem?_map] at hd
      obtain ⟨wd, hwd, rfl⟩ := Option.map_eq_some_iff.mp hd
      have one := hone wd (List.mem_of_getElem? hwd)
      obtain ⟨z, fi, la⟩ := wd
      have hz : z.length ≤ 1000 := one.len
      have hO := hid_off (hs := [p, q]) (by simp) (by simp) O
      obtain ⟨ty, rfl, hty⟩ : ∃ ty, y = .ref ty ∧ Hx ty = some (.tup [.str z, .int fi, .int la]) := by
        cases dy.same hO with
        | @tup ty ws _ h0 h1 =>
          obtain ⟨w1, w2, w3, rfl, d1, d2, d3⟩ := dat3 h1
          cases d1
          cases d2
          cases d3
          exact ⟨ty, rfl, hid_sub _ _ h0⟩
      have dvx := dv.same hO
      refine ⟨ty, _, rfl, SqT.of hty, rfl, _, _, rfl, _, _, rfl, _, _, rfl, rfl, ?_⟩
      -- the values
      refine ⟨_, rfl, _, _, rfl, rfl, _, rfl, _, rfl, _, _, rfl, rfl, _, rfl, _, rfl, ?_⟩
      dsimp only [tCons, tC, tNil]
      refine draw_of (E := E0) (n := 500) Dx (by decide) (by decide) (by omega) fun j H2 hj O2 D2 => ?_
      obtain ⟨big, hbig⟩ : ∃ big : Int, big = 10 ^ (30 : Int).toNat := ⟨_, rfl⟩
      refine ⟨_, _, rfl, rfl, ⟨by decide, by decide, by decide⟩, ?_⟩
      obtain ⟨lp, lq⟩ := dk_liv D2
      have lv : Liv [p, q] H2 := by
        intro a ha
        simp only [List.mem_cons, List.not_mem_nil, or_false] at ha
        rcases ha with rfl | rfl
        · exact lp
        · exact lq
      refine ⟨[p, q], .tuple [.int 0], lv, ⟨_, rfl, Nat.le_of_ble_eq_true rfl, ⟨_, _, rfl, rfl, rfl⟩⟩, fun t H3 S3 dt => ⟨(by show 12 ≤ sizeLine; decide), fun vl nvl => ?_⟩⟩
      have D3 := D2.same S3
      have vln := D3.new nvl
      have y1 := same_new (o := HO.lst [.int (fi - 1), .int fi, .int (la - 1), .int la, .int (j : Nat), .int (10 ^ (30 : Int).toNat), .bl true, .bl false, .non, .str "0", t, .str ""]) nvl
      have hvl : upd H3 vl (.lst [.int (fi - 1), .int fi, .int (la - 1), .int la, .int (j : Nat), .int (10 ^ (30 : Int).toNat), .bl true, .bl false, .non, .str "0", t, .str ""]) vl = some (.lst [.int (fi - 1), .int fi, .int (la - 1), .int la, .int (j : Nat), .int big, .bl true, .bl false, .non, .str "0", t, .str ""]) := by
        rw [upd_same, hbig]
      have D4 := D3.same y1
      have O4 := ((O.trans O2).trans (.of_same S3)).trans (.of_same y1)
      have dx4 : DatAll (upd H3 vl (.lst [.int (fi - 1), .int fi, .int (la - 1), .int la, .int (j : Nat), .int (10 ^ (30 : Int).toNat), .bl true, .bl false, .non, .str "0", t, .str ""])) [.int (fi - 1), .int fi, .int (la - 1), .int la, .int (j : Nat), .int big, .bl true, .bl false, .non, .str "0", t, .str ""] (valsD fi la j big) :=
        .cons (.int _) (.cons (.int _) (.cons (.int _) (.cons (.int _) (.cons (.int _) (.cons (.int _) (.cons (.bl _) (.cons (.bl _) (.cons .non (.cons (.str _ (by decide)) (.cons ((dt.same hid_sub).same y1) (.cons (.str _ (by decide)) .nil)))))))))))
      obtain ⟨xv, hxv⟩ : ∃ xv : List V, xv = [.int (fi - 1), .int fi, .int (la - 1), .int la, .int (j : Nat), .int big, .bl true, .bl false, .non, .str "0", t, .str ""] := ⟨_, rfl⟩
      rw [← hxv] at hvl dx4
      generalize upd H3 vl (.lst [.int (fi - 1), .int fi, .int (la - 1), .int la, .int (j : Nat), .int (10 ^ (30 : Int).toNat), .bl true, .bl false, .non, .str "0", t, .str ""]) = H4 at hvl D4 O4 dx4 ⊢
      have dv4 := dv.same (hid_off (hs := [p, q]) (by simp) (by simp) O4)
      clear y1 dt S3 D3 nvl O2 lv lp lq hxv hbig D2
      refine ⟨_, rfl, vl, rfl, ⟨_, SqL.of hvl⟩, for_list (K := K) (a := vl) (xs := xv) (fun i2 σ Hy => ∃ (x7 x8 x9 : Option V), σ = [some (.ref p), some v, some (.ref wl), some (.str z), some (.int fi), some (.int la), some (.ref vl), x7, x8, x9] ∧ Same H4 Hy) ⟨_, _, _, rfl, Same.refl _⟩ (fun i2 σ Hy _ ⟨_, _, _, _, S⟩ => SqL.of (S _ _ hvl)) ?_ ?_⟩
      · rintro i2 x σ Hy hx ⟨x7, x8, x9, rfl, S⟩
        obtain ⟨d, hd, dx⟩ := dx4.get hx
        have dx := dx.same S
        have dmem := List.mem_of_getElem? hd
        have dsh := vals_short d dmem
        refine ⟨x, d, rfl, dx, ?_⟩
        refine ⟨x, d, fi, la, rfl, rfl, rfl, rfl, dx, ?_⟩
        have dv5 := (dv4.same hid_sub).same S
        rw [← hid_nil (H := Hy)] at dx
        refine ⟨_, rfl, [], .tuple [.tuple [], .str z, d], liv_nil, ⟨_, rfl, Nat.le_of_ble_eq_true rfl, ⟨_, _, rfl, ⟨_, rfl, Nat.le_of_ble_eq_true rfl, rfl⟩, ⟨_, _, rfl, ⟨_, rfl, .str _ hz⟩, ⟨_, _, rfl, ⟨_, rfl, dx⟩, rfl⟩⟩⟩⟩, fun v' H' S' dv' => ?_⟩
        rw [hid_nil] at dv'
        have eq : queryI Y15 sp (.tuple [.tuple [], .str z, d]) = btw fi (la - 1) d := (q_root sp z [d]).trans (one.one d)
        refine ⟨v, v', sp, _, rfl, dv5.same S', hok, dv', short_cons (Nat.le_of_ble_eq_true rfl) (short_cons (Nat.le_of_ble_eq_true rfl) (short_cons dsh short_nil)), fun H'' S'' => ?_⟩
        rw [eq]
        refine ⟨.bl _, .bool _, rfl, .bl _, (bool_repr _).1, (bool_repr _).2.1, (bool_repr _).2.2, ?_⟩
        refine ⟨_, rfl, .bl _, .bool _, rfl, .bl _, (bool_repr _).1, (bool_repr _).2.1, (bool_repr _).2.2, ?_⟩
        refine ⟨rfl, _, rfl, ?_⟩
        refine if_f (by rw [decide_eq_true rfl]; rfl) ?_
        exact ⟨_, _, _, rfl, (S.trans S').trans S''⟩
      · rintro σ Hy ⟨x7, x8, x9, rfl, S⟩
        have dv5 := (dv4.same hid_sub).same S
        refine ⟨_, rfl, [], .tuple [.tuple [], .str z], liv_nil, ⟨_, rfl, Nat.le_of_ble_eq_true rfl, ⟨_, _, rfl, ⟨_, rfl, Nat.le_of_ble_eq_true rfl, rfl⟩, ⟨_, _, rfl, ⟨_, rfl, .str _ hz⟩, rfl⟩⟩⟩, fun v' H' S' dv' => ?_⟩
        rw [hid_nil] at dv'
        have eq : queryI Y15 sp (.tuple [.tuple [], .str z]) = false := (q_root sp z []).trans one.no0
        refine ⟨v, v', sp, _, rfl, dv5.same S', hok, dv', short_cons (Nat.le_of_ble_eq_true rfl) (short_cons (Nat.le_of_ble_eq_true rfl) short_nil), fun H'' S'' => ?_⟩
        rw [eq]
        refine ⟨_, _, rfl, rfl, _, rfl, if_f rfl ?_⟩
        have S2 := (S.trans S').trans S''
        refine ⟨_, rfl, [], .tuple [.tuple [], .str z, .int fi, .int fi], liv_nil, ⟨_, rfl, Nat.le_of_ble_eq_true rfl, ⟨_, _, rfl, ⟨_, rfl, Nat.le_of_ble_eq_true rfl, rfl⟩, ⟨_, _, rfl, ⟨_, rfl, .str _ hz⟩, ⟨_, _, rfl, ⟨_, rfl, .int _⟩, ⟨_, _, rfl, ⟨_, rfl, .int _⟩, rfl⟩⟩⟩⟩⟩, fun v' H' S' dv' => ?_⟩
        rw [hid_nil] at dv'
        have eq : queryI Y15 sp (.tuple [.tuple [], .str z, .int fi, .int fi]) = false := (q_root sp z [.int fi, .int fi]).trans (one.no2 _ _)
        refine ⟨v, v', sp, _, rfl, ((dv4.same hid_sub).same S2).same S', hok, dv', short_cons (Nat.le_of_ble_eq_true rfl) (short_cons (Nat.le_of_ble_eq_true rfl) (short_cons (Nat.le_of_ble_eq_true rfl) (short_cons (Nat.le_of_ble_eq_true rfl) short_nil))), fun H'' S'' => ?_⟩
        rw [eq]
        refine ⟨_, _, rfl, rfl, _, rfl, if_f rfl ?_⟩
        have S3 := (S2.trans S').trans S''
        exact ⟨_, _, _, _, _, _, _, rfl, O4.trans (.of_same S3), (D4.same S3).mono (by omega)⟩
    · rintro σ Hx ⟨x3, x4, x5, x6, x7, x8, x9, rfl, O, Dx⟩
      exact k _ O (Dx.mono (by omega))
end
end KF
set_option maxRecDepth 100000
set_option maxHeartbeats 8000000
namespace KF
open PySem PySem.Spec PyProof.Rows L2
/-! ### _law_two_right -/
abbrev s_two : Stmt := top 45
def vals2 (f l : Int) : List PyData := [.int (f - 1), .int f, .int (l - 1), .int l, .bool true, .none]
theorem vals2_short {f l : Int} : ∀ d ∈ vals2 f l, (tupItems d).length ≤ 1000 := by
  intro d hd
  unfold vals2 at hd
  simp only [List.mem_cons, List.not_mem_nil, or_false] at hd
  rcases hd with rfl | rfl | rfl | rfl | rfl | rfl <;> exact Nat.le_of_ble_eq_true rfl
def badH : List PyData := [.bool true, .none, .str "0", .tuple [.int 1]]
theorem badH_ok : ∀ d ∈ badH, (tupItems d).length ≤ 1000 ∧ isInt d = false := by
  intro d hd
  unfold badH at hd
  simp only [List.mem_cons, List.not_mem_nil, or_false] at hd
  rcases hd with rfl | rfl | rfl | rfl <;> exact ⟨Nat.le_of_ble_eq_true rfl, rfl⟩
def spTwo : Sp := fun vs H Q _ => ∃ (p q tb : Addr) (b : Nat) (v : V) (s : S15) (z : Str) (be : List Str) (f l : Int), vs = [.ref p, v, .str z, .ref tb, .int f, .int l] ∧ Dk H p q b ∧ b + 200 ≤ 100000000 ∧ Dat (hid [p, q] H) v (sdt s) ∧ okS s ∧ z.length ≤ 1000 ∧ H tb = some (.tup (be.map V.str)) ∧ be.length ≤ 3 ∧ (∀ y ∈ be, y.length ≤ 1000) ∧
  (be = [] → ∀ d h, askS s z [d, h] = (btw f (l - 1) d && isInt h)) ∧ (be ≠ [] → ∀ d, askS s z (be.map PyData.str ++ [d]) = btw f (l - 1) d) ∧ ∀ H', Off p q H H' → Dk H' p q (b + 6) → Q (.bl true) H'
theorem liv2 {H : Hp} {p q : Addr} {b : Nat} (D : Dk H p q b) : Liv [p, q] H := by
  obtain ⟨lp, lq⟩ := dk_liv D
  intro a ha
  simp only [List.mem_cons, List.not_mem_nil, or_false] at ha
  rcases ha with rfl | rfl
  · exact lp
  · exact lq
theorem strs_dat {H : Hp} : ∀ {be : List Str}, (∀ y ∈ be, y.length ≤ 1000) → DatAll H (be.map V.str) (be.map PyData.str)
  | [], _ => .nil
  | y :: be, h => .cons (.str _ (h y List.mem_cons_self)) (strs_dat fun x hx => h x (List.mem_cons_of_mem _ hx))
theorem tup_inv {H : Hp} {v : V} {ds : List PyData} (h : Dat H v (.tuple ds)) : ∃ (a : Addr) (xs : List V), v = .ref a ∧ H a = some (.tup xs) ∧ DatAll H xs ds := by
  cases h with
  | tup h0 h1 => exact ⟨_, _, rfl, h0, h1⟩
theorem short_strs : ∀ (be : List Str) (d : PyData), (tupItems d).length ≤ 1000 → shortQ (be.map PyData.str ++ [d])
  | [], d, h => short_cons h short_nil
  | y :: be, d, h => short_cons (Nat.le_of_ble_eq_true rfl) (short_strs be d h)
section
variable {P : Program} {w : World} {K : PySem.W.Frag} {mg : Str → Option Value} {base : Heap}
theorem sc_two : FnScope ["_law_deck_here", "_law_space", "_law_word", "_law_before", "_law_first", "_law_last", "_law_value", "_law_is_number", "_law_due", "_law_h"] ["_law_deck_here", "_law_space", "_law_word", "_law_before", "_law_first", "_law_last"] (defScope s_two) := ⟨rfl, rfl, rfl, by decide +kernel, rfl, by decide +kernel, by decide +kernel⟩
theorem ok_two {f fD fQ : Addr} {fd fdD fdQ : FuncData} (F : Fun K "_law_two_right" "_law_two_right" s_two f fd) (T : Nm mg) (eS : PySem.W.nsIn K cStatics "sys.int_max_str_digits" = some none)
    (D_draw : DefOk K mg "_law_draw" sDraw ["_law_deck_here", "_law_bound"] fD fdD) (D_query : DefOk K mg "is_query" s_query ["space", "value"] fQ fdQ) (G_query : FnOk P w K mg base CX0 10 fQ fdQ ["space", "value"] (spQuery Y15)) :
    FnG P w K mg base 11 f fd ["_law_deck_here", "_law_space", "_law_word", "_law_before", "_law_first", "_law_last"] spTwo := by
  have G_draw : FnOk P w K mg base CX0 1 fD fdD ["_law_deck_here", "_law_bound"] spDraw := ok_draw D_draw.F
  refine F.okG sc_two (fun vs H Q E h => ?_) (fun cdv A outer s H vs Q E hg hr h => ?_)
  · obtain ⟨p, q, tb, b, v, s, z, be, f, l, rfl, _⟩ := h
    rfl
  · obtain ⟨p, q, tb, b, v, sp, z, be, fi, la, rfl, D, hb, dv, hok, hz, htb, hbl, hbs, h0, h1, k⟩ := h
    have hu : (A.deeper (envOfC "_law_two_right" (defScope s_two) s.heap.objs.size f cdv)).units + 128 < cLine := by
      have := hr.un
      omega
    have hu0 : (A.deeper (envOfC "_law_two_right" (defScope s_two) s.heap.objs.size f cdv)).units < cLine := by omega
    have hr1 : Room 1 _ := hr.mono (by decide)
    have hr10 : Room 10 _ := hr
    refine ⟨_, (pss_cons (ps_for PassesOwn.never rfl (pi_tup (pr_tup (pr_cons (pr_sub (pr_var (pv 4)) (pr_int pe_int)) (pr_cons (pr_var (pv 4)) (pr_cons (pr_sub (pr_var (pv 5)) (pr_int pe_int)) (pr_cons (pr_var (pv 5)) (pr_cons (pr_bool pe_bl) (pr_cons (pr_none pe_non) pr_nil))))))).pe) (pg_name (i := 6) sc_two.nd rfl (Or.inl rfl))
        (pss_cons (ps_set (i := 7) sc_two.nd rfl (Or.inl rfl) (pe_isnum (i := 6) (pe_and (pe_callB call_isi (by rfl) T.isinstance boot_isinstance (pa_cons (pv 6) (pa_cons (pe_bltn (v := .ty "int") rfl T.int (by decide +kernel) rfl) pa_nil))) (pe_one (pe_not (pe_callB call_isi (by rfl) T.isinstance boot_isinstance (pa_cons (pv 6) (pa_cons (pe_bltn (v := .ty "bool") rfl T.bool (by decide +kernel) rfl) pa_nil))))))))
        (pss_cons (ps_set (i := 8) sc_two.nd rfl (Or.inl rfl) (pe_due (n := 7) (f := 4) (v := 6) (l := 5) (pe_and (pv 7) (pe_one (pe_chain op_le op_lt (pv 4) (pv 6) (pv 5))))))
        (pss_one (ps_if (pt_cmpR (op_empty hu0) (pv 3) (pe_tup pa_nil) (nomark _))
          (pss_cons (ps_for PassesOwn.never rfl (pi_tup (pe_tup (pa_cons pe_int (pa_cons pe_int (pa_cons (pe_un un_neg pe_int) (pa_cons (pe_op op_pow pe_int pe_int) (pa_cons (pe_op op_sub (pe_call G_draw hr1 rfl D_draw.g D_draw.F.kp D_draw.b .nil pass0 (pa_cons (pv 0) (pa_cons pe_int pa_nil))) pe_int) pa_nil))))))) (pg_name (i := 9) sc_two.nd rfl (Or.inl rfl))
            (pss_one (ps_if (pt_cmpR op_ne (pe_callB (call_reprD hg hu eS) (by rfl) T.repr (by decide +kernel) (pa_cons (pe_call G_query hr10 rfl D_query.g D_query.F.kp D_query.b .nil pass0 (pa_cons (pv 1) (pa_cons (pr_tup (pr_cons (pr_tup pr_nil) (pr_cons (pr_var (pv 2)) (pr_cons (pr_var (pv 6)) (pr_cons (pr_var (pv 9)) pr_nil))))).pe pa_nil))) pa_nil)) (pe_callB (call_reprD hg hu eS) (by rfl) T.repr (by decide +kernel) (pa_cons (pv 8) pa_nil)) (nomark _))
              (pss_one (ps_ret pe_bl))
              pss_nil)))
          (pss_one (ps_for PassesOwn.never rfl (pi_tup (pr_tup (pr_cons (pr_bool pe_bl) (pr_cons (pr_none pe_non) (pr_cons (pr_str (by decide) pe_str) (pr_cons (pr_tup (pr_cons (pr_int pe_int) pr_nil)) pr_nil))))).pe) (pg_name (i := 9) sc_two.nd rfl (Or.inl rfl))
            (pss_one (ps_if (pt_cmpR op_notBl (pe_call G_query hr10 rfl D_query.g D_query.F.kp D_query.b .nil pass0 (pa_cons (pv 1) (pa_cons (pr_tup (pr_cons (pr_tup pr_nil) (pr_cons (pr_var (pv 2)) (pr_cons (pr_var (pv 6)) (pr_cons (pr_var (pv 9)) pr_nil))))).pe pa_nil))) pe_bl (nomark _))
              (pss_one (ps_ret pe_bl))
              pss_nil)))))
          (pss_one (ps_if (pt_cmpR op_ne (pe_callB (call_reprD hg hu eS) (by rfl) T.repr (by decide +kernel) (pa_cons (pe_call G_query hr10 rfl D_query.g D_query.F.kp D_query.b .nil pass0 (pa_cons (pv 1) (pa_cons (pe_op op_catA (pe_op op_catA (pr_tup (pr_cons (pr_tup pr_nil) (pr_cons (pr_var (pv 2)) pr_nil))).pe (pv 3)) (pr_tup (pr_cons (pr_var (pv 6)) pr_nil)).pe) pa_nil))) pa_nil)) (pe_callB (call_reprD hg hu eS) (by rfl) T.repr (by decide +kernel) (pa_cons (pv 8) pa_nil)) (nomark _))
            (pss_one (ps_ret pe_bl))
            pss_nil)))))))
      (pss_one (ps_ret pe_bl))), ?_⟩
    refine ⟨[p, q], .tuple (vals2 fi la), liv2 D, ⟨_, rfl, Nat.le_of_ble_eq_true rfl, ⟨_, _, rfl, ⟨_, _, rfl, ⟨_, rfl, .int _⟩, rfl⟩, ⟨_, _, rfl, ⟨_, rfl, .int _⟩, ⟨_, _, rfl, ⟨_, _, rfl, ⟨_, rfl, .int _⟩, rfl⟩, ⟨_, _, rfl, ⟨_, rfl, .int _⟩, ⟨_, _, rfl, rfl, ⟨_, _, rfl, rfl, rfl⟩⟩⟩⟩⟩⟩⟩, fun vt H1 S1 dvt => ?_⟩
    obtain ⟨ta, xs, rfl, hta, dxs⟩ := tup_inv dvt
    have tan : ta ≠ p ∧ ta ≠ q := ⟨fun z => hid_not hta (by rw [z]; simp), fun z => hid_not hta (by rw [z]; simp)⟩
    have tbn := dk_ne D htb
    have xl := dxs.len
    have xl : xs.length = 6 := xl
    refine ⟨ta, rfl, ⟨_, SqT.of (hid_sub _ _ hta)⟩, for_tup (K := K) (a := ta) (xs := xs) (fun i σ Hx => ∃ (x6 x7 x8 x9 : Option V), σ = [some (.ref p), some v, some (.str z), some (.ref tb), some (.int fi), some (.int la), x6, x7, x8, x9] ∧ Off p q H1 Hx ∧ Dk Hx p q (b + i)) ⟨none, none, none, none, rfl, Off.refl, D.same S1⟩ (fun i σ Hx _ ⟨_, _, _, _, _, O, _⟩ => SqT.of (O _ _ (hid_sub _ _ hta) tan.1 tan.2)) ?_ ?_⟩
    · rintro i x σ Hx hx ⟨x6, x7, x8, x9, rfl, O, Dx⟩
      have hi : i < 6 := by
        have := (List.getElem?_eq_some_iff.mp hx).1
        omega
      obtain ⟨d, hd, dx⟩ := dxs.get hx
      have dsh := vals2_short d (List.mem_of_getElem? hd)
      have hO := hid_off (hs := [p, q]) (by simp) (by simp) O
      have dx := dx.same hO
      have OH := (Off.of_same S1).trans O
      have dvx := dv.same (hid_off (hs := [p, q]) (by simp) (by simp) OH)
      have htbx := OH _ _ htb tbn.1 tbn.2
      refine ⟨x, d, rfl, dx.same hid_sub, ?_⟩
      refine ⟨x, d, fi, la, rfl, rfl, rfl, rfl, dx.same hid_sub, ?_⟩
      refine ⟨_, rfl, (by show 0 ≤ sizeLine; decide), fun te nte => ?_⟩
      have Se := same_new (o := HO.tup []) nte
      have hte : upd Hx te (.tup []) te = some (.tup []) := upd_same
      generalize upd Hx te (.tup []) = H2 at Se hte ⊢
      have D2 := Dx.same Se
      have O2 := O.trans (.of_same Se)
      have dx2 := dx.same (hid_same (hs := [p, q]) Se)
      have dv2 := dvx.same (hid_same (hs := [p, q]) Se)
      have htb2 := Se _ _ htbx
      refine ⟨tb, te, _, rfl, rfl, .inr ⟨htb2, hte⟩, _, rfl, ?_⟩
      clear hte Se dx dvx htbx
      cases be with
      | nil =>
        refine if_t rfl ?_
        have ask := h0 rfl
        -- the numbers
        obtain ⟨ns, m0, c0, D0, hc0⟩ := id D2
        refine ⟨_, rfl, _, _, rfl, rfl, ⟨by decide, by decide, by decide⟩, _, rfl, p, q, ns, m0, c0, 99, rfl, by decide, by decide, D0, by omega, fun so ns1 H3 so0 so1 O3 D3' => ?_⟩
        obtain ⟨j, rfl⟩ := nat_of so0
        have D3 : Dk H3 p q (b + i + 1) := ⟨_, m0, _, D3', by omega⟩
        clear D3' D0
        refine ⟨_, _, rfl, rfl, (by show 5 ≤ sizeLine; decide), fun th nth => ?_⟩
        obtain ⟨big, hbig⟩ : ∃ big : Int, big = 10 ^ (25 : Int).toNat := ⟨_, rfl⟩
        have y1 := same_new (o := HO.tup [.int 0, .int 61, .int (-61), .int (10 ^ (25 : Int).toNat), .int ((j : Nat) - 50)]) nth
        have hth : upd H3 th (.tup [.int 0, .int 61, .int (-61), .int (10 ^ (25 : Int).toNat), .int ((j : Nat) - 50)]) th = some (.tup (([0, 61, -61, big, (j : Nat) - 50] : List Int).map V.int)) := by
          rw [upd_same, hbig]
          rfl
        generalize upd H3 th (.tup [.int 0, .int 61, .int (-61), .int (10 ^ (25 : Int).toNat), .int ((j : Nat) - 50)]) = H4 at y1 hth ⊢
        have D4 := D3.same y1
        have O4 := (O2.trans O3).trans (.of_same y1)
        have h24 := (hid_off (hs := [p, q]) (by simp) (by simp) O3).trans (hid_same y1)
        have dx4 := dx2.same h24
        have dv4 := dv2.same h24
        clear y1 dx2 dv2 h24 O3 D3 O2 D2 nth
        refine ⟨th, rfl, ⟨_, SqT.of hth⟩, for_tup (K := K) (a := th) (xs := ([0, 61, -61, big, (j : Nat) - 50] : List Int).map V.int) (fun i2 σ Hy => ∃ (x9 : Option V), σ = [some (.ref p), some v, some (.str z), some (.ref tb), some (.int fi), some (.int la), some x, some (.bl (isInt d)), some (.bl (btw fi (la - 1) d)), x9] ∧ Same H4 Hy) ⟨_, rfl, Same.refl _⟩ (fun i2 σ Hy _ ⟨_, _, S⟩ => SqT.of (S _ _ hth)) ?_ ?_⟩
        · rintro i2 hv σ Hy hhv ⟨x9, rfl, S⟩
          rw [List.getElem?_map] at hhv
          obtain ⟨ih, _, rfl⟩ := Option.map_eq_some_iff.mp hhv
          have dh : Dat (hid [p, q] Hy) (.int ih) (.int ih) := .int _
          have dx := dx4.same (hid_same (hs := [p, q]) S)
          refine ⟨_, rfl, [p, q], .tuple [.tuple [], .str z, d, .int ih], liv2 (D4.same S), ⟨_, rfl, Nat.le_of_ble_eq_true rfl, ⟨_, _, rfl, ⟨_, rfl, Nat.le_of_ble_eq_true rfl, rfl⟩, ⟨_, _, rfl, ⟨_, rfl, .str _ hz⟩, ⟨_, _, rfl, ⟨_, rfl, dx⟩, ⟨_, _, rfl, ⟨_, rfl, dh⟩, rfl⟩⟩⟩⟩⟩, fun v' H' S' dv' => ?_⟩
          have eq : queryI Y15 sp (.tuple [.tuple [], .str z, d, .int ih]) = btw fi (la - 1) d := ((q_root sp z [d, .int ih]).trans (ask d (.int ih))).trans (Bool.and_true _)
          refine ⟨v, v', sp, _, rfl, ((dv4.same hid_sub).same S).same S', hok, dv'.same hid_sub, short_cons (Nat.le_of_ble_eq_true rfl) (short_cons (Nat.le_of_ble_eq_true rfl) (short_cons dsh (short_cons (Nat.le_of_ble_eq_true rfl) short_nil))), fun H'' S'' => ?_⟩
          rw [eq]
          refine ⟨.bl _, .bool _, rfl, .bl _, (bool_repr _).1, (bool_repr _).2.1, (bool_repr _).2.2, ?_⟩
          refine ⟨_, rfl, .bl _, .bool _, rfl, .bl _, (bool_repr _).1, (bool_repr _).2.1, (bool_repr _).2.2, ?_⟩
          refine ⟨rfl, _, rfl, ?_⟩
          refine if_f (by rw [decide_eq_true rfl]; rfl) ?_
          exact ⟨_, rfl, (S.trans S').trans S''⟩
        · rintro σ Hy ⟨x9, rfl, S⟩
          have dx := dx4.same (hid_same (hs := [p, q]) S)
          have dv5 := dv4.same (hid_same (hs := [p, q]) S)
          have D5 := D4.same S
          refine ⟨[p, q], .tuple badH, liv2 D5, ⟨_, rfl, Nat.le_of_ble_eq_true rfl, ⟨_, _, rfl, rfl, ⟨_, _, rfl, rfl, ⟨_, _, rfl, rfl, ⟨_, _, rfl, ⟨_, rfl, Nat.le_of_ble_eq_true rfl, ⟨_, _, rfl, rfl, rfl⟩⟩, rfl⟩⟩⟩⟩⟩, fun vb H5 S5 db => ?_⟩
          obtain ⟨tc, xb, rfl, htc, dxb⟩ := tup_inv db
          refine ⟨tc, rfl, ⟨_, SqT.of (hid_sub _ _ htc)⟩, for_tup (K := K) (a := tc) (xs := xb) (fun i2 σ Hz => ∃ (x9 : Option V), σ = [some (.ref p), some v, some (.str z), some (.ref tb), some (.int fi), some (.int la), some x, some (.bl (isInt d)), some (.bl (btw fi (la - 1) d)), x9] ∧ Same H5 Hz) ⟨_, rfl, Same.refl _⟩ (fun i2 σ Hz _ ⟨_, _, S6⟩ => SqT.of (S6 _ _ (hid_sub _ _ htc))) ?_ ?_⟩
          · rintro i2 hv σ Hz hhv ⟨x9, rfl, S6⟩
            obtain ⟨dh0, hdh, dh⟩ := dxb.get hhv
            obtain ⟨b1, b2⟩ := badH_ok dh0 (List.mem_of_getElem? hdh)
            have dh := dh.same (hid_same (hs := [p, q]) S6)
            have dx := (dx.same (hid_same (hs := [p, q]) S5)).same (hid_same (hs := [p, q]) S6)
            refine ⟨_, rfl, [p, q], .tuple [.tuple [], .str z, d, dh0], liv2 ((D5.same S5).same S6), ⟨_, rfl, Nat.le_of_ble_eq_true rfl, ⟨_, _, rfl, ⟨_, rfl, Nat.le_of_ble_eq_true rfl, rfl⟩, ⟨_, _, rfl, ⟨_, rfl, .str _ hz⟩, ⟨_, _, rfl, ⟨_, rfl, dx⟩, ⟨_, _, rfl, ⟨_, rfl, dh⟩, rfl⟩⟩⟩⟩⟩, fun v' H' S' dv' => ?_⟩
            have eq : queryI Y15 sp (.tuple [.tuple [], .str z, d, dh0]) = false := by
              refine ((q_root sp z [d, dh0]).trans (ask d dh0)).trans ?_
              rw [b2, Bool.and_false]
            refine ⟨v, v', sp, _, rfl, (((dv5.same hid_sub).same S5).same S6).same S', hok, dv'.same hid_sub, short_cons (Nat.le_of_ble_eq_true rfl) (short_cons (Nat.le_of_ble_eq_true rfl) (short_cons dsh (short_cons b1 short_nil))), fun H'' S'' => ?_⟩
            rw [eq]
            refine ⟨_, _, rfl, rfl, _, rfl, if_f rfl ?_⟩
            exact ⟨_, rfl, (S6.trans S').trans S''⟩
          · rintro σ Hz ⟨x9, rfl, S6⟩
            exact ⟨_, _, _, _, rfl, ((O4.trans (.of_same S)).trans (.of_same S5)).trans (.of_same S6), ((D5.same S5).same S6).mono (by omega)⟩
      | cons y be =>
        refine if_f rfl ?_
        have ask := h1 (by simp)
        have dx := dx2
        refine ⟨_, rfl, [p, q], .tuple [.tuple [], .str z], liv2 D2, ⟨_, rfl, Nat.le_of_ble_eq_true rfl, ⟨_, _, rfl, ⟨_, rfl, Nat.le_of_ble_eq_true rfl, rfl⟩, ⟨_, _, rfl, ⟨_, rfl, .str _ hz⟩, rfl⟩⟩⟩, fun v1 H3 S3 d1 => ?_⟩
        obtain ⟨c1, xs1, rfl, hc1, dc1⟩ := tup_inv d1
        have dc1l := dc1.len
        have dc1l : xs1.length = 2 := dc1l
        refine ⟨_, rfl, catA_of (hid_sub _ _ hc1) (S3 _ _ htb2) (by rw [dc1l, List.length_map, sizeLine_eq]; omega) fun c2 H4 S4 hc2 => ?_⟩
        have dx := (dx2.same (hid_same (hs := [p, q]) S3)).same (hid_same (hs := [p, q]) S4)
        have D4 := (D2.same S3).same S4
        refine ⟨[p, q], .tuple [d], liv2 D4, ⟨_, rfl, Nat.le_of_ble_eq_true rfl, ⟨_, _, rfl, ⟨_, rfl, dx⟩, rfl⟩⟩, fun v3 H5 S5 d3 => ?_⟩
        obtain ⟨c3, xs3, rfl, hc3, dc3⟩ := tup_inv d3
        have dc3l := dc3.len
        have dc3l : xs3.length = 1 := dc3l
        refine catA_of (S5 _ _ hc2) (hid_sub _ _ hc3) (by rw [List.length_append, dc1l, dc3l, List.length_map, sizeLine_eq]; omega) fun c4 H6 S6 hc4 => ?_
        have S26 := ((S3.trans S4).trans S5).trans S6
        have dq : Dat H6 (.ref c4) (.tuple ([.tuple [], .str z] ++ (y :: be).map PyData.str ++ [d])) :=
          .tup hc4 (datAll_append (datAll_append ((((dc1.same hid_sub).same S4).same S5).same S6) (strs_dat hbs)) ((dc3.same hid_sub).same S6))
        have eq : queryI Y15 sp (.tuple ([.tuple [], .str z] ++ (y :: be).map PyData.str ++ [d])) = btw fi (la - 1) d := (q_root sp z ((y :: be).map PyData.str ++ [d])).trans (ask d)
        refine ⟨v, .ref c4, sp, _, rfl, (dv2.same hid_sub).same S26, hok, dq, short_cons (Nat.le_of_ble_eq_true rfl) (short_cons (Nat.le_of_ble_eq_true rfl) (short_strs (y :: be) d dsh)), fun H'' S'' => ?_⟩
        rw [eq]
        refine ⟨.bl _, .bool _, rfl, .bl _, (bool_repr _).1, (bool_repr _).2.1, (bool_repr _).2.2, ?_⟩
        refine ⟨_, rfl, .bl _, .bool _, rfl, .bl _, (bool_repr _).1, (bool_repr _).2.1, (bool_repr _).2.2, ?_⟩
        refine ⟨rfl, _, rfl, ?_⟩
        refine if_f (by rw [decide_eq_true rfl]; rfl) ?_
        have S27 := S26.trans S''
        exact ⟨_, _, _, _, rfl, O2.trans (.of_same S27), (D2.same S27).mono (by omega)⟩
    · rintro σ Hx ⟨x6, x7, x8, x9, rfl, O, Dx⟩
      rw [xl] at Dx
      exact k _ ((Off.of_same S1).trans O) Dx
end
end KF
set_option maxRecDepth 100000
set_option maxHeartbeats 8000000
namespace KF
open PySem PySem.Spec PyProof.Rows L2
/-! ### _law_sets_right -/
abbrev s_sets : Stmt := top 46
def goodL : List PyData := [.tuple [], .tuple [.str "a"], .tuple [.str "a", .str "b"], .tuple [.str "qqqqqq"], .tuple [.str "a", .str "ab", .str "b", .str "zz"]]
def badL : List PyData := [.tuple [.str "b", .str "a"], .tuple [.str "a", .str "a"], .list [.str "a"], .str "a", .none, .tuple [.str "A"], .tuple [.str ""], .tuple [.str "abcdefg"], .tuple [.int 0], .tuple [.str "a", .none], .tuple [.str "a", .tuple [.str "b"]]]
def goodS : List PyData := [.tuple [], .tuple [.int 0], .tuple [.int 7], .tuple [.int 0, .int 1, .int 2, .int 3, .int 4, .int 5, .int 6, .int 7], .tuple [.int 3, .int 5]]
def badS : List PyData := [.tuple [.int 8], .tuple [.int (-1)], .tuple [.int 1, .int 0], .tuple [.int 1, .int 1], .list [.int 0], .int 0, .none, .tuple [.bool true], .tuple [.str "0"], .tuple [.int 0, .none]]
theorem goodL_ok : ∀ d ∈ goodL, (tupItems d).length ≤ 1000 ∧ letsB d = true := by
  intro d hd
  unfold goodL at hd
  simp only [List.mem_cons, List.not_mem_nil, or_false] at hd
  rcases hd with rfl | rfl | rfl | rfl | rfl <;> exact ⟨Nat.le_of_ble_eq_true rfl, by decide +kernel⟩
theorem badL_ok : ∀ d ∈ badL, (tupItems d).length ≤ 1000 ∧ letsB d = false := by
  intro d hd
  unfold badL at hd
  simp only [List.mem_cons, List.not_mem_nil, or_false] at hd
  rcases hd with rfl | rfl | rfl | rfl | rfl | rfl | rfl | rfl | rfl | rfl | rfl <;> exact ⟨Nat.le_of_ble_eq_true rfl, by decide +kernel⟩
theorem goodS_ok : ∀ d ∈ goodS, (tupItems d).length ≤ 1000 ∧ statesB d = true := by
  intro d hd
  unfold goodS at hd
  simp only [List.mem_cons, List.not_mem_nil, or_false] at hd
  rcases hd with rfl | rfl | rfl | rfl | rfl <;> exact ⟨Nat.le_of_ble_eq_true rfl, by decide +kernel⟩
theorem badS_ok : ∀ d ∈ badS, (tupItems d).length ≤ 1000 ∧ statesB d = false := by
  intro d hd
  unfold badS at hd
  simp only [List.mem_cons, List.not_mem_nil, or_false] at hd
  rcases hd with rfl | rfl | rfl | rfl | rfl | rfl | rfl | rfl | rfl | rfl <;> exact ⟨Nat.le_of_ble_eq_true rfl, by decide +kernel⟩
theorem letter_in (n : Int) (p d : PyData) : stringB n "letter_in" [p, d] = (btw 0 (n - 1) p && letsB d) := by
  unfold stringB
  rw [show decide (("letter_in" : Str) = "letter_in") = true by decide +kernel]
  rfl
theorem state_in (n : Int) (p d : PyData) : stringB n "state_in" [p, d] = (btw 0 n p && statesB d) := by
  unfold stringB
  rw [show decide (("state_in" : Str) = "letter_in") = false by decide +kernel, show decide (("state_in" : Str) = "state_in") = true by decide +kernel]
  rfl
/-- what is asked of a row of sets -/
structure SetOk (n : Nat) (z : Str) (its oth : List PyData) (m : Int) : Prop where
  hz : z.length ≤ 1000
  sh : ∀ d ∈ its, (tupItems d).length ≤ 1000
  sh2 : ∀ d ∈ oth, (tupItems d).length ≤ 1000
  yes : ∀ d ∈ its, ∀ p, askS (.leaf (.str n)) z [p, d] = btw 0 (m - 1) p
  no : ∀ d ∈ oth, ∀ p, askS (.leaf (.str n)) z [p, d] = false
theorem set_letters (n : Nat) : SetOk n "letter_in" goodL badL (n : Int) := ⟨by decide, fun d hd => (goodL_ok d hd).1, fun d hd => (badL_ok d hd).1, fun d hd p => by
  show stringB (n : Int) "letter_in" [p, d] = _
  rw [letter_in, (goodL_ok d hd).2, Bool.and_true], fun d hd p => by
  show stringB (n : Int) "letter_in" [p, d] = _
  rw [letter_in, (badL_ok d hd).2, Bool.and_false]⟩
theorem set_states (n : Nat) : SetOk n "state_in" goodS badS ((n : Int) + 1) := ⟨by decide, fun d hd => (goodS_ok d hd).1, fun d hd => (badS_ok d hd).1, fun d hd p => by
  show stringB (n : Int) "state_in" [p, d] = _
  rw [state_in, (goodS_ok d hd).2, Bool.and_true, Int.add_sub_cancel], fun d hd p => by
  show stringB (n : Int) "state_in" [p, d] = _
  rw [state_in, (badS_ok d hd).2, Bool.and_false]⟩
section
variable {X : Cx}
def isIB : PyData → Bool
  | .int _ => true
  | .bool _ => true
  | _ => false
/-- not isinstance(v, bool) and 0 <= v < bound -/
def tDue2 (v l : Nat) : TE := fun σ H Q => ∃ (x : V) (d : PyData) (j : Int), σ[v]? = some (some x) ∧ σ[l]? = some (some (.int j)) ∧ Dat H x d ∧ isIB d = true ∧ Q (.bl (btw 0 (j - 1) d)) H
theorem pe_due2 {e : Expr} {v l : Nat} (a : PE X e (tAndV (tNotV (tCB (rIsi X.K) (tCons (tVar v) (tCons (tC (.ty "bool")) tNil)))) (tChain (rI0 fun i j => .bl (decide (i ≤ j))) (rI0 fun i j => .bl (decide (i < j))) (tC (.int 0)) (tVar v) (tVar l)))) : PE X e (tDue2 v l) :=
  pe_weak a fun σ H Q ⟨x, d, j, h1, h2, hd, hi, q⟩ => by
    refine ⟨_, h1, x, .ty "bool", _, _, _, rfl, .ty _, hd.ty, kit_bool _ _, _, rfl, _, rfl, ?_⟩
    cases d with
    | int z =>
      cases hd
      refine if_t rfl ⟨_, h1, _, _, rfl, rfl, _, rfl, ?_⟩
      have e0 : btw 0 (j - 1) (.int z) = (decide (0 ≤ z) && decide (z < j)) := by
        show (decide (0 ≤ z) && decide (z ≤ j - 1)) = _
        congr 1
        by_cases h : z < j
        · rw [decide_eq_true h, decide_eq_true (by omega)]
        · rw [decide_eq_false h, decide_eq_false (by omega)]
      rw [e0] at q
      by_cases h : 0 ≤ z
      · rw [decide_eq_true h] at q ⊢
        exact if_t rfl ⟨_, h2, _, _, rfl, rfl, q⟩
      · rw [decide_eq_false h] at q ⊢
        exact if_f rfl q
    | bool b => exact if_f rfl q
    | none => cases hi
    | str x => cases hi
    | list ds => cases hi
    | tuple ds => cases hi
    | dict kv => cases hi
end
theorem d_nil {H : Hp} {v : V} {d : PyData} (h : Dat H v d) : Dat (hid [] H) v d := by
  rw [hid_nil]
  exact h
theorem lst_inv {H : Hp} {v : V} {ds : List PyData} (h : Dat H v (.list ds)) : ∃ (a : Addr) (xs : List V), v = .ref a ∧ H a = some (.lst xs) ∧ DatAll H xs ds := by
  cases h with
  | lst h0 h1 => exact ⟨_, _, rfl, h0, h1⟩
def psD (m : Int) : List PyData := [.int 0, .int (m - 1), .int m, .int (-1), .bool false]
theorem psD_ok {m : Int} : ∀ d ∈ psD m, isIB d = true ∧ (tupItems d).length ≤ 1000 := by
  intro d hd
  unfold psD at hd
  simp only [List.mem_cons, List.not_mem_nil, or_false] at hd
  rcases hd with rfl | rfl | rfl | rfl | rfl <;> exact ⟨rfl, Nat.le_of_ble_eq_true rfl⟩
def spSets : Sp := fun vs H Q _ => ∃ (v : V) (n : Nat), vs = [v] ∧ Dat H v (ldt (.str n)) ∧ ∀ H', Same H H' → Q (.bl true) H'
section
variable {P : Program} {w : World} {K : PySem.W.Frag} {mg : Str → Option Value} {base : Heap}
theorem sc_sets : FnScope ["_law_space", "_law_good", "_law_bad", "_law_word", "_law_items", "_law_others", "_law_bound", "_law_p", "_law_due", "_law_one"] ["_law_space"] (defScope s_sets) := ⟨rfl, rfl, rfl, by decide +kernel, rfl, by decide +kernel, by decide +kernel⟩
theorem ok_sets {f fQ : Addr} {fd fdQ : FuncData} (F : Fun K "_law_sets_right" "_law_sets_right" s_sets f fd) (T : Nm mg) (eS : PySem.W.nsIn K cStatics "sys.int_max_str_digits" = some none)
    (D_query : DefOk K mg "is_query" s_query ["space", "value"] fQ fdQ) (G_query : FnOk P w K mg base CX0 10 fQ fdQ ["space", "value"] (spQuery Y15)) :
    FnG P w K mg base 11 f fd ["_law_space"] spSets := by
  refine F.okG sc_sets (fun vs H Q E h => ?_) (fun cdv A outer s H vs Q E hg hr h => ?_)
  · obtain ⟨v, n, rfl, _⟩ := h
    rfl
  · obtain ⟨v, n, rfl, dv, k⟩ := h
    have hu : (A.deeper (envOfC "_law_sets_right" (defScope s_sets) s.heap.objs.size f cdv)).units + 128 < cLine := by
      have := hr.un
      omega
    have hu0 : (A.deeper (envOfC "_law_sets_right" (defScope s_sets) s.heap.objs.size f cdv)).units < cLine := by omega
    have hr10 : Room 10 _ := hr
    refine ⟨_, (pss_cons (ps_set (i := 1) sc_sets.nd rfl (Or.inl rfl) (pr_lst (pr_cons (pr_tup pr_nil) (pr_cons (pr_tup (pr_cons (pr_str (by decide) pe_str) pr_nil)) (pr_cons (pr_tup (pr_cons (pr_str (by decide) pe_str) (pr_cons (pr_str (by decide) pe_str) pr_nil))) (pr_cons (pr_tup (pr_cons (pr_str (by decide) pe_str) pr_nil)) (pr_cons (pr_tup (pr_cons (pr_str (by decide) pe_str) (pr_cons (pr_str (by decide) pe_str) (pr_cons (pr_str (by decide) pe_str) (pr_cons (pr_str (by decide) pe_str) pr_nil))))) pr_nil)))))).pe)
      (pss_cons (ps_set (i := 2) sc_sets.nd rfl (Or.inl rfl) (pr_lst (pr_cons (pr_tup (pr_cons (pr_str (by decide) pe_str) (pr_cons (pr_str (by decide) pe_str) pr_nil))) (pr_cons (pr_tup (pr_cons (pr_str (by decide) pe_str) (pr_cons (pr_str (by decide) pe_str) pr_nil))) (pr_cons (pr_lst (pr_cons (pr_str (by decide) pe_str) pr_nil)) (pr_cons (pr_str (by decide) pe_str) (pr_cons (pr_none pe_non) (pr_cons (pr_tup (pr_cons (pr_str (by decide) pe_str) pr_nil)) (pr_cons (pr_tup (pr_cons (pr_str (by decide) pe_str) pr_nil)) (pr_cons (pr_tup (pr_cons (pr_str (by decide) pe_str) pr_nil)) (pr_cons (pr_tup (pr_cons (pr_int pe_int) pr_nil)) (pr_cons (pr_tup (pr_cons (pr_str (by decide) pe_str) (pr_cons (pr_none pe_non) pr_nil))) (pr_cons (pr_tup (pr_cons (pr_str (by decide) pe_str) (pr_cons (pr_tup (pr_cons (pr_str (by decide) pe_str) pr_nil)) pr_nil))) pr_nil)))))))))))).pe)
      (pss_cons (ps_for PassesOwn.never rfl (pi_tup (pr_tup (pr_cons (pr_tup (pr_cons (pr_str (by decide) pe_str) (pr_cons (pr_var (pv 1)) (pr_cons (pr_var (pv 2)) (pr_cons (pr_ix (k := 2) (pr_var (pv 0)) pe_int) pr_nil))))) (pr_cons (pr_tup (pr_cons (pr_str (by decide) pe_str) (pr_cons (pr_lst pr_nil) (pr_cons (pr_lst pr_nil) (pr_cons (pr_add (pr_ix (k := 2) (pr_var (pv 0)) pe_int) (pr_int pe_int)) pr_nil))))) pr_nil))).pe) (pg_tup rfl (pgs_cons (pg_name (i := 3) sc_sets.nd rfl (Or.inr rfl)) (pgs_cons (pg_name (i := 4) sc_sets.nd rfl (Or.inl rfl)) (pgs_cons (pg_name (i := 5) sc_sets.nd rfl (Or.inl rfl)) (pgs_cons (pg_name (i := 6) sc_sets.nd rfl (Or.inl rfl)) pgs_nil)))))
        (C8.pss_cut (ps_if (pt_cmpR op_eq (pv 3) pe_str (nomark _))
          (pss_cons (ps_set (i := 4) sc_sets.nd rfl (Or.inl rfl) (pr_lst (pr_cons (pr_tup pr_nil) (pr_cons (pr_tup (pr_cons (pr_int pe_int) pr_nil)) (pr_cons (pr_tup (pr_cons (pr_int pe_int) pr_nil)) (pr_cons (pr_tup (pr_cons (pr_int pe_int) (pr_cons (pr_int pe_int) (pr_cons (pr_int pe_int) (pr_cons (pr_int pe_int) (pr_cons (pr_int pe_int) (pr_cons (pr_int pe_int) (pr_cons (pr_int pe_int) (pr_cons (pr_int pe_int) pr_nil))))))))) (pr_cons (pr_tup (pr_cons (pr_int pe_int) (pr_cons (pr_int pe_int) pr_nil))) pr_nil)))))).pe)
          (pss_one (ps_set (i := 5) sc_sets.nd rfl (Or.inl rfl) (pr_lst (pr_cons (pr_tup (pr_cons (pr_int pe_int) pr_nil)) (pr_cons (pr_tup (pr_cons (pr_neg pe_int) pr_nil)) (pr_cons (pr_tup (pr_cons (pr_int pe_int) (pr_cons (pr_int pe_int) pr_nil))) (pr_cons (pr_tup (pr_cons (pr_int pe_int) (pr_cons (pr_int pe_int) pr_nil))) (pr_cons (pr_lst (pr_cons (pr_int pe_int) pr_nil)) (pr_cons (pr_int pe_int) (pr_cons (pr_none pe_non) (pr_cons (pr_tup (pr_cons (pr_bool pe_bl) pr_nil)) (pr_cons (pr_tup (pr_cons (pr_str (by decide) pe_str) pr_nil)) (pr_cons (pr_tup (pr_cons (pr_int pe_int) (pr_cons (pr_none pe_non) pr_nil))) pr_nil))))))))))).pe)))
          pss_nil)
        (pss_one (ps_for PassesOwn.never rfl (pi_tup (pr_tup (pr_cons (pr_int pe_int) (pr_cons (pr_sub (pr_var (pv 6)) (pr_int pe_int)) (pr_cons (pr_var (pv 6)) (pr_cons (pr_neg pe_int) (pr_cons (pr_bool pe_bl) pr_nil)))))).pe) (pg_name (i := 7) sc_sets.nd rfl (Or.inr rfl))
          (pss_cons (ps_set (i := 8) sc_sets.nd rfl (Or.inr rfl) (pe_due2 (v := 7) (l := 6) (pe_and (pe_not (pe_callB call_isi (by rfl) T.isinstance boot_isinstance (pa_cons (pv 7) (pa_cons (pe_bltn (v := .ty "bool") rfl T.bool (by decide +kernel) rfl) pa_nil)))) (pe_one (pe_chain op_le op_lt pe_int (pv 7) (pv 6))))))
          (pss_cons (ps_if (pt_cmpR (op_nempty hu0) (pe_lc (own := [("_law_one", 9)]) (g := (gName 9)) (tt := (tTest (tOp rNe (tCB rReprD (tCons (tCall (spQuery Y15) [] E0 (tCons (tVar 0) (tCons (tR (rT (rCons (rT rNil) (rCons (rV 3) (rCons (rV 7) (rCons (rV 9) rNil)))))) tNil))) tNil)) (tCB rReprD (tCons (tVar 8) tNil))))) (te := tVar 9) rfl sc_sets.nd (pi_list (pv 4)) (blkOk_by (N := ["_law_space", "_law_good", "_law_bad", "_law_word", "_law_items", "_law_others", "_law_bound", "_law_p", "_law_due", "_law_one"]) (sc := defScope s_sets) (by decide +kernel))
          (fun _ _ _ _ _ => (pg_name (i := 9) sc_sets.nd rfl (Or.inl rfl))) (fun _ _ _ _ _ => pts_one (pt_cmpR op_ne (pe_callB (call_reprD hg hu eS) (by rfl) T.repr (by decide +kernel) (pa_cons (pe_call G_query hr10 rfl D_query.g D_query.F.kp D_query.b .nil pass0 (pa_cons (pv 0) (pa_cons (pr_tup (pr_cons (pr_tup pr_nil) (pr_cons (pr_var (pv 3)) (pr_cons (pr_var (pv 7)) (pr_cons (pr_var (pv 9)) pr_nil))))).pe pa_nil))) pa_nil)) (pe_callB (call_reprD hg hu eS) (by rfl) T.repr (by decide +kernel) (pa_cons (pv 8) pa_nil)) (nomark _))) (fun _ _ _ _ _ => (pv 9))) (pe_lst pa_nil) (nomark _))
            (pss_one (ps_ret pe_bl))
            pss_nil)
          (pss_one (ps_if (pt_cmpR (op_nempty hu0) (pe_lc (own := [("_law_one", 9)]) (g := (gName 9)) (tt := (tTest (tOp rNotB (tCall (spQuery Y15) [] E0 (tCons (tVar 0) (tCons (tR (rT (rCons (rT rNil) (rCons (rV 3) (rCons (rV 7) (rCons (rV 9) rNil)))))) tNil))) (tC (.bl false))))) (te := tVar 9) rfl sc_sets.nd (pi_list (pv 5)) (blkOk_by (N := ["_law_space", "_law_good", "_law_bad", "_law_word", "_law_items", "_law_others", "_law_bound", "_law_p", "_law_due", "_law_one"]) (sc := defScope s_sets) (by decide +kernel))
          (fun _ _ _ _ _ => (pg_name (i := 9) sc_sets.nd rfl (Or.inl rfl))) (fun _ _ _ _ _ => pts_one (pt_cmpR op_notBl (pe_call G_query hr10 rfl D_query.g D_query.F.kp D_query.b .nil pass0 (pa_cons (pv 0) (pa_cons (pr_tup (pr_cons (pr_tup pr_nil) (pr_cons (pr_var (pv 3)) (pr_cons (pr_var (pv 7)) (pr_cons (pr_var (pv 9)) pr_nil))))).pe pa_nil))) pe_bl (nomark _))) (fun _ _ _ _ _ => (pv 9))) (pe_lst pa_nil) (nomark _))
            (pss_one (ps_ret pe_bl))
            pss_nil))))))))
      (pss_one (ps_ret pe_bl))))), ?_⟩
    refine ⟨[], .list goodL, liv_nil, ⟨_, rfl, Nat.le_of_ble_eq_true rfl, ⟨_, _, rfl, ⟨_, rfl, Nat.le_of_ble_eq_true rfl, rfl⟩, ⟨_, _, rfl, ⟨_, rfl, Nat.le_of_ble_eq_true rfl, ⟨_, _, rfl, rfl, rfl⟩⟩, ⟨_, _, rfl, ⟨_, rfl, Nat.le_of_ble_eq_true rfl, ⟨_, _, rfl, rfl, ⟨_, _, rfl, rfl, rfl⟩⟩⟩, ⟨_, _, rfl, ⟨_, rfl, Nat.le_of_ble_eq_true rfl, ⟨_, _, rfl, rfl, rfl⟩⟩, ⟨_, _, rfl, ⟨_, rfl, Nat.le_of_ble_eq_true rfl, ⟨_, _, rfl, rfl, ⟨_, _, rfl, rfl, ⟨_, _, rfl, rfl, ⟨_, _, rfl, rfl, rfl⟩⟩⟩⟩⟩, rfl⟩⟩⟩⟩⟩⟩, fun vg H1 S1 dg => ?_⟩
    refine ⟨[], .list badL, liv_nil, ⟨_, rfl, Nat.le_of_ble_eq_true rfl, ⟨_, _, rfl, ⟨_, rfl, Nat.le_of_ble_eq_true rfl, ⟨_, _, rfl, rfl, ⟨_, _, rfl, rfl, rfl⟩⟩⟩, ⟨_, _, rfl, ⟨_, rfl, Nat.le_of_ble_eq_true rfl, ⟨_, _, rfl, rfl, ⟨_, _, rfl, rfl, rfl⟩⟩⟩, ⟨_, _, rfl, ⟨_, rfl, Nat.le_of_ble_eq_true rfl, ⟨_, _, rfl, rfl, rfl⟩⟩, ⟨_, _, rfl, rfl, ⟨_, _, rfl, rfl, ⟨_, _, rfl, ⟨_, rfl, Nat.le_of_ble_eq_true rfl, ⟨_, _, rfl, rfl, rfl⟩⟩, ⟨_, _, rfl, ⟨_, rfl, Nat.le_of_ble_eq_true rfl, ⟨_, _, rfl, rfl, rfl⟩⟩, ⟨_, _, rfl, ⟨_, rfl, Nat.le_of_ble_eq_true rfl, ⟨_, _, rfl, rfl, rfl⟩⟩, ⟨_, _, rfl, ⟨_, rfl, Nat.le_of_ble_eq_true rfl, ⟨_, _, rfl, rfl, rfl⟩⟩, ⟨_, _, rfl, ⟨_, rfl, Nat.le_of_ble_eq_true rfl, ⟨_, _, rfl, rfl, ⟨_, _, rfl, rfl, rfl⟩⟩⟩, ⟨_, _, rfl, ⟨_, rfl, Nat.le_of_ble_eq_true rfl, ⟨_, _, rfl, rfl, ⟨_, _, rfl, ⟨_, rfl, Nat.le_of_ble_eq_true rfl, ⟨_, _, rfl, rfl, rfl⟩⟩, rfl⟩⟩⟩, rfl⟩⟩⟩⟩⟩⟩⟩⟩⟩⟩⟩⟩, fun vb H2 S2 db => ?_⟩
    have dg := dg.same (hid_same (hs := []) S2)
    have dv := d_nil ((dv.same S1).same S2)
    have dvt : Dat (hid [] H2) v (.tuple [.str "string", .tuple [.tuple movesD, .tuple [.int 0, .int 3]], .int (n : Nat)]) := dv
    refine ⟨[], .tuple [.tuple [.str "letter_in", .list goodL, .list badL, .int (n : Nat)], .tuple [.str "state_in", .list [], .list [], .int ((n : Nat) + 1)]], liv_nil, ⟨_, rfl, Nat.le_of_ble_eq_true rfl, ⟨_, _, rfl, ⟨_, rfl, Nat.le_of_ble_eq_true rfl, ⟨_, _, rfl, rfl, ⟨_, _, rfl, ⟨_, rfl, dg⟩, ⟨_, _, rfl, ⟨_, rfl, db⟩, ⟨_, _, rfl, ⟨_, ⟨_, rfl, dv⟩, rfl⟩, rfl⟩⟩⟩⟩⟩, ⟨_, _, rfl, ⟨_, rfl, Nat.le_of_ble_eq_true rfl, ⟨_, _, rfl, rfl, ⟨_, _, rfl, ⟨_, rfl, Nat.le_of_ble_eq_true rfl, rfl⟩, ⟨_, _, rfl, ⟨_, rfl, Nat.le_of_ble_eq_true rfl, rfl⟩, ⟨_, _, rfl, ⟨_, _, rfl, ⟨_, ⟨_, rfl, dv⟩, rfl⟩, rfl⟩, rfl⟩⟩⟩⟩⟩, rfl⟩⟩⟩, fun vr H3 S3 dr => ?_⟩
    obtain ⟨ta, xs, rfl, hta, dxs⟩ := tup_inv (dr.same hid_sub)
    have S03 := (S1.trans S2).trans S3
    have dv3 := (dv.same hid_sub).same S3
    refine ⟨ta, rfl, ⟨_, SqT.of hta⟩, for_tup (K := K) (a := ta) (xs := xs) (fun i σ Hx => ∃ (x3 x4 x5 x6 x7 x8 : Option V), σ = [some v, some vg, some vb, x3, x4, x5, x6, x7, x8, none] ∧ Same H3 Hx) ⟨none, none, none, none, none, none, rfl, Same.refl _⟩ (fun i σ Hx _ ⟨_, _, _, _, _, _, _, S⟩ => SqT.of (S _ _ hta)) ?_ ?_⟩
    · rintro i x σ Hx hx ⟨x3, x4, x5, x6, x7, x8, rfl, S⟩
      obtain ⟨d, hd, dx⟩ := dxs.get hx
      have dx := dx.same S
      obtain ⟨z, its, oth, m, c, rfl, hrow⟩ : ∃ (z : Str) (its oth : List PyData) (m : Int) (c : Bool), d = .tuple [.str z, .list its, .list oth, .int m] ∧ (if c = true then z = "state_in" ∧ m = (n : Int) + 1 else z = "letter_in" ∧ its = goodL ∧ oth = badL ∧ m = (n : Int)) := by
        match i, hd with
        | 0, hd => exact ⟨_, _, _, _, false, (Option.some.inj hd).symm, by rw [if_neg Bool.false_ne_true]; exact ⟨rfl, rfl, rfl, rfl⟩⟩
        | 1, hd => exact ⟨_, _, _, _, true, (Option.some.inj hd).symm, by rw [if_pos rfl]; exact ⟨rfl, rfl⟩⟩
        | j + 2, hd => simp at hd
      obtain ⟨tb, ys, rfl, htb, dys⟩ := tup_inv dx
      match ys, dys, htb with
      | [_, _, _, _], .cons (.str _ hzz) (.cons di (.cons dO (.cons (.int _) .nil))), htb =>
        obtain ⟨ia, xi, rfl, hia, dxi⟩ := lst_inv di
        obtain ⟨oa, xo, rfl, hoa, dxo⟩ := lst_inv dO
        refine ⟨tb, _, rfl, SqT.of htb, rfl, _, _, rfl, _, _, rfl, _, _, rfl, _, _, rfl, rfl, ?_⟩
        refine ⟨fun σ' Hy => ∃ (its oth : List PyData) (ia oa : Addr) (xi xo : List V), σ' = [some v, some vg, some vb, some (.str z), some (.ref ia), some (.ref oa), some (.int m), x7, x8, none] ∧ Same H3 Hy ∧ Hy ia = some (.lst xi) ∧ DatAll Hy xi its ∧ Hy oa = some (.lst xo) ∧ DatAll Hy xo oth ∧ SetOk n z its oth m, ?_, ?_⟩
        · refine ⟨_, rfl, rfl, _, rfl, ?_⟩
          cases c with
          | false =>
            rw [if_neg Bool.false_ne_true] at hrow
            obtain ⟨rfl, rfl, rfl, rfl⟩ := hrow
            exact if_f (by decide +kernel) ⟨_, _, ia, oa, xi, xo, rfl, S, hia, dxi, hoa, dxo, set_letters n⟩
          | true =>
            rw [if_pos rfl] at hrow
            obtain ⟨rfl, rfl⟩ := hrow
            refine if_t (by decide +kernel) ?_
            refine ⟨[], .list goodS, liv_nil, ⟨_, rfl, Nat.le_of_ble_eq_true rfl, ⟨_, _, rfl, ⟨_, rfl, Nat.le_of_ble_eq_true rfl, rfl⟩, ⟨_, _, rfl, ⟨_, rfl, Nat.le_of_ble_eq_true rfl, ⟨_, _, rfl, rfl, rfl⟩⟩, ⟨_, _, rfl, ⟨_, rfl, Nat.le_of_ble_eq_true rfl, ⟨_, _, rfl, rfl, rfl⟩⟩, ⟨_, _, rfl, ⟨_, rfl, Nat.le_of_ble_eq_true rfl, ⟨_, _, rfl, rfl, ⟨_, _, rfl, rfl, ⟨_, _, rfl, rfl, ⟨_, _, rfl, rfl, ⟨_, _, rfl, rfl, ⟨_, _, rfl, rfl, ⟨_, _, rfl, rfl, ⟨_, _, rfl, rfl, rfl⟩⟩⟩⟩⟩⟩⟩⟩⟩, ⟨_, _, rfl, ⟨_, rfl, Nat.le_of_ble_eq_true rfl, ⟨_, _, rfl, rfl, ⟨_, _, rfl, rfl, rfl⟩⟩⟩, rfl⟩⟩⟩⟩⟩⟩, fun v1 H4 S4 d1 => ?_⟩
            refine ⟨[], .list badS, liv_nil, ⟨_, rfl, Nat.le_of_ble_eq_true rfl, ⟨_, _, rfl, ⟨_, rfl, Nat.le_of_ble_eq_true rfl, ⟨_, _, rfl, rfl, rfl⟩⟩, ⟨_, _, rfl, ⟨_, rfl, Nat.le_of_ble_eq_true rfl, ⟨_, _, rfl, rfl, rfl⟩⟩, ⟨_, _, rfl, ⟨_, rfl, Nat.le_of_ble_eq_true rfl, ⟨_, _, rfl, rfl, ⟨_, _, rfl, rfl, rfl⟩⟩⟩, ⟨_, _, rfl, ⟨_, rfl, Nat.le_of_ble_eq_true rfl, ⟨_, _, rfl, rfl, ⟨_, _, rfl, rfl, rfl⟩⟩⟩, ⟨_, _, rfl, ⟨_, rfl, Nat.le_of_ble_eq_true rfl, ⟨_, _, rfl, rfl, rfl⟩⟩, ⟨_, _, rfl, rfl, ⟨_, _, rfl, rfl, ⟨_, _, rfl, ⟨_, rfl, Nat.le_of_ble_eq_true rfl, ⟨_, _, rfl, rfl, rfl⟩⟩, ⟨_, _, rfl, ⟨_, rfl, Nat.le_of_ble_eq_true rfl, ⟨_, _, rfl, rfl, rfl⟩⟩, ⟨_, _, rfl, ⟨_, rfl, Nat.le_of_ble_eq_true rfl, ⟨_, _, rfl, rfl, ⟨_, _, rfl, rfl, rfl⟩⟩⟩, rfl⟩⟩⟩⟩⟩⟩⟩⟩⟩⟩⟩, fun v2 H5 S5 d2 => ?_⟩
            obtain ⟨a1, x1, rfl, h1, e1⟩ := lst_inv (d1.same hid_sub)
            obtain ⟨a2, x2, rfl, h2, e2⟩ := lst_inv (d2.same hid_sub)
            exact ⟨_, _, a1, a2, x1, x2, rfl, (S.trans S4).trans S5, S5 _ _ h1, e1.same S5, h2, e2, set_states n⟩
        · clear hia dxi hoa dxo di dO hrow
          rintro σ' Hy ⟨its, oth, ia, oa, xi, xo, rfl, S, hia, dxi, hoa, dxo, so⟩
          have hz := so.hz
          refine ⟨[], .tuple (psD m), liv_nil, ⟨_, rfl, Nat.le_of_ble_eq_true rfl, ⟨_, _, rfl, rfl, ⟨_, _, rfl, ⟨_, _, rfl, ⟨_, rfl, .int _⟩, rfl⟩, ⟨_, _, rfl, ⟨_, rfl, .int _⟩, ⟨_, _, rfl, rfl, ⟨_, _, rfl, rfl, rfl⟩⟩⟩⟩⟩⟩, fun vp H4 S4 dps => ?_⟩
          obtain ⟨tp, xp, rfl, htp, dxp⟩ := tup_inv (dps.same hid_sub)
          refine ⟨tp, rfl, ⟨_, SqT.of htp⟩, for_tup (K := K) (a := tp) (xs := xp) (fun i2 σ Hz => ∃ (x7 x8 : Option V), σ = [some v, some vg, some vb, some (.str z), some (.ref ia), some (.ref oa), some (.int m), x7, x8, none] ∧ Same H4 Hz) ⟨_, _, rfl, Same.refl _⟩ (fun i2 σ Hz _ ⟨_, _, _, S⟩ => SqT.of (S _ _ htp)) ?_ ?_⟩
          · rintro i2 pv' σ Hz hp ⟨x7, x8, rfl, S5⟩
            obtain ⟨pd', hpd, dp⟩ := dxp.get hp
            obtain ⟨hib, psh⟩ := psD_ok pd' (List.mem_of_getElem? hpd)
            have dp := dp.same S5
            have S45 := S4.trans S5
            refine ⟨pv', pd', m, rfl, rfl, dp, hib, ?_⟩
            have hia5 := S45 _ _ hia
            have hoa5 := S45 _ _ hoa
            have dv5 := (dv3.same S).same S45
            refine ⟨_, rfl, ia, rfl, ⟨_, SqL.of hia5⟩, fun M nM => lc_list (K := K) (a := ia) (xs := xi) (fun j H6 => Same Hz H6 ∧ H6 M = some (.lst [])) ⟨same_new nM, upd_same⟩ (fun j H6 _ ⟨S6, _⟩ => SqL.of (S6 _ _ hia5)) ?_ ?_⟩
            · rintro j one H6 hj ⟨S6, hM⟩
              obtain ⟨d, hd, dx⟩ := dxi.get hj
              have hmem := List.mem_of_getElem? hd
              have dx := d_nil ((dx.same S45).same S6)
              have dp := d_nil (dp.same S6)
              refine ⟨rfl, _, rfl, [], .tuple [.tuple [], .str z, pd', d], liv_nil, ⟨_, rfl, Nat.le_of_ble_eq_true rfl, ⟨_, _, rfl, ⟨_, rfl, Nat.le_of_ble_eq_true rfl, rfl⟩, ⟨_, _, rfl, ⟨_, rfl, .str _ hz⟩, ⟨_, _, rfl, ⟨_, rfl, dp⟩, ⟨_, _, rfl, ⟨_, rfl, dx⟩, rfl⟩⟩⟩⟩⟩, fun v' H' S' dv' => ?_⟩
              have eq : queryI Y15 (.leaf (.str n)) (.tuple [.tuple [], .str z, pd', d]) = btw 0 (m - 1) pd' := (q_root (.leaf (.str n)) z [pd', d]).trans (so.yes d hmem pd')
              refine ⟨v, v', .leaf (.str n), _, rfl, (dv5.same S6).same S', trivial, dv'.same hid_sub, short_cons (Nat.le_of_ble_eq_true rfl) (short_cons (Nat.le_of_ble_eq_true rfl) (short_cons psh (short_cons (so.sh d hmem) short_nil))), fun H'' S'' => ?_⟩
              rw [eq]
              refine ⟨.bl _, .bool _, rfl, .bl _, (bool_repr _).1, (bool_repr _).2.1, (bool_repr _).2.2, ?_⟩
              refine ⟨_, rfl, .bl _, .bool _, rfl, .bl _, (bool_repr _).1, (bool_repr _).2.1, (bool_repr _).2.2, ?_⟩
              refine ⟨rfl, _, rfl, ?_⟩
              refine if_f (by rw [decide_eq_true rfl]; rfl) ?_
              exact ⟨(S6.trans S').trans S'', S'' _ _ (S' _ _ hM)⟩
            · rintro H6 ⟨S6, hM⟩
              refine ⟨(by show 0 ≤ sizeLine; decide), fun e0 ne0 => ?_⟩
              have Se := same_new (o := HO.lst []) ne0
              have he0 : upd H6 e0 (.lst []) e0 = some (.lst []) := upd_same
              generalize upd H6 e0 (.lst []) = H7 at Se he0 ⊢
              refine ⟨M, e0, [], rfl, rfl, .inl ⟨Se _ _ hM, he0⟩, _, rfl, if_f rfl ?_⟩
              have S57 := S6.trans Se
              have S47 := S45.trans S57
              have hoa7 := S47 _ _ hoa
              refine ⟨_, rfl, oa, rfl, ⟨_, SqL.of hoa7⟩, fun M2 nM2 => lc_list (K := K) (a := oa) (xs := xo) (fun j H8 => Same H7 H8 ∧ H8 M2 = some (.lst [])) ⟨same_new nM2, upd_same⟩ (fun j H8 _ ⟨S8, _⟩ => SqL.of (S8 _ _ hoa7)) ?_ ?_⟩
              · rintro j one H8 hj ⟨S8, hM2⟩
                obtain ⟨d, hd, dx⟩ := dxo.get hj
                have hmem := List.mem_of_getElem? hd
                have dx := d_nil ((dx.same S47).same S8)
                have dp := d_nil ((dp.same S57).same S8)
                refine ⟨rfl, _, rfl, [], .tuple [.tuple [], .str z, pd', d], liv_nil, ⟨_, rfl, Nat.le_of_ble_eq_true rfl, ⟨_, _, rfl, ⟨_, rfl, Nat.le_of_ble_eq_true rfl, rfl⟩, ⟨_, _, rfl, ⟨_, rfl, .str _ hz⟩, ⟨_, _, rfl, ⟨_, rfl, dp⟩, ⟨_, _, rfl, ⟨_, rfl, dx⟩, rfl⟩⟩⟩⟩⟩, fun v' H' S' dv' => ?_⟩
                have eq : queryI Y15 (.leaf (.str n)) (.tuple [.tuple [], .str z, pd', d]) = false := (q_root (.leaf (.str n)) z [pd', d]).trans (so.no d hmem pd')
                refine ⟨v, v', .leaf (.str n), _, rfl, ((dv5.same S57).same S8).same S', trivial, dv'.same hid_sub, short_cons (Nat.le_of_ble_eq_true rfl) (short_cons (Nat.le_of_ble_eq_true rfl) (short_cons psh (short_cons (so.sh2 d hmem) short_nil))), fun H'' S'' => ?_⟩
                rw [eq]
                refine ⟨_, _, rfl, rfl, _, rfl, if_f rfl ?_⟩
                exact ⟨(S8.trans S').trans S'', S'' _ _ (S' _ _ hM2)⟩
              · rintro H8 ⟨S8, hM2⟩
                refine ⟨(by show 0 ≤ sizeLine; decide), fun e1 ne1 => ?_⟩
                have Se1 := same_new (o := HO.lst []) ne1
                have he1 : upd H8 e1 (.lst []) e1 = some (.lst []) := upd_same
                generalize upd H8 e1 (.lst []) = H9 at Se1 he1 ⊢
                refine ⟨M2, e1, [], rfl, rfl, .inl ⟨Se1 _ _ hM2, he1⟩, _, rfl, if_f rfl ?_⟩
                exact ⟨_, _, rfl, ((S5.trans S57).trans S8).trans Se1⟩
          · rintro σ Hz ⟨x7, x8, rfl, S5⟩
            exact ⟨_, _, _, _, _, _, rfl, (S.trans S4).trans S5⟩
    · rintro σ Hx ⟨x3, x4, x5, x6, x7, x8, rfl, S⟩
      exact k _ (S03.trans S)
end
end KF
set_option maxRecDepth 100000
set_option maxHeartbeats 4000000
namespace L2
open PySem PySem.Spec PyProof.Rows
/-! ### a tuple taken once, a tuple taken no times -/
theorem tuple_mul1 (l : Addr) (items : Array Value) (n : Nat) (dd : Option Addr) (sl : Array (Option Value)) (x : Int) (u : Tok) (c0 : (decide (x < -(2 ^ 63)) || decide (x ≥ 2 ^ 63)) = false) (c1 : (items.isEmpty || x == 1) = true) :
    Meets (Builtin.«tuple.__mul__» ⟨[.ref l, .int x u], []⟩) (fun _ R s => s.heap.get? l = some { cls := .type "tuple", dict := dd, data := .seq items n, slots := sl } ∧ R (.ok (.ret (Value.ref l))) s) :=
  .of_wp fun prog w A R s h => by
    obtain ⟨hp, g, d, tk, os⟩ := s
    obtain ⟨hl, h⟩ := h
    have f1 := AutoSeq1.idx_int
    wp_walk using wpAny_loadPart' hl
    repeat (first
      | (refine wpAny_ite_false (decide_eq_false (by rw [c0]; exact Bool.false_ne_true)) ?_; wp_walk using wpAny_loadPart' hl)
      | (refine wpAny_ite_true (decide_eq_true c1) ?_; wp_walk using wpAny_loadPart' hl))
    exact ⟨_, rfl, h⟩
theorem tuple_mul0 (l : Addr) (items : Array Value) (n : Nat) (dd : Option Addr) (sl : Array (Option Value)) (x : Int) (u : Tok) (c0 : (decide (x < -(2 ^ 63)) || decide (x ≥ 2 ^ 63)) = false) (c1 : (items.isEmpty || x == 1) = false) (c2 : (decide (x ≤ 0) || items.isEmpty) = true) :
    Meets (Builtin.«tuple.__mul__» ⟨[.ref l, .int x u], []⟩) (fun _ R s => s.heap.get? l = some { cls := .type "tuple", dict := dd, data := .seq items n, slots := sl } ∧
      R (.ok (.ret (Value.ref s.heap.objs.size))) { s with heap := s.heap.push { cls := Value.type "tuple", data := Data.seq #[] }, toks := s.toks }) :=
  .of_wp fun prog w A R s h => by
    obtain ⟨hp, g, d, tk, os⟩ := s
    obtain ⟨hl, h⟩ := h
    have f1 := AutoSeq1.idx_int
    wp_walk using wpAny_loadPart' hl
    repeat (first
      | (refine wpAny_ite_false (decide_eq_false (by rw [c0]; exact Bool.false_ne_true)) ?_; wp_walk using wpAny_loadPart' hl)
      | (refine wpAny_ite_false (decide_eq_false (by rw [c1]; exact Bool.false_ne_true)) ?_; wp_walk using wpAny_loadPart' hl)
      | (refine wpAny_ite_true (decide_eq_true c2) ?_; wp_walk using wpAny_loadPart' hl))
    exact ⟨_, rfl, h⟩
def rRep01 (K : PySem.W.Frag) : R2 := fun x y H Q => ∃ (l : Addr) (k : Int) (xs : List V), x = .ref l ∧ y = .int k ∧ H l = some (.tup xs) ∧ xs ≠ [] ∧ ((k = 1 ∧ Q (.ref l) H) ∨ (k = 0 ∧ ∀ p, H p = none → Q (.ref p) (upd H p (.tup []))))
section
variable {X : Cx}
theorem op_rep01 : OpR X (binaryOp .Mult) (rRep01 X.K) := by
  intro pins s σ H x y v u Q I rx ry h
  obtain ⟨l, k, xs, rfl, rfl, hT, hne, hq⟩ := h
  cases rx
  obtain ⟨t, rfl⟩ := ry
  obtain ⟨its, r, ⟨⟨cls, dd, data, sl⟩, ho, hc, n, hd⟩, hs⟩ := I.tuple (SqT.of hT)
  simp only at hc hd
  subst hc hd
  have hle : its.length = xs.length := r.length.symm
  have hi : its.toArray.isEmpty = false := by
    cases its with
    | nil => exact absurd (List.eq_nil_of_length_eq_zero hle.symm) hne
    | cons a b => rfl
  have c0 : (decide (k < -(2 ^ 63)) || decide (k ≥ 2 ^ 63)) = false := by
    rcases hq with ⟨rfl, _⟩ | ⟨rfl, _⟩ <;> decide
  refine wpAny_binaryOp_repeat_ref (T := "tuple") (U := "int") (by decide) ⟨_, ho, rfl⟩ (fun s' => typeIs_int s' k t) noFill_tuple_mul F.fills_int_mul F.slot_int_rmul repeat_tuple F.slot_int_index.lookup
    (call_meets F.slot_int_rmul (typeIs_int s k t) F.entry_int_rmul (F.args_int_rmul_2 _ _) (int_rmul_tuple k t l its.toArray n dd sl)
      ⟨ho, rfl, ⟨_, ho, rfl⟩, ?_⟩)
  rcases hq with ⟨rfl, q⟩ | ⟨rfl, q⟩
  · exact call_meets F.slot_tuple_mul ⟨_, ho, rfl⟩ F.entry_tuple_mul (F.args_tuple_mul_2 _ _) (tuple_mul1 l its.toArray n dd sl 1 t c0 (by rw [Bool.or_eq_true]; exact .inr rfl)) ⟨ho, ⟨.ref l, H, I, rfl, q⟩⟩
  · refine call_meets F.slot_tuple_mul ⟨_, ho, rfl⟩ F.entry_tuple_mul (F.args_tuple_mul_2 _ _) (tuple_mul0 l its.toArray n dd sl 0 t c0 (by rw [hi]; rfl) rfl) ⟨ho, ?_⟩
    refine ⟨.ref s.heap.objs.size, _, I.laid (t' := s.toks) (o := .tup []) (fun b ob q => Heap.get?_push_of_some _ q) (Nat.le_refl _) ?_, rfl, q _ (I.hok.fresh (Nat.le_refl _))⟩
    exact ⟨Nat.zero_le _, _, .nil, IsTup.new _ _⟩
end
end L2
set_option maxRecDepth 100000
set_option maxHeartbeats 8000000
namespace KF
open PySem PySem.Spec PyProof.Rows L2
/-! ### _law_steps_right -/
abbrev s_steps : Stmt := top 47
def rRepD (R S : RD) : RD := fun hs σ H d => ∃ (d0 : PyData) (k : Nat), d = .tuple (List.replicate k d0) ∧ (1 ≤ k ∧ k ≤ 1000) ∧ R hs σ H (.tuple [d0]) ∧ S hs σ H (.int (k : Nat))
def rLenD (R : RD) : RD := fun hs σ H d => ∃ ds, R hs σ H (.tuple ds) ∧ d = .int (ds.length : Nat)
def rCatN (R S : RD) : RDs := fun hs σ H ds => ∃ d1 d2, ds = d1 ++ d2 ∧ R hs σ H (.list d1) ∧ S hs σ H (.list d2)
theorem rep_dat {H : Hp} {x : V} {d : PyData} (h : Dat H x d) : ∀ k : Nat, DatAll H (List.replicate k x) (List.replicate k d)
  | 0 => .nil
  | k + 1 => .cons h (rep_dat h k)
theorem flat_rep {x : V} : ∀ k : Nat, (List.replicate k [x]).flatten = List.replicate k x
  | 0 => rfl
  | k + 1 => by
    rw [List.replicate_succ, List.flatten_cons, flat_rep k, List.replicate_succ]
    rfl
theorem hid_new_more {hs : List Addr} {H H' : Hp} {a : Addr} (n : H a = none) (S : Same H H') : Same (hid hs H) (hid (a :: hs) H') := fun b o e => by
  have hb := hid_sub _ _ e
  refine hid_at (S _ _ hb) ?_
  rw [List.mem_cons]
  rintro (z | z)
  · exact ne_of_none hb n z
  · exact hid_not e z
section
variable {X : Cx} {e e2 : Expr} {R S : RD} {pos : Pos}
theorem pr_rep (a : PR X e R) (b : PR X e2 S) : PR X (.BinOp e .Mult e2 pos) (rRepD R S) :=
  ⟨pe_weak (pe_op (OpR.or op_repT op_rep01) a.pe b.pe) fun σ H Q ⟨hs, d, l, ⟨d0, k, hd, hk, ri, rj⟩, q⟩ => ⟨hs, _, l, ri, fun v H1 S1 dv => ⟨hs, _, l.same S1, b.mo _ _ _ _ _ S1 rj, fun w H2 S2 dw => by
    subst hd
    obtain rfl := dat_int dw
    obtain ⟨la, xs, rfl, hla, dxs⟩ := tup_inv (dv.same (hid_same S2))
    obtain ⟨x, rfl, dx⟩ := dat1 dxs
    by_cases h1 : k = 1
    · subst h1
      exact .inr ⟨la, 1, [x], rfl, rfl, hid_sub _ _ hla, (by simp), .inl ⟨rfl, q _ H2 (S1.trans S2) (.tup hla (.cons dx .nil))⟩⟩
    · refine .inl ⟨la, (k : Nat), [x], rfl, rfl, SqT.of (hid_sub _ _ hla), (by simp), by omega, by omega, (by simp), fun c nc => ?_⟩
      rw [Int.toNat_natCast, flat_rep]
      exact q _ _ ((S1.trans S2).trans (same_new nc)) (.tup (hid_fresh ((l.same S1).same S2) nc) (rep_dat (dx.same (hid_same (same_new nc))) k))⟩⟩,
   fun _ _ _ _ _ Sm ⟨d0, k, hd, hk, ri, rj⟩ => ⟨d0, k, hd, hk, a.mo _ _ _ _ _ Sm ri, b.mo _ _ _ _ _ Sm rj⟩⟩
theorem pr_len {p : Pos} (h : ∀ {t : TA}, PA X [e] t → PE X (.Call (.Name "len" p) [e] [] pos) (tCB (fun xs H Q => ∃ p ys, xs = [V.ref p] ∧ (SqL X.K H p ys ∨ SqT X.K H p ys) ∧ Q (.int ys.length) H) t)) (a : PR X e R)
    (hs : starEach [e] X.env = (false, eval e X.env) :: starEach [] X.env := by rfl) : PR X (.Call (.Name "len" p) [e] [] pos) (rLenD R) :=
  ⟨pe_weak (h (pa_cons a.pe pa_nil hs)) fun σ H Q ⟨hs, d, l, ⟨ds, ri, hd⟩, q⟩ => ⟨hs, _, l, ri, fun v H1 S1 dv => by
    obtain ⟨la, xs, rfl, hla, dxs⟩ := tup_inv dv
    refine ⟨la, xs, rfl, .inr (SqT.of (hid_sub _ _ hla)), q _ H1 S1 ?_⟩
    rw [hd, dxs.len]
    exact .int _⟩,
   fun _ _ _ _ _ Sm ⟨ds, ri, hd⟩ => ⟨ds, a.mo _ _ _ _ _ Sm ri, hd⟩⟩
theorem pe_catN (a : PR X e R) (b : PR X e2 S) : PE X (.BinOp e .Add e2 pos) (tRN (rCatN R S)) :=
  pe_weak (pe_op op_cat a.pe b.pe) fun σ H Q ⟨hs, ds0, l, hl, ⟨ds, es, hd, ri, rj⟩, k⟩ => ⟨hs, _, l, ri, fun v H1 S1 dv => ⟨hs, _, l.same S1, b.mo _ _ _ _ _ S1 rj, fun w H2 S2 dw => by
    obtain ⟨a1, xs, rfl, h1, d1⟩ := lst_inv dv
    obtain ⟨a2, ys, rfl, h2, d2⟩ := lst_inv dw
    have ll : ds.length + es.length ≤ 1000 := by
      rw [hd, List.length_append] at hl
      exact hl
    refine ⟨a1, a2, xs, ys, rfl, rfl, S2 _ _ (hid_sub _ _ h1), hid_sub _ _ h2, by rw [d1.len, d2.len, sizeLine_eq]; omega, fun c nc => k c _ _ (((S1.trans S2).free nc)) ((S1.trans S2).trans (same_new nc)) upd_same ?_⟩
    rw [hd]
    exact dat_off (datAll_append (d1.same (hid_same S2)) d2) nc⟩⟩
end
/-! what is due -/
abbrev StepR : Type := PyData × Bool
def stD (r : StepR) : PyData := .tuple [r.1, .bool r.2]
abbrev SRow : Type := S15 × List StepR
def sRowD (r : SRow) : PyData := .tuple [sdt r.1, .list (r.2.map stD)]
def stepQ (d : PyData) : PyData := .tuple [.tuple [d], .str "successor", .int 1]
structure GoodSR (r : SRow) : Prop where
  ok : okS r.1
  few : r.2.length ≤ 100
  due : ∀ st ∈ r.2, queryI Y15 r.1 (stepQ st.1) = st.2
theorem cyc_ask : askS (.leaf (.cyc 2)) "successor" [.int 1] = true := by decide +kernel
theorem query_eq (Y : Sys) (s : Y.ι) (ds q : List PyData) : queryI Y s (.tuple (.tuple ds :: q)) = (partI Y s ds).elim false fun e => Y.ask e q := by
  show (match partI Y s ds with | some e => Y.ask e q | none => false) = _
  cases partI Y s ds <;> rfl
theorem part_one (Y : Sys) (s : Y.ι) (d : PyData) : partI Y s [d] = Y.nx s d := by
  rw [partI]
  cases Y.nx s d <;> rfl
theorem step_q (s : S15) (d : PyData) : queryI Y15 s (stepQ d) = (nextS s d).elim false fun e => Y15.ask e [.str "successor", .int 1] := by
  refine (query_eq Y15 s [d] [.str "successor", .int 1]).trans ?_
  exact congrArg (fun o : Option Y15.ι => o.elim false fun e => Y15.ask e [.str "successor", .int 1]) (part_one Y15 s d)
theorem step_t {s : S15} {d : PyData} (h : nextS s d = some (.leaf (.cyc 2))) : queryI Y15 s (stepQ d) = true := by
  rw [step_q, h]
  exact cyc_ask
theorem step_f {s : S15} {d : PyData} (h : nextS s d = none) : queryI Y15 s (stepQ d) = false := by
  rw [step_q, h]
  rfl
theorem btw_t {lo hi i : Int} (h1 : lo ≤ i) (h2 : i ≤ hi) : btw lo hi (.int i) = true := btw_mk h1 h2
theorem btw_f {lo hi i : Int} (h : ¬ (lo ≤ i ∧ i ≤ hi)) : btw lo hi (.int i) = false := by
  cases e : btw lo hi (.int i) with
  | false => rfl
  | true =>
    obtain ⟨j, hj, h1, h2⟩ := btw_int e
    injection hj with hj
    subst hj
    exact absurd ⟨h1, h2⟩ h
theorem good_pow {n : Nat} (hn : 1 ≤ n) : GoodSR (.pow n (.cyc 2), [(.int 0, true), (.int ((n : Nat) - 1), true), (.int (n : Nat), false), (.int (-1), false), (.bool false, false)]) := by
  refine ⟨trivial, Nat.le_of_ble_eq_true rfl, fun st hst => ?_⟩
  have nx : ∀ d, nextS (.pow n (.cyc 2)) d = if btw 0 ((n : Int) - 1) d = true then some (.leaf (.cyc 2)) else none := fun _ => rfl
  simp only [List.mem_cons, List.not_mem_nil, or_false] at hst
  rcases hst with rfl | rfl | rfl | rfl | rfl
  · exact step_t (by rw [nx, btw_t (by omega) (by omega)]; rfl)
  · exact step_t (by rw [nx, btw_t (by omega) (by omega)]; rfl)
  · exact step_f (by rw [nx, btw_f (by omega)]; rfl)
  · exact step_f (by rw [nx, btw_f (by omega)]; rfl)
  · exact step_f (by rw [nx]; rfl)
def powL (n : Nat) : List StepR := [(.int 0, true), (.int ((n : Nat) - 1), true), (.int (n : Nat), false), (.int (-1), false), (.bool false, false)]
def endsL (m : Nat) : List StepR := [(.int 0, true), (.int ((m : Nat) - 1), true), (.int (m : Nat), false), (.int (-1), false), (.none, false)]
theorem good_row {m : Nat} (c : Bool) (hm : 1 ≤ m) : GoodSR (.row c (List.replicate m (.cyc 2)), endsL m) := by
  refine ⟨fun l hl => ?_, Nat.le_of_ble_eq_true rfl, fun st hst => ?_⟩
  · rw [List.eq_of_mem_replicate hl]
    trivial
  have nx : ∀ d, nextS (.row c (List.replicate m (.cyc 2))) d = if btw 0 (((List.replicate m (L15.cyc 2)).length : Int) - 1) d = true then ((List.replicate m (L15.cyc 2))[(intOf d).toNat]?).map S15.leaf else none := fun _ => rfl
  rw [List.length_replicate] at nx
  have at' : ∀ i : Int, 0 ≤ i → i ≤ (m : Int) - 1 → nextS (.row c (List.replicate m (.cyc 2))) (.int i) = some (.leaf (.cyc 2)) := fun i h1 h2 => by
    rw [nx, btw_t h1 h2, if_pos rfl]
    show ((List.replicate m (L15.cyc 2))[i.toNat]?).map S15.leaf = _
    rw [List.getElem?_replicate, if_pos (by omega)]
    rfl
  unfold endsL at hst
  simp only [List.mem_cons, List.not_mem_nil, or_false] at hst
  rcases hst with rfl | rfl | rfl | rfl | rfl
  · exact step_t (at' _ (by omega) (by omega))
  · exact step_t (at' _ (by omega) (by omega))
  · exact step_f (by rw [nx, btw_f (by omega)]; rfl)
  · exact step_f (by rw [nx, btw_f (by omega)]; rfl)
  · exact step_f (by rw [nx]; rfl)
theorem find_none {l o : PyData} : ∀ {r : List ((Str × Nat) × L15)}, (∀ p ∈ r, (eqStr p.1.1 l && btw 0 ((p.1.2 : Int) - 1) o) = false) → findDec r l o = none
  | [], _ => rfl
  | p :: r, h => by
    rw [findDec, h p List.mem_cons_self, if_neg Bool.false_ne_true]
    exact find_none fun q hq => h q (List.mem_cons_of_mem _ hq)
theorem find_some {l o : PyData} : ∀ {r : List ((Str × Nat) × L15)}, (∀ p ∈ r, p.2 = .cyc 2) → (∃ p ∈ r, (eqStr p.1.1 l && btw 0 ((p.1.2 : Int) - 1) o) = true) → findDec r l o = some (.leaf (.cyc 2))
  | [], _, h => by
    obtain ⟨p, hp, _⟩ := h
    cases hp
  | p :: r, hc, h => by
    rw [findDec]
    by_cases e : (eqStr p.1.1 l && btw 0 ((p.1.2 : Int) - 1) o) = true
    · rw [if_pos e, hc p List.mem_cons_self]
    · rw [if_neg e]
      refine find_some (fun q hq => hc q (List.mem_cons_of_mem _ hq)) ?_
      obtain ⟨q, hq, e2⟩ := h
      rcases List.mem_cons.mp hq with rfl | hq
      · exact absurd e2 e
      · exact ⟨q, hq, e2⟩
theorem uniq_of_nodup : ∀ {cs : Cn}, (cs.map (·.1)).Nodup → ∀ c ∈ cs, ∀ c' ∈ cs, c.1 = c'.1 → c = c'
  | [], _, c, h, _, _, _ => by cases h
  | a :: cs, nd, c, h, c', h', e => by
    rw [List.map_cons, List.nodup_cons] at nd
    rcases List.mem_cons.mp h with h0 | h0
    · rcases List.mem_cons.mp h' with h1 | h1
      · rw [h0, h1]
      · exact absurd (List.mem_map.mpr ⟨c', h1, by rw [← e, h0]⟩) nd.1
    · rcases List.mem_cons.mp h' with h1 | h1
      · exact absurd (List.mem_map.mpr ⟨c, h0, by rw [e, h1]⟩) nd.1
      · exact uniq_of_nodup nd.2 c h0 c' h1 e
theorem pool_nodup : poolC.Nodup := by decide
theorem good_uniq {cs : Cn} (g : GoodC cs) : ∀ c ∈ cs, ∀ c' ∈ cs, c.1 = c'.1 → c = c' := by
  obtain ⟨⟨m, _, _, e⟩, _⟩ := g
  refine uniq_of_nodup ?_
  rw [e]
  exact pool_nodup.sublist (List.take_sublist _ _)
theorem good_mem {cs : Cn} (g : GoodC cs) {c : Str × Nat} (h : c ∈ cs) : c.1 ∈ poolC := by
  obtain ⟨⟨m, _, _, e⟩, _⟩ := g
  refine List.mem_of_mem_take (i := m) ?_
  rw [← e]
  exact List.mem_map.mpr ⟨c, h, rfl⟩
theorem good_len {cs : Cn} (g : GoodC cs) : 1 ≤ cs.length ∧ cs.length ≤ 6 := by
  obtain ⟨⟨m, h1, h6, e⟩, _⟩ := g
  have := congrArg List.length e
  rw [List.length_map, List.length_take] at this
  have pl : poolC.length = 6 := rfl
  omega
theorem pool_no : ∀ z ∈ poolC, ((("" : Str) == z) = false ∧ (("q" : Str) == z) = false) ∧ ((z == ("" : Str)) = false ∧ (z == ("q" : Str)) = false) := by decide +kernel
/-- a name of the counts picks its own count -/
theorem sel_own {cs : Cn} (g : GoodC cs) {c : Str × Nat} (h : c ∈ cs) (o : PyData) : selB cs (.str c.1) o = btw 0 ((c.2 : Int) - 1) o := by
  unfold selB
  have self : eqStr c.1 (.str c.1) = true := beq_self_eq_true c.1
  cases e : btw 0 ((c.2 : Int) - 1) o with
  | true =>
    rw [List.any_eq_true]
    exact ⟨c, h, by rw [self, e]; rfl⟩
  | false =>
    rw [List.any_eq_false]
    intro c' h'
    by_cases ee : c.1 = c'.1
    · rw [← good_uniq g c h c' h' ee, self, e]
      exact Bool.false_ne_true
    · have : eqStr c'.1 (.str c.1) = false := beq_eq_false_iff_ne.mpr ee
      rw [this]
      exact Bool.false_ne_true
def stepsC (c : Str × Nat) : List StepR := [(.tuple [.str c.1, .int 0], true), (.tuple [.str c.1, .int ((c.2 : Nat) - 1)], true), (.tuple [.str c.1, .int (c.2 : Nat)], false), (.tuple [.str c.1, .int (-1)], false), (.tuple [.str c.1, .bool true], false), (.list [.str c.1, .int 0], false), (.tuple [.str c.1, .str "0"], false)]
def steps0 (z : Str) : List StepR := [(.tuple [.str "", .int 0], false), (.tuple [.str "q", .int 0], false), (.int 0, false), (.tuple [.str z], false)]
def sA (c : Str × Nat) : List StepR := [(.tuple [.str c.1, .int 0], true), (.tuple [.str c.1, .int ((c.2 : Nat) - 1)], true), (.tuple [.str c.1, .int (c.2 : Nat)], false)]
def sB (c : Str × Nat) : List StepR := [(.tuple [.str c.1, .int (-1)], false), (.tuple [.str c.1, .bool true], false), (.list [.str c.1, .int 0], false), (.tuple [.str c.1, .str "0"], false)]
theorem stepsC_len (l : Cn) : (l.flatMap stepsC).length = 7 * l.length := by
  induction l with
  | nil => rfl
  | cons c l ih =>
    rw [List.flatMap_cons, List.length_append, ih, List.length_cons]
    show 7 + _ = _
    omega
theorem good_dec {cs : Cn} (g : GoodC cs) (z : Str) : GoodSR (.dec cs (List.replicate cs.length (.cyc 2)), steps0 z ++ cs.flatMap stepsC) := by
  obtain ⟨l1, l6⟩ := good_len g
  refine ⟨⟨by omega, List.length_replicate, fun l hl => ?_⟩, ?_, fun st hst => ?_⟩
  · rw [List.eq_of_mem_replicate hl]
    trivial
  · rw [List.length_append, stepsC_len]
    show 4 + _ ≤ _
    omega
  have nx : ∀ l o, nextS (.dec cs (List.replicate cs.length (.cyc 2))) (.tuple [l, o]) = findDec (cs.zip (List.replicate cs.length (.cyc 2))) l o := fun _ _ => rfl
  have zm : ∀ p ∈ cs.zip (List.replicate cs.length (L15.cyc 2)), p.1 ∈ cs ∧ p.2 = .cyc 2 := fun p hp => by
    have := List.of_mem_zip (a := p.1) (b := p.2) hp
    exact ⟨this.1, List.eq_of_mem_replicate this.2⟩
  have inz : ∀ c ∈ cs, (c, L15.cyc 2) ∈ cs.zip (List.replicate cs.length (L15.cyc 2)) := fun c hc => by
    obtain ⟨j, hj⟩ := List.mem_iff_getElem?.mp hc
    have hlt := (List.getElem?_eq_some_iff.mp hj).1
    refine List.mem_iff_getElem?.mpr ⟨j, ?_⟩
    rw [List.getElem?_zip_eq_some]
    exact ⟨hj, by rw [List.getElem?_replicate, if_pos hlt]⟩
  have noname : ∀ y : Str, (∀ z ∈ poolC, (y == z) = false) → ∀ o, nextS (.dec cs (List.replicate cs.length (.cyc 2))) (.tuple [.str y, o]) = none := fun y hy o => by
    rw [nx]
    refine find_none fun p hp => ?_
    have : eqStr p.1.1 (.str y) = false := hy _ (good_mem g (zm p hp).1)
    rw [this, Bool.false_and]
  have own : ∀ c ∈ cs, ∀ o, btw 0 ((c.2 : Int) - 1) o = false → nextS (.dec cs (List.replicate cs.length (.cyc 2))) (.tuple [.str c.1, o]) = none := fun c hc o ho => by
    rw [nx]
    refine find_none fun p hp => ?_
    by_cases ee : p.1.1 = c.1
    · rw [good_uniq g p.1 (zm p hp).1 c hc ee, ho, Bool.and_false]
    · have : eqStr p.1.1 (.str c.1) = false := beq_eq_false_iff_ne.mpr (Ne.symm ee)
      rw [this, Bool.false_and]
  have ownt : ∀ c ∈ cs, ∀ o, btw 0 ((c.2 : Int) - 1) o = true → nextS (.dec cs (List.replicate cs.length (.cyc 2))) (.tuple [.str c.1, o]) = some (.leaf (.cyc 2)) := fun c hc o ho => by
    rw [nx]
    refine find_some (fun p hp => (zm p hp).2) ⟨(c, .cyc 2), inz c hc, ?_⟩
    have : eqStr c.1 (.str c.1) = true := beq_self_eq_true c.1
    show (eqStr c.1 (.str c.1) && btw 0 ((c.2 : Int) - 1) o) = true
    rw [this, ho]
    rfl
  rcases List.mem_append.mp hst with hst | hst
  · unfold steps0 at hst
    simp only [List.mem_cons, List.not_mem_nil, or_false] at hst
    rcases hst with rfl | rfl | rfl | rfl
    · exact step_f (noname "" (fun z hz => (pool_no z hz).1.1) _)
    · exact step_f (noname "q" (fun z hz => (pool_no z hz).1.2) _)
    · exact step_f rfl
    · exact step_f rfl
  · obtain ⟨c, hc, hst⟩ := List.mem_flatMap.mp hst
    have c1 := g.2 c hc
    unfold stepsC at hst
    simp only [List.mem_cons, List.not_mem_nil, or_false] at hst
    rcases hst with rfl | rfl | rfl | rfl | rfl | rfl | rfl
    · exact step_t (ownt c hc _ (btw_t (by omega) (by omega)))
    · exact step_t (ownt c hc _ (btw_t (by omega) (by omega)))
    · exact step_f (own c hc _ (btw_f (by omega)))
    · exact step_f (own c hc _ (btw_f (by omega)))
    · exact step_f (own c hc _ rfl)
    · exact step_f rfl
    · exact step_f (own c hc _ rfl)
def spSteps : Sp := fun vs H Q _ => ∃ (p q : Addr) (b : Nat), vs = [.ref p] ∧ Dk H p q b ∧ b + 200 ≤ 100000000 ∧ ∀ H', Q (.bl true) H'
theorem noL_cyc : noL (ldt (.cyc 2)) = true := rfl
theorem hd_name {cs : Cn} (h : 1 ≤ cs.length) : ∃ c, cs[0]? = some c ∧ (cs.map cntD)[0]? = some (cntD c) := by
  cases cs with
  | nil => simp at h
  | cons c r => exact ⟨c, rfl, rfl⟩
section
variable {P : Program} {w : World} {K : PySem.W.Frag} {mg : Str → Option Value} {base : Heap}
theorem sc_steps : FnScope ["_law_deck_here", "_law_leaf", "_law_counts_here", "_law_n", "_law_spaces", "_law_many", "_law_ends", "_law_steps", "_law_letter", "_law_often", "_law_space", "_law_rows_here", "_law_step", "_law_due"] ["_law_deck_here"] (defScope s_steps) := ⟨rfl, rfl, rfl, by decide +kernel, rfl, by decide +kernel, by decide +kernel⟩
theorem ok_steps {f fD fZ fC fQ : Addr} {fd fdD fdZ fdC fdQ : FuncData} (F : Fun K "_law_steps_right" "_law_steps_right" s_steps f fd) (T : Nm mg) (eS : PySem.W.nsIn K cStatics "sys.int_max_str_digits" = some none)
    (D_draw : DefOk K mg "_law_draw" sDraw ["_law_deck_here", "_law_bound"] fD fdD) (D_size : DefOk K mg "_law_size" s_size ["_law_deck_here", "_law_most"] fZ fdZ) (D_counts : DefOk K mg "_law_counts" s_counts ["_law_deck_here"] fC fdC) (D_query : DefOk K mg "is_query" s_query ["space", "value"] fQ fdQ)
    (G_size : FnOk P w K mg base CX0 3 fZ fdZ ["_law_deck_here", "_law_most"] spSize) (G_counts : FnOk P w K mg base CX0 2 fC fdC ["_law_deck_here"] spCounts) (G_query : FnOk P w K mg base CX0 10 fQ fdQ ["space", "value"] (spQuery Y15)) :
    FnG P w K mg base 11 f fd ["_law_deck_here"] spSteps := by
  have G_draw : FnOk P w K mg base CX0 1 fD fdD ["_law_deck_here", "_law_bound"] spDraw := ok_draw D_draw.F
  refine F.okG sc_steps (fun vs H Q E h => ?_) (fun cdv A outer s H vs Q E hg hr h => ?_)
  · obtain ⟨p, q, b, rfl, _⟩ := h
    rfl
  · obtain ⟨p, q, b, rfl, D, hb, k⟩ := h
    have hu : (A.deeper (envOfC "_law_steps_right" (defScope s_steps) s.heap.objs.size f cdv)).units + 128 < cLine := by
      have := hr.un
      omega
    have hr1 : Room 1 _ := hr.mono (by decide)
    have hr2 : Room 2 _ := hr.mono (by decide)
    have hr3 : Room 3 _ := hr.mono (by decide)
    have hr10 : Room 10 _ := hr
    refine ⟨_, (pss_cons (ps_par3 (i := 1) (j := 2) (l := 3) rfl sc_steps.nd rfl rfl rfl (by decide) (by decide) (by decide) rfl rfl rfl (pa_cons (pr_tup (pr_cons (pr_str (by decide) pe_str) (pr_cons (pr_int pe_int) pr_nil))).pe (pa_cons (pe_call G_counts hr2 rfl D_counts.g D_counts.F.kp D_counts.b .nil pass0 (pa_cons (pv 0) pa_nil)) (pa_cons (pe_call G_size hr3 rfl D_size.g D_size.F.kp D_size.b .nil pass0 (pa_cons (pv 0) (pa_cons pe_int pa_nil))) pa_nil))) (by rfl))
      (pss_cons (ps_set (i := 4) sc_steps.nd rfl (Or.inl rfl) (pr_lst (pr_cons (pr_tup (pr_cons (pr_tup (pr_cons (pr_str (by decide) pe_str) (pr_cons (pr_var (pv 3)) (pr_cons (pr_var (pv 1)) pr_nil)))) (pr_cons (pr_lst (pr_cons (pr_tup (pr_cons (pr_int pe_int) (pr_cons (pr_bool pe_bl) pr_nil))) (pr_cons (pr_tup (pr_cons (pr_sub (pr_var (pv 3)) (pr_int pe_int)) (pr_cons (pr_bool pe_bl) pr_nil))) (pr_cons (pr_tup (pr_cons (pr_var (pv 3)) (pr_cons (pr_bool pe_bl) pr_nil))) (pr_cons (pr_tup (pr_cons (pr_neg pe_int) (pr_cons (pr_bool pe_bl) pr_nil))) (pr_cons (pr_tup (pr_cons (pr_bool pe_bl) (pr_cons (pr_bool pe_bl) pr_nil))) pr_nil)))))) pr_nil))) pr_nil)).pe)
      (pss_cons (ps_set (i := 5) sc_steps.nd rfl (Or.inl rfl) (pe_op op_add pe_int (pe_call G_draw hr1 rfl D_draw.g D_draw.F.kp D_draw.b .nil pass0 (pa_cons (pv 0) (pa_cons pe_int pa_nil)))))
      (pss_cons (ps_set (i := 6) sc_steps.nd rfl (Or.inl rfl) (pr_lst (pr_cons (pr_tup (pr_cons (pr_int pe_int) (pr_cons (pr_bool pe_bl) pr_nil))) (pr_cons (pr_tup (pr_cons (pr_sub (pr_var (pv 5)) (pr_int pe_int)) (pr_cons (pr_bool pe_bl) pr_nil))) (pr_cons (pr_tup (pr_cons (pr_var (pv 5)) (pr_cons (pr_bool pe_bl) pr_nil))) (pr_cons (pr_tup (pr_cons (pr_neg pe_int) (pr_cons (pr_bool pe_bl) pr_nil))) (pr_cons (pr_tup (pr_cons (pr_none pe_non) (pr_cons (pr_bool pe_bl) pr_nil))) pr_nil)))))).pe)
      (pss_cons (ps_set (i := 4) sc_steps.nd rfl (Or.inl rfl) (pe_catN (pr_var (pv 4)) (pr_lst (pr_cons (pr_tup (pr_cons (pr_tup (pr_cons (pr_str (by decide) pe_str) (pr_cons (pr_rep (pr_tup (pr_cons (pr_var (pv 1)) pr_nil)) (pr_var (pv 5))) pr_nil))) (pr_cons (pr_var (pv 6)) pr_nil))) (pr_cons (pr_tup (pr_cons (pr_tup (pr_cons (pr_str (by decide) pe_str) (pr_cons (pr_rep (pr_tup (pr_cons (pr_var (pv 1)) pr_nil)) (pr_var (pv 5))) pr_nil))) (pr_cons (pr_var (pv 6)) pr_nil))) pr_nil)))))
      (pss_cons (ps_set (i := 7) sc_steps.nd rfl (Or.inl rfl) (pr_lst (pr_cons (pr_tup (pr_cons (pr_tup (pr_cons (pr_str (by decide) pe_str) (pr_cons (pr_int pe_int) pr_nil))) (pr_cons (pr_bool pe_bl) pr_nil))) (pr_cons (pr_tup (pr_cons (pr_tup (pr_cons (pr_str (by decide) pe_str) (pr_cons (pr_int pe_int) pr_nil))) (pr_cons (pr_bool pe_bl) pr_nil))) (pr_cons (pr_tup (pr_cons (pr_int pe_int) (pr_cons (pr_bool pe_bl) pr_nil))) (pr_cons (pr_tup (pr_cons (pr_tup (pr_cons (pr_ix (k := 0) (pr_ix (k := 0) (pr_var (pv 2)) pe_int) pe_int) pr_nil)) (pr_cons (pr_bool pe_bl) pr_nil))) pr_nil))))).pe)
      (pss_cons (ps_for PassesOwn.never rfl (pi_tup (pv 2)) (pg_tup rfl (pgs_cons (pg_name (i := 8) sc_steps.nd rfl (Or.inl rfl)) (pgs_cons (pg_name (i := 9) sc_steps.nd rfl (Or.inl rfl)) pgs_nil)))
        (pss_cons (ps_set (i := 7) sc_steps.nd rfl (Or.inl rfl) (pr_cat (pr_var (pv 7)) (pr_lst (pr_cons (pr_tup (pr_cons (pr_tup (pr_cons (pr_var (pv 8)) (pr_cons (pr_int pe_int) pr_nil))) (pr_cons (pr_bool pe_bl) pr_nil))) (pr_cons (pr_tup (pr_cons (pr_tup (pr_cons (pr_var (pv 8)) (pr_cons (pr_sub (pr_var (pv 9)) (pr_int pe_int)) pr_nil))) (pr_cons (pr_bool pe_bl) pr_nil))) (pr_cons (pr_tup (pr_cons (pr_tup (pr_cons (pr_var (pv 8)) (pr_cons (pr_var (pv 9)) pr_nil))) (pr_cons (pr_bool pe_bl) pr_nil))) pr_nil))))).pe)
        (pss_one (ps_set (i := 7) sc_steps.nd rfl (Or.inl rfl) (pr_cat (pr_var (pv 7)) (pr_lst (pr_cons (pr_tup (pr_cons (pr_tup (pr_cons (pr_var (pv 8)) (pr_cons (pr_neg pe_int) pr_nil))) (pr_cons (pr_bool pe_bl) pr_nil))) (pr_cons (pr_tup (pr_cons (pr_tup (pr_cons (pr_var (pv 8)) (pr_cons (pr_bool pe_bl) pr_nil))) (pr_cons (pr_bool pe_bl) pr_nil))) (pr_cons (pr_tup (pr_cons (pr_lst (pr_cons (pr_var (pv 8)) (pr_cons (pr_int pe_int) pr_nil))) (pr_cons (pr_bool pe_bl) pr_nil))) (pr_cons (pr_tup (pr_cons (pr_tup (pr_cons (pr_var (pv 8)) (pr_cons (pr_str (by decide) pe_str) pr_nil))) (pr_cons (pr_bool pe_bl) pr_nil))) pr_nil)))))).pe))))
      (pss_cons (ps_expr (pe_bm PySem.F.plainAttrs_list PySem.F.slot_list_append PySem.F.type_list_append mt_append (pv 4) (pa_cons (pr_tup (pr_cons (pr_tup (pr_cons (pr_str (by decide) pe_str) (pr_cons (pr_var (pv 2)) (pr_cons (pr_rep (pr_tup (pr_cons (pr_var (pv 1)) pr_nil)) (pr_len (fun z => pe_callB call_len_seq (by rfl) T.len PySem.boot_len z) (pr_var (pv 2)))) pr_nil)))) (pr_cons (pr_var (pv 7)) pr_nil))).pe pa_nil)))
      (pss_cons (ps_for PassesOwn.never rfl (pi_list (pv 4)) (pg_tup rfl (pgs_cons (pg_name (i := 10) sc_steps.nd rfl (Or.inl rfl)) (pgs_cons (pg_name (i := 11) sc_steps.nd rfl (Or.inl rfl)) pgs_nil)))
        (pss_one (ps_for PassesOwn.never rfl (pi_list (pv 11)) (pg_tup rfl (pgs_cons (pg_name (i := 12) sc_steps.nd rfl (Or.inl rfl)) (pgs_cons (pg_name (i := 13) sc_steps.nd rfl (Or.inl rfl)) pgs_nil)))
          (pss_one (ps_if (pt_cmpR op_ne (pe_callB (call_reprD hg hu eS) (by rfl) T.repr (by decide +kernel) (pa_cons (pe_call G_query hr10 rfl D_query.g D_query.F.kp D_query.b .nil pass0 (pa_cons (pv 10) (pa_cons (pr_tup (pr_cons (pr_tup (pr_cons (pr_var (pv 12)) pr_nil)) (pr_cons (pr_str (by decide) pe_str) (pr_cons (pr_int pe_int) pr_nil)))).pe pa_nil))) pa_nil)) (pe_callB (call_reprD hg hu eS) (by rfl) T.repr (by decide +kernel) (pa_cons (pv 13) pa_nil)) (nomark _))
            (pss_one (ps_ret pe_bl))
            pss_nil)))))
      (pss_one (ps_ret pe_bl))))))))))), ?_⟩
    refine ⟨[p, q], ldt (.cyc 2), liv2 D, ⟨_, rfl, Nat.le_of_ble_eq_true rfl, ⟨_, _, rfl, rfl, ⟨_, _, rfl, rfl, rfl⟩⟩⟩, fun vl H1 S1 dl => ?_⟩
    refine ⟨_, rfl, p, q, b, rfl, D.same S1, by omega, fun vc cs H2 gc O2 D2 dc => ?_⟩
    refine ⟨_, rfl, p, q, _, 400, rfl, D2, by omega, by decide, by decide, fun n H3 hn1 hn2 O3 D3 => ⟨_, _, _, rfl, ?_⟩⟩
    obtain ⟨cl1, cl6⟩ := good_len gc
    have dl := (dl.same (hid_off (hs := [p, q]) (by simp) (by simp) O2)).same (hid_off (hs := [p, q]) (by simp) (by simp) O3)
    rw [← hid_hide] at dc
    have dc := dc.same (hid_off (hs := [p, q]) (by simp) (by simp) O3)
    refine ⟨[p, q], .list (([(S15.pow n (.cyc 2), powL n)] : List SRow).map sRowD), liv2 D3, ⟨_, rfl, Nat.le_of_ble_eq_true rfl, ⟨_, _, rfl, ⟨_, rfl, Nat.le_of_ble_eq_true rfl, ⟨_, _, rfl, ⟨_, rfl, Nat.le_of_ble_eq_true rfl, ⟨_, _, rfl, rfl, ⟨_, _, rfl, ⟨_, rfl, .int _⟩, ⟨_, _, rfl, ⟨_, rfl, dl⟩, rfl⟩⟩⟩⟩, ⟨_, _, rfl, ⟨_, rfl, Nat.le_of_ble_eq_true rfl, ⟨_, _, rfl, ⟨_, rfl, Nat.le_of_ble_eq_true rfl, ⟨_, _, rfl, rfl, ⟨_, _, rfl, rfl, rfl⟩⟩⟩, ⟨_, _, rfl, ⟨_, rfl, Nat.le_of_ble_eq_true rfl, ⟨_, _, rfl, ⟨_, _, rfl, ⟨_, rfl, .int _⟩, rfl⟩, ⟨_, _, rfl, rfl, rfl⟩⟩⟩, ⟨_, _, rfl, ⟨_, rfl, Nat.le_of_ble_eq_true rfl, ⟨_, _, rfl, ⟨_, rfl, .int _⟩, ⟨_, _, rfl, rfl, rfl⟩⟩⟩, ⟨_, _, rfl, ⟨_, rfl, Nat.le_of_ble_eq_true rfl, ⟨_, _, rfl, rfl, ⟨_, _, rfl, rfl, rfl⟩⟩⟩, ⟨_, _, rfl, ⟨_, rfl, Nat.le_of_ble_eq_true rfl, ⟨_, _, rfl, rfl, ⟨_, _, rfl, rfl, rfl⟩⟩⟩, rfl⟩⟩⟩⟩⟩⟩, rfl⟩⟩⟩, rfl⟩⟩, fun v4 H4 S4 d4 => ?_⟩
    have D4 := D3.same S4
    obtain ⟨ns, m0, c0, D0, hc0⟩ := id D4
    refine ⟨_, rfl, p, q, ns, m0, c0, 6, rfl, by decide, by decide, D0, by omega, fun so ns1 H5 so0 so1 O5 D5' => ?_⟩
    obtain ⟨j, rfl⟩ := nat_of so0
    have D5 : Dk H5 p q (b + 8 + 2 + 1) := ⟨_, m0, _, D5', by omega⟩
    clear D5' D0
    obtain ⟨m, hm⟩ : ∃ m, m = 1 + j := ⟨_, rfl⟩
    have em : (1 : Int) + (j : Nat) = ((m : Nat) : Int) := by omega
    refine ⟨_, _, rfl, rfl, ?_⟩
    dsimp only
    rw [em]
    have h35 := (hid_same (hs := [p, q]) S4).trans (hid_off (hs := [p, q]) (by simp) (by simp) O5)
    have dl := dl.same h35
    have dc := dc.same h35
    have d4 := d4.same (hid_off (hs := [p, q]) (by simp) (by simp) O5)
    refine ⟨[p, q], .list ((endsL m).map stD), liv2 D5, ⟨_, rfl, Nat.le_of_ble_eq_true rfl, ⟨_, _, rfl, ⟨_, rfl, Nat.le_of_ble_eq_true rfl, ⟨_, _, rfl, rfl, ⟨_, _, rfl, rfl, rfl⟩⟩⟩, ⟨_, _, rfl, ⟨_, rfl, Nat.le_of_ble_eq_true rfl, ⟨_, _, rfl, ⟨_, _, rfl, ⟨_, rfl, .int _⟩, rfl⟩, ⟨_, _, rfl, rfl, rfl⟩⟩⟩, ⟨_, _, rfl, ⟨_, rfl, Nat.le_of_ble_eq_true rfl, ⟨_, _, rfl, ⟨_, rfl, .int _⟩, ⟨_, _, rfl, rfl, rfl⟩⟩⟩, ⟨_, _, rfl, ⟨_, rfl, Nat.le_of_ble_eq_true rfl, ⟨_, _, rfl, rfl, ⟨_, _, rfl, rfl, rfl⟩⟩⟩, ⟨_, _, rfl, ⟨_, rfl, Nat.le_of_ble_eq_true rfl, ⟨_, _, rfl, rfl, ⟨_, _, rfl, rfl, rfl⟩⟩⟩, rfl⟩⟩⟩⟩⟩⟩, fun v6 H6 S6 de => ?_⟩
    have D6 := D5.same S6
    have dl := dl.same (hid_same (hs := [p, q]) S6)
    have dc := dc.same (hid_same (hs := [p, q]) S6)
    have d4 := d4.same (hid_same (hs := [p, q]) S6)
    have hm16 : 1 ≤ m ∧ m ≤ 6 := by omega
    refine ⟨[p, q], ([(S15.pow n (.cyc 2), powL n), (S15.row false (List.replicate m (.cyc 2)), endsL m), (S15.row true (List.replicate m (.cyc 2)), endsL m)] : List SRow).map sRowD, liv2 D6, Nat.le_of_ble_eq_true rfl, ⟨_, _, rfl, ⟨_, rfl, d4⟩, ⟨_, rfl, Nat.le_of_ble_eq_true rfl, ⟨_, _, rfl, ⟨_, rfl, Nat.le_of_ble_eq_true rfl, ⟨_, _, rfl, ⟨_, rfl, Nat.le_of_ble_eq_true rfl, ⟨_, _, rfl, rfl, ⟨_, _, rfl, ⟨_, _, congrArg PyData.tuple List.map_replicate, ⟨by omega, by omega⟩, ⟨_, rfl, Nat.le_of_ble_eq_true rfl, ⟨_, _, rfl, ⟨_, rfl, dl⟩, rfl⟩⟩, ⟨_, rfl, .int _⟩⟩, rfl⟩⟩⟩, ⟨_, _, rfl, ⟨_, rfl, de⟩, rfl⟩⟩⟩, ⟨_, _, rfl, ⟨_, rfl, Nat.le_of_ble_eq_true rfl, ⟨_, _, rfl, ⟨_, rfl, Nat.le_of_ble_eq_true rfl, ⟨_, _, rfl, rfl, ⟨_, _, rfl, ⟨_, _, congrArg PyData.tuple List.map_replicate, ⟨by omega, by omega⟩, ⟨_, rfl, Nat.le_of_ble_eq_true rfl, ⟨_, _, rfl, ⟨_, rfl, dl⟩, rfl⟩⟩, ⟨_, rfl, .int _⟩⟩, rfl⟩⟩⟩, ⟨_, _, rfl, ⟨_, rfl, de⟩, rfl⟩⟩⟩, rfl⟩⟩⟩⟩, fun SL xs H7 nSL S7 hSL d7 => ?_⟩
    have D7 := D6.same S7
    have h67 := hid_new_more (hs := [p, q]) nSL S7
    have dl := dl.same h67
    have dc := dc.same h67
    have lv : ∀ {Hx : Hp}, Same H7 Hx → Liv [SL, p, q] Hx := fun S a ha => by
      rcases List.mem_cons.mp ha with rfl | ha
      · rw [S _ _ hSL]
        intro z
        cases z
      · exact (liv2 D7).same S a ha
    clear h67 D6 D5 D4 de d4 h35 nSL S7 S6 S4 O5 O3 O2 D2 D3
    obtain ⟨c00, hc00, h0⟩ := hd_name cl1
    obtain ⟨tc, xc, rfl, htc, dxc⟩ : ∃ (tc : Addr) (xc : List V), vc = .ref tc ∧ hid [SL, p, q] H7 tc = some (.tup xc) ∧ DatAll (hid [SL, p, q] H7) xc (cs.map cntD) := tup_inv dc
    have xcl := dxc.len
    rw [List.length_map] at xcl
    refine ⟨[SL, p, q], .list ((steps0 c00.1).map stD), lv (Same.refl _), ⟨_, rfl, Nat.le_of_ble_eq_true rfl, ⟨_, _, rfl, ⟨_, rfl, Nat.le_of_ble_eq_true rfl, ⟨_, _, rfl, ⟨_, rfl, Nat.le_of_ble_eq_true rfl, ⟨_, _, rfl, rfl, ⟨_, _, rfl, rfl, rfl⟩⟩⟩, ⟨_, _, rfl, rfl, rfl⟩⟩⟩, ⟨_, _, rfl, ⟨_, rfl, Nat.le_of_ble_eq_true rfl, ⟨_, _, rfl, ⟨_, rfl, Nat.le_of_ble_eq_true rfl, ⟨_, _, rfl, rfl, ⟨_, _, rfl, rfl, rfl⟩⟩⟩, ⟨_, _, rfl, rfl, rfl⟩⟩⟩, ⟨_, _, rfl, ⟨_, rfl, Nat.le_of_ble_eq_true rfl, ⟨_, _, rfl, rfl, ⟨_, _, rfl, rfl, rfl⟩⟩⟩, ⟨_, _, rfl, ⟨_, rfl, Nat.le_of_ble_eq_true rfl, ⟨_, _, rfl, ⟨_, rfl, Nat.le_of_ble_eq_true rfl, ⟨_, _, rfl, ⟨_, ⟨_, ⟨_, rfl, dc⟩, h0⟩, rfl⟩, rfl⟩⟩, ⟨_, _, rfl, rfl, rfl⟩⟩⟩, rfl⟩⟩⟩⟩⟩, fun v7 H8 S8 d8 => ?_⟩
    have htcr := hid_sub _ _ (hid_same S8 _ _ htc)
    have len0 : ∀ i, ((steps0 c00.1 ++ (cs.take i).flatMap stepsC).map stD).length ≤ 60 := fun i => by
      rw [List.length_map, List.length_append, stepsC_len, List.length_take]
      show 4 + _ ≤ _
      omega
    refine ⟨_, rfl, tc, rfl, ⟨_, SqT.of htcr⟩, for_tup (K := K) (a := tc) (xs := xc) (fun i σ Hx => ∃ (v7 : V) (x8 x9 : Option V), σ = [some (.ref p), some vl, some (.ref tc), some (.int (n : Nat)), some (.ref SL), some (.int (m : Nat)), some v6, some v7, x8, x9, none, none, none, none] ∧ Same H8 Hx ∧ Dat (hid [SL, p, q] Hx) v7 (.list ((steps0 c00.1 ++ (cs.take i).flatMap stepsC).map stD))) ⟨_, none, none, rfl, Same.refl _, by rw [List.take_zero]; show Dat _ _ (.list ((steps0 c00.1 ++ []).map stD)); rw [List.append_nil]; exact d8⟩ (fun i σ Hx _ ⟨_, _, _, _, S, _⟩ => SqT.of (S _ _ htcr)) ?_ ?_⟩
    · rintro i x σ Hx hx ⟨v7, x8, x9, rfl, S, dst⟩
      obtain ⟨d, hd, td⟩ := dxc.get hx
      rw [List.getElem?_map] at hd
      obtain ⟨c, hc, rfl⟩ := Option.map_eq_some_iff.mp hd
      have hcl : c.1.length ≤ 1000 := pool_len _ (good_mem gc (List.mem_of_getElem? hc))
      obtain ⟨bp, rfl, hbp⟩ := cnt_at td
      refine ⟨bp, _, rfl, SqT.of ((S8.trans S) _ _ (hid_sub _ _ hbp)), rfl, _, _, rfl, _, _, rfl, rfl, ?_⟩
      have l0 := len0 i
      refine ⟨[SL, p, q], .list (((steps0 c00.1 ++ (cs.take i).flatMap stepsC) ++ sA c).map stD), lv (S8.trans S), ⟨_, (sA c).map stD, congrArg PyData.list List.map_append, (by show _ + 3 ≤ _; omega), ⟨_, rfl, dst⟩, ⟨_, rfl, Nat.le_of_ble_eq_true rfl, ⟨_, _, rfl, ⟨_, rfl, Nat.le_of_ble_eq_true rfl, ⟨_, _, rfl, ⟨_, rfl, Nat.le_of_ble_eq_true rfl, ⟨_, _, rfl, ⟨_, rfl, .str _ hcl⟩, ⟨_, _, rfl, rfl, rfl⟩⟩⟩, ⟨_, _, rfl, rfl, rfl⟩⟩⟩, ⟨_, _, rfl, ⟨_, rfl, Nat.le_of_ble_eq_true rfl, ⟨_, _, rfl, ⟨_, rfl, Nat.le_of_ble_eq_true rfl, ⟨_, _, rfl, ⟨_, rfl, .str _ hcl⟩, ⟨_, _, rfl, ⟨_, _, rfl, ⟨_, rfl, .int _⟩, rfl⟩, rfl⟩⟩⟩, ⟨_, _, rfl, rfl, rfl⟩⟩⟩, ⟨_, _, rfl, ⟨_, rfl, Nat.le_of_ble_eq_true rfl, ⟨_, _, rfl, ⟨_, rfl, Nat.le_of_ble_eq_true rfl, ⟨_, _, rfl, ⟨_, rfl, .str _ hcl⟩, ⟨_, _, rfl, ⟨_, rfl, .int _⟩, rfl⟩⟩⟩, ⟨_, _, rfl, rfl, rfl⟩⟩⟩, rfl⟩⟩⟩⟩⟩, fun v71 H9 S9 d9 => ?_⟩
      refine ⟨[SL, p, q], .list ((((steps0 c00.1 ++ (cs.take i).flatMap stepsC) ++ sA c) ++ sB c).map stD), lv ((S8.trans S).trans S9), ⟨_, (sB c).map stD, congrArg PyData.list List.map_append, (by rw [List.map_append, List.length_append]; show (_ + 3) + 4 ≤ _; omega), ⟨_, rfl, d9⟩, ⟨_, rfl, Nat.le_of_ble_eq_true rfl, ⟨_, _, rfl, ⟨_, rfl, Nat.le_of_ble_eq_true rfl, ⟨_, _, rfl, ⟨_, rfl, Nat.le_of_ble_eq_true rfl, ⟨_, _, rfl, ⟨_, rfl, .str _ hcl⟩, ⟨_, _, rfl, rfl, rfl⟩⟩⟩, ⟨_, _, rfl, rfl, rfl⟩⟩⟩, ⟨_, _, rfl, ⟨_, rfl, Nat.le_of_ble_eq_true rfl, ⟨_, _, rfl, ⟨_, rfl, Nat.le_of_ble_eq_true rfl, ⟨_, _, rfl, ⟨_, rfl, .str _ hcl⟩, ⟨_, _, rfl, rfl, rfl⟩⟩⟩, ⟨_, _, rfl, rfl, rfl⟩⟩⟩, ⟨_, _, rfl, ⟨_, rfl, Nat.le_of_ble_eq_true rfl, ⟨_, _, rfl, ⟨_, rfl, Nat.le_of_ble_eq_true rfl, ⟨_, _, rfl, ⟨_, rfl, .str _ hcl⟩, ⟨_, _, rfl, rfl, rfl⟩⟩⟩, ⟨_, _, rfl, rfl, rfl⟩⟩⟩, ⟨_, _, rfl, ⟨_, rfl, Nat.le_of_ble_eq_true rfl, ⟨_, _, rfl, ⟨_, rfl, Nat.le_of_ble_eq_true rfl, ⟨_, _, rfl, ⟨_, rfl, .str _ hcl⟩, ⟨_, _, rfl, rfl, rfl⟩⟩⟩, ⟨_, _, rfl, rfl, rfl⟩⟩⟩, rfl⟩⟩⟩⟩⟩⟩, fun v72 H10 S10 d10 => ?_⟩
      refine ⟨v72, _, _, rfl, (S.trans S9).trans S10, ?_⟩
      have e : steps0 c00.1 ++ (cs.take (i + 1)).flatMap stepsC = ((steps0 c00.1 ++ (cs.take i).flatMap stepsC) ++ sA c) ++ sB c := by
        rw [List.take_add_one, hc, List.flatMap_append, List.append_assoc, List.append_assoc]
        have e2 : (some c).toList.flatMap stepsC = sA c ++ sB c := rfl
        rw [e2]
      rw [e]
      exact d10
    · rintro σ Hx ⟨v7, x8, x9, rfl, S, dst⟩
      rw [xcl, List.take_length] at dst
      have S7x := S8.trans S
      have dl := dl.same (hid_same (hs := [SL, p, q]) S7x)
      have dc := dc.same (hid_same (hs := [SL, p, q]) S7x)
      have hlen : PyData.int ((cs.length : Nat) : Int) = .int ((cs.map cntD).length : Nat) := by rw [List.length_map]
      obtain ⟨S4r, hS4r⟩ : ∃ r : SRow, r = (S15.dec cs (List.replicate cs.length (.cyc 2)), steps0 c00.1 ++ cs.flatMap stepsC) := ⟨_, rfl⟩
      refine ⟨_, rfl, .inl ⟨rfl, _, SqL.of (S7x _ _ hSL)⟩, [SL, p, q], sRowD (S15.dec cs (List.replicate cs.length (.cyc 2)), steps0 c00.1 ++ cs.flatMap stepsC), lv S7x, ⟨_, rfl, Nat.le_of_ble_eq_true rfl, ⟨_, _, rfl, ⟨_, rfl, Nat.le_of_ble_eq_true rfl, ⟨_, _, rfl, rfl, ⟨_, _, rfl, ⟨_, rfl, dc⟩, ⟨_, _, rfl, ⟨_, _, congrArg PyData.tuple List.map_replicate, ⟨by omega, by omega⟩, ⟨_, rfl, Nat.le_of_ble_eq_true rfl, ⟨_, _, rfl, ⟨_, rfl, dl⟩, rfl⟩⟩, ⟨_, ⟨_, rfl, dc⟩, hlen⟩⟩, rfl⟩⟩⟩⟩, ⟨_, _, rfl, ⟨_, rfl, dst⟩, rfl⟩⟩⟩, fun v9 H9 S9 d9 => ?_⟩
      have S79 := S7x.trans S9
      have xl3 := d7.len
      refine ⟨SL, xs, _, rfl, rfl, S79 _ _ hSL, (by rw [xl3, sizeLine_eq]; show 3 < _; decide), ?_⟩
      have eh : hid [SL, p, q] (upd H9 SL (.lst (xs ++ [v9]))) = hid [SL, p, q] H9 := hid_upd (by simp)
      obtain ⟨rows, hrows⟩ : ∃ rows : List SRow, rows = [(S15.pow n (.cyc 2), powL n), (S15.row false (List.replicate m (.cyc 2)), endsL m), (S15.row true (List.replicate m (.cyc 2)), endsL m)] ++ [(S15.dec cs (List.replicate cs.length (.cyc 2)), steps0 c00.1 ++ cs.flatMap stepsC)] := ⟨_, rfl⟩
      have good : ∀ r ∈ rows, GoodSR r := by
        intro r hr
        rw [hrows] at hr
        simp only [List.cons_append, List.nil_append, List.mem_cons, List.not_mem_nil, or_false] at hr
        rcases hr with rfl | rfl | rfl | rfl
        · exact good_pow hn1
        · exact good_row false hm16.1
        · exact good_row true hm16.1
        · exact good_dec gc c00.1
      have dall : DatAll (upd H9 SL (.lst (xs ++ [v9]))) (xs ++ [v9]) (rows.map sRowD) := by
        rw [hrows, List.map_append]
        refine DatAll.same (hid_sub (hs := [SL, p, q])) ?_
        rw [eh]
        exact datAll_append (d7.same (hid_same S79)) (.cons d9 .nil)
      have hSL9 : upd H9 SL (.lst (xs ++ [v9])) SL = some (.lst (xs ++ [v9])) := upd_same
      generalize upd H9 SL (.lst (xs ++ [v9])) = H11 at dall hSL9 ⊢
      clear eh d9 d7 dl dc dst hrows hlen S79 S7x S9 S htcr S8 d8 dxc htc lv D7 hSL
      refine ⟨_, rfl, SL, rfl, ⟨_, SqL.of hSL9⟩, for_list (K := K) (a := SL) (xs := xs ++ [v9]) (fun i σ Hx => ∃ (x10 x11 x12 x13 : Option V), σ = [some (.ref p), some vl, some (.ref tc), some (.int (n : Nat)), some (.ref SL), some (.int (m : Nat)), some v6, some v7, x8, x9, x10, x11, x12, x13] ∧ Same H11 Hx) ⟨none, none, none, none, rfl, Same.refl _⟩ (fun i σ Hx _ ⟨_, _, _, _, _, S⟩ => SqL.of (S _ _ hSL9)) ?_ ?_⟩
      · rintro i x σ Hx hx ⟨x10, x11, x12, x13, rfl, S⟩
        obtain ⟨d, hd, dx⟩ := dall.get hx
        rw [List.getElem?_map] at hd
        obtain ⟨r, hr', rfl⟩ := Option.map_eq_some_iff.mp hd
        have gr := good r (List.mem_of_getElem? hr')
        obtain ⟨sp, sts⟩ := r
        obtain ⟨ty, ys, rfl, hty, dys⟩ := tup_inv (show Dat Hx x (.tuple [sdt sp, .list (sts.map stD)]) from dx.same S)
        obtain ⟨w1, w2, rfl, dw1, dw2⟩ := dat2 dys
        obtain ⟨la, zs, rfl, hla, dzs⟩ := lst_inv dw2
        refine ⟨ty, _, rfl, SqT.of hty, rfl, _, _, rfl, _, _, rfl, rfl, ?_⟩
        refine ⟨_, rfl, la, rfl, ⟨_, SqL.of hla⟩, for_list (K := K) (a := la) (xs := zs) (fun i2 σ Hy => ∃ (x12 x13 : Option V), σ = [some (.ref p), some vl, some (.ref tc), some (.int (n : Nat)), some (.ref SL), some (.int (m : Nat)), some v6, some v7, x8, x9, some w1, some (.ref la), x12, x13] ∧ Same Hx Hy) ⟨_, _, rfl, Same.refl _⟩ (fun i2 σ Hy _ ⟨_, _, _, S2⟩ => SqL.of (S2 _ _ hla)) ?_ ?_⟩
        · rintro i2 y σ Hy hy ⟨x12, x13, rfl, S2⟩
          obtain ⟨d2, hd2, dy⟩ := dzs.get hy
          rw [List.getElem?_map] at hd2
          obtain ⟨st, hst, rfl⟩ := Option.map_eq_some_iff.mp hd2
          have due := gr.due st (List.mem_of_getElem? hst)
          obtain ⟨sd, sb⟩ := st
          obtain ⟨tz, us, rfl, htz, dus⟩ := tup_inv (show Dat Hy y (.tuple [sd, .bool sb]) from dy.same S2)
          obtain ⟨u1, u2, rfl, du1, du2⟩ := dat2 dus
          cases du2
          refine ⟨tz, _, rfl, SqT.of htz, rfl, _, _, rfl, _, _, rfl, rfl, ?_⟩
          have ds1 := d_nil du1
          refine ⟨_, rfl, [], stepQ sd, liv_nil, ⟨_, rfl, Nat.le_of_ble_eq_true rfl, ⟨_, _, rfl, ⟨_, rfl, Nat.le_of_ble_eq_true rfl, ⟨_, _, rfl, ⟨_, rfl, ds1⟩, rfl⟩⟩, ⟨_, _, rfl, rfl, ⟨_, _, rfl, rfl, rfl⟩⟩⟩⟩, fun v' H' S' dv' => ?_⟩
          refine ⟨w1, v', sp, _, rfl, (dw1.same S2).same S', gr.ok, dv'.same hid_sub, short_cons (Nat.le_of_ble_eq_true rfl) (short_cons (Nat.le_of_ble_eq_true rfl) (short_cons (Nat.le_of_ble_eq_true rfl) short_nil)), fun H'' S'' => ?_⟩
          rw [due]
          refine ⟨.bl _, .bool _, rfl, .bl _, (bool_repr _).1, (bool_repr _).2.1, (bool_repr _).2.2, ?_⟩
          refine ⟨_, rfl, .bl _, .bool _, rfl, .bl _, (bool_repr _).1, (bool_repr _).2.1, (bool_repr _).2.2, ?_⟩
          refine ⟨rfl, _, rfl, ?_⟩
          refine if_f (by rw [decide_eq_true rfl]; rfl) ?_
          exact ⟨_, _, rfl, (S2.trans S').trans S''⟩
        · rintro σ Hy ⟨x12, x13, rfl, S2⟩
          exact ⟨_, _, _, _, rfl, S.trans S2⟩
      · rintro σ Hx ⟨x10, x11, x12, x13, rfl, S⟩
        exact k _
end
end KF
set_option maxRecDepth 100000
set_option maxHeartbeats 8000000
namespace KF
open PySem PySem.Spec PyProof.Rows L2
/-! ### the law -/
abbrev s_law : Stmt := top 48
def spLaw (K : PySem.W.Frag) : Sp := fun vs H Q _ => ∃ (a : Addr) (ns : List Int), vs = [.ref a] ∧ SqL K H a (ns.map V.int) ∧ ns.length ≤ 63 ∧ ∀ H', Q (.bl true) H'
/-- what the law asks of a row besides -/
structure RowH (s : S15) (z : Str) (ds : List PyData) : Prop where
  e : sdt s = .tuple (.str z :: ds)
  f1 : inV (.str z) [.str "word", .str "decorated"] = true → ∃ cs r, ds = cntsD cs :: r ∧ GoodC cs ∧ ∀ y as, askS s y as = wordB cs y as
  f2 : decide (V.str z = V.str "walk") = true → ∃ n s0 e0 lo hi, s = .leaf (.walk n s0 e0 lo hi)
  f3 : decide (V.str z = V.str "string") = true → ∃ n, s = .leaf (.str n)
theorem row_hd (s : S15) (hk : KindOk s) : ∃ z ds, RowH s z ds := by
  have no : ∀ {a : Bool} {P : Prop}, a = false → a = true → P := fun h1 h2 => by rw [h1] at h2; cases h2
  cases s with
  | leaf l =>
    cases l with
    | sub n k => exact ⟨_, _, rfl, no (by decide +kernel), no (by decide +kernel), no (by decide +kernel)⟩
    | word cs => exact ⟨_, _, rfl, fun _ => ⟨cs, [], rfl, hk, fun _ _ => rfl⟩, no (by decide +kernel), no (by decide +kernel)⟩
    | arr o => exact ⟨_, _, rfl, no (by decide +kernel), no (by decide +kernel), no (by decide +kernel)⟩
    | walk n s0 e0 lo hi => exact ⟨_, _, rfl, no (by decide +kernel), fun _ => ⟨n, s0, e0, lo, hi, rfl⟩, no (by decide +kernel)⟩
    | cyc n => exact ⟨_, _, rfl, no (by decide +kernel), no (by decide +kernel), no (by decide +kernel)⟩
    | mat n => exact ⟨_, _, rfl, no (by decide +kernel), no (by decide +kernel), no (by decide +kernel)⟩
    | perm n d => exact ⟨_, _, rfl, no (by decide +kernel), no (by decide +kernel), no (by decide +kernel)⟩
    | tree n => exact ⟨_, _, rfl, no (by decide +kernel), no (by decide +kernel), no (by decide +kernel)⟩
    | str n => exact ⟨_, _, rfl, no (by decide +kernel), no (by decide +kernel), fun _ => ⟨n, rfl⟩⟩
  | row c ls => exact ⟨_, _, rfl, no (by cases c <;> decide +kernel), no (by cases c <;> decide +kernel), no (by cases c <;> decide +kernel)⟩
  | pow n l => exact ⟨_, _, rfl, no (by decide +kernel), no (by decide +kernel), no (by decide +kernel)⟩
  | dec cs ls => exact ⟨_, _, rfl, fun _ => ⟨cs, _, rfl, hk, fun _ _ => rfl⟩, no (by decide +kernel), no (by decide +kernel)⟩
theorem sel_word {cs : Cn} (l o : PyData) : wordB cs "select" [l, o] = selB cs l o := by
  unfold wordB
  rw [show decide (("select" : Str) = "select") = true by decide +kernel]
  rfl
theorem sel_q {cs : Cn} (g : GoodC cs) (o : PyData) : selB cs (.str "q") o = false := by
  unfold selB
  rw [List.any_eq_false]
  intro c hc
  have : eqStr c.1 (.str "q") = false := (pool_no _ (good_mem g hc)).1.2
  rw [this]
  exact Bool.false_ne_true
theorem sel_one {cs : Cn} (o : PyData) : wordB cs "select" [o] = false := by
  unfold wordB
  rw [show (decide (("select" : Str) = "select") && decide (([o] : List PyData).length = 2)) = false by rw [show decide (([o] : List PyData).length = 2) = false from rfl, Bool.and_false], if_neg Bool.false_ne_true]
  exact takes_no (by rw [look2 (by decide +kernel), look2 (by decide +kernel), look2 (by decide +kernel), look0]) _
theorem walk_two {n s e : Int} {z : Str} (h : (decide (z = "first_visit") || decide (z = "last_visit")) = true) (d o : PyData) : walkB n s e z [d, o] = (btw 0 (n + 1 - 1) d && isInt o) := by
  unfold walkB
  rw [h, Int.add_sub_cancel]
  rfl
section
variable {P : Program} {w : World} {K : PySem.W.Frag} {mg : Str → Option Value} {base : Heap}
theorem sc_law : FnScope ["_law_script", "_law_deck_here", "_law_space", "_law_words", "_law_letter", "_law_often", "_law_word"] ["_law_script"] (defScope s_law) := ⟨rfl, rfl, rfl, by decide +kernel, rfl, by decide +kernel, by decide +kernel⟩
theorem ok_law {f fK fR fW fQ fO fT fS fP : Addr} {fd fdK fdR fdW fdQ fdO fdT fdS fdP : FuncData} (F : Fun K "law" "law" s_law f fd) (T : Nm mg)
    (D_deck : DefOk K mg "_law_deck" sDeck ["_law_script"] fK fdK) (D_rows : DefOk K mg "_law_rows" s_rows ["_law_deck_here"] fR fdR) (D_walks : DefOk K mg "_law_walks" s_walks ["_law_deck_here"] fW fdW) (D_query : DefOk K mg "is_query" s_query ["space", "value"] fQ fdQ)
    (D_one : DefOk K mg "_law_one_right" s_one ["_law_deck_here", "_law_space", "_law_words"] fO fdO) (D_two : DefOk K mg "_law_two_right" s_two ["_law_deck_here", "_law_space", "_law_word", "_law_before", "_law_first", "_law_last"] fT fdT)
    (D_sets : DefOk K mg "_law_sets_right" s_sets ["_law_space"] fS fdS) (D_steps : DefOk K mg "_law_steps_right" s_steps ["_law_deck_here"] fP fdP)
    (G_rows : FnOk P w K mg base CX0 7 fR fdR ["_law_deck_here"] spRows) (G_walks : FnOk P w K mg base CX0 3 fW fdW ["_law_deck_here"] spWalks) (G_query : FnOk P w K mg base CX0 10 fQ fdQ ["space", "value"] (spQuery Y15))
    (G_one : FnG P w K mg base 11 fO fdO ["_law_deck_here", "_law_space", "_law_words"] spOne) (G_two : FnG P w K mg base 11 fT fdT ["_law_deck_here", "_law_space", "_law_word", "_law_before", "_law_first", "_law_last"] spTwo)
    (G_sets : FnG P w K mg base 11 fS fdS ["_law_space"] spSets) (G_steps : FnG P w K mg base 11 fP fdP ["_law_deck_here"] spSteps) :
    FnG P w K mg base 12 f fd ["_law_script"] (spLaw K) := by
  have G_deck : FnOk P w K mg base CX0 1 fK fdK ["_law_script"] (spDeck K) := ok_deck D_deck.F T T.list
  refine F.okG sc_law (fun vs H Q E h => ?_) (fun cdv A outer s H vs Q E hg hr h => ?_)
  · obtain ⟨a, ns, rfl, _⟩ := h
    rfl
  · obtain ⟨a, ns0, rfl, hS, hlen, fin⟩ := h
    have hr1 : Room 1 _ := hr.mono (by decide)
    have hr3 : Room 3 _ := hr.mono (by decide)
    have hr7 : Room 7 _ := hr.mono (by decide)
    have hr10 : Room 10 _ := hr.mono (by decide)
    refine ⟨_, (pss_cons (ps_set (i := 1) sc_law.nd rfl (Or.inl rfl) (pe_call G_deck hr1 rfl D_deck.g D_deck.F.kp D_deck.b .nil pass0 (pa_cons (pv 0) pa_nil)))
      (pss_cons (ps_for PassesOwn.never rfl (pi_list (pe_op op_cat (pe_call G_rows hr7 rfl D_rows.g D_rows.F.kp D_rows.b .nil pass0 (pa_cons (pv 1) pa_nil)) (pe_call G_walks hr3 rfl D_walks.g D_walks.F.kp D_walks.b .nil pass0 (pa_cons (pv 1) pa_nil)))) (pg_tup rfl (pgs_cons (pg_name (i := 2) sc_law.nd rfl (Or.inl rfl)) (pgs_cons (pg_name (i := 3) sc_law.nd rfl (Or.inl rfl)) pgs_nil)))
        (pss_cons (ps_if (pt_not (pt_val (pe_callG G_one hg hr rfl D_one.g D_one.F.kp D_one.b (pa_cons (pv 1) (pa_cons (pv 2) (pa_cons (pv 3) pa_nil))))))
          (pss_one (ps_ret pe_bl))
          pss_nil)
        (C8.pss_cut (ps_if (pt_cmpR op_in_seq (pe_ix ix_tup (pv 2) pe_int (fun _ _ => rfl)) (pe_tup (pa_cons pe_str (pa_cons pe_str pa_nil))) rfl)
          (pss_cons (ps_for PassesOwn.never rfl (pi_tup (pe_ix ix_tup (pv 2) pe_int (fun _ _ => rfl))) (pg_tup rfl (pgs_cons (pg_name (i := 4) sc_law.nd rfl (Or.inl rfl)) (pgs_cons (pg_name (i := 5) sc_law.nd rfl (Or.inl rfl)) pgs_nil)))
            (pss_one (ps_if (pt_not (pt_val (pe_callG G_two hg hr rfl D_two.g D_two.F.kp D_two.b (pa_cons (pv 1) (pa_cons (pv 2) (pa_cons pe_str (pa_cons (pe_tup (pa_cons (pv 4) pa_nil)) (pa_cons pe_int (pa_cons (pv 5) pa_nil)))))))))
              (pss_one (ps_ret pe_bl))
              pss_nil)))
          (pss_one (ps_if (PW.pt (pw_or (pt_val (pe_call G_query hr10 rfl D_query.g D_query.F.kp D_query.b .nil pass0 (pa_cons (pv 2) (pa_cons (pr_tup (pr_cons (pr_tup pr_nil) (pr_cons (pr_str (by decide) pe_str) (pr_cons (pr_str (by decide) pe_str) (pr_cons (pr_int pe_int) pr_nil))))).pe pa_nil)))) (pw_or1 (pt_val (pe_call G_query hr10 rfl D_query.g D_query.F.kp D_query.b .nil pass0 (pa_cons (pv 2) (pa_cons (pr_tup (pr_cons (pr_tup pr_nil) (pr_cons (pr_str (by decide) pe_str) (pr_cons (pr_int pe_int) pr_nil)))).pe pa_nil)))))))
            (pss_one (ps_ret pe_bl))
            pss_nil)))
          pss_nil)
        (C8.pss_cut (ps_if (pt_cmpR op_eq (pe_ix ix_tup (pv 2) pe_int (fun _ _ => rfl)) pe_str (nomark _))
          (pss_one (ps_for PassesOwn.never rfl (pi_tup (pe_tup (pa_cons pe_str (pa_cons pe_str pa_nil)))) (pg_name (i := 6) sc_law.nd rfl (Or.inl rfl))
            (pss_one (ps_if (pt_not (pt_val (pe_callG G_two hg hr rfl D_two.g D_two.F.kp D_two.b (pa_cons (pv 1) (pa_cons (pv 2) (pa_cons (pv 6) (pa_cons (pe_tup pa_nil) (pa_cons pe_int (pa_cons (pe_op op_add (pe_ix ix_tup (pv 2) pe_int (fun _ _ => rfl)) pe_int) pa_nil)))))))))
              (pss_one (ps_ret pe_bl))
              pss_nil))))
          pss_nil)
        (pss_one (ps_if (PW.pt (pw_and (pt_cmpR op_eq (pe_ix ix_tup (pv 2) pe_int (fun _ _ => rfl)) pe_str (nomark _)) (pw_and1 (pt_not (pt_val (pe_callG G_sets hg hr rfl D_sets.g D_sets.F.kp D_sets.b (pa_cons (pv 2) pa_nil)))))))
          (pss_one (ps_ret pe_bl))
          pss_nil))))))
      (pss_one (ps_ret (pe_callG G_steps hg hr rfl D_steps.g D_steps.F.kp D_steps.b (pa_cons (pv 1) pa_nil)))))), ?_⟩
    refine ⟨_, rfl, a, ns0, rfl, hS, hlen, fun p q ms m H1 s1 np nq D1 => ?_⟩
    have K1 : Dk H1 p q 0 := ⟨ms, m, 0, D1, by decide⟩
    refine ⟨_, rfl, p, q, 0, rfl, K1, by decide, fun a1 xs1 rows1 H2 n1 O1 K2 h1 d1 l1 g1 => ?_⟩
    refine ⟨_, rfl, p, q, _, rfl, K2, by omega, fun a2 xs2 rows2 H3 n2 O2 K3 h2 d2 l2 g2 => ?_⟩
    have a1n := K1.new n1
    have h1' := O2 _ _ h1 a1n.1 a1n.2
    have d1' := d1.same (hide_off O2)
    have x1l := d1.len
    have x2l := d2.len
    rw [List.length_map] at x1l x2l
    refine ⟨a1, a2, xs1, xs2, rfl, rfl, h1', h2, (by rw [x1l, x2l, sizeLine_eq]; omega), fun LL nLL => ?_⟩
    have SL := same_new (o := HO.lst (xs1 ++ xs2)) nLL
    have lln := K3.new nLL
    have hLL : upd H3 LL (.lst (xs1 ++ xs2)) LL = some (.lst (xs1 ++ xs2)) := upd_same
    have K4 := K3.same SL
    have dall : DatAll (hid [p, q] (upd H3 LL (.lst (xs1 ++ xs2)))) (xs1 ++ xs2) ((rows1 ++ rows2).map rowD) := by
      rw [hid_hide, List.map_append]
      exact (datAll_append d1' d2).same (hide_same SL)
    have gall : ∀ r ∈ rows1 ++ rows2, GoodR r := fun r hr => by
      rcases List.mem_append.mp hr with z | z
      · exact g1 r z
      · exact g2 r z
    have xl : (xs1 ++ xs2).length ≤ 24 := by
      rw [List.length_append]
      omega
    generalize upd H3 LL (.lst (xs1 ++ xs2)) = H4 at hLL K4 dall ⊢
    clear d1 d2 d1' h1' h1 h2 O1 O2 K2 K3 n1 n2 SL nLL
    refine ⟨LL, rfl, ⟨_, SqL.of hLL⟩, for_list (K := K) (a := LL) (xs := xs1 ++ xs2) (fun i σ Hx => ∃ (x2 x3 x4 x5 x6 : Option V), σ = [some (.ref a), some (.ref p), x2, x3, x4, x5, x6] ∧ Off p q H4 Hx ∧ Dk Hx p q (200 + 100 * i)) ⟨none, none, none, none, none, rfl, Off.refl, K4.mono (by omega)⟩ (fun i σ Hx _ ⟨_, _, _, _, _, _, O, _⟩ => SqL.of (O _ _ hLL lln.1 lln.2)) ?_ ?_⟩
    · rintro i x σ Hx hx ⟨x2, x3, x4, x5, x6, rfl, O, Dx⟩
      have hi : i < 24 := by
        have := (List.getElem?_eq_some_iff.mp hx).1
        omega
      obtain ⟨d, hd, dx⟩ := dall.get hx
      rw [List.getElem?_map] at hd
      obtain ⟨r, hr', rfl⟩ := Option.map_eq_some_iff.mp hd
      have gr := gall r (List.mem_of_getElem? hr')
      obtain ⟨sp, wds⟩ := r
      have dx := dx.same (hid_off (hs := [p, q]) (by simp) (by simp) O)
      obtain ⟨ty, ys, rfl, hty, dys⟩ := tup_inv (show Dat (hid [p, q] Hx) x (.tuple [sdt sp, .list (wds.map wD)]) from dx)
      obtain ⟨v, w2, rfl, dv, dw2⟩ := dat2 dys
      obtain ⟨wl, ws, rfl, hwl, dws⟩ := lst_inv dw2
      obtain ⟨z, ds, rh⟩ := row_hd sp gr.kind
      have dvh := dv
      rw [rh.e] at dvh
      obtain ⟨sa, ps, rfl, hsa, dps⟩ := tup_hd dvh
      have san : sa ≠ p ∧ sa ≠ q := ⟨fun z => hid_not hsa (by rw [z]; simp), fun z => hid_not hsa (by rw [z]; simp)⟩
      refine ⟨ty, _, rfl, SqT.of (hid_sub _ _ hty), rfl, _, _, rfl, _, _, rfl, rfl, ?_⟩
      -- one index
      refine ⟨_, rfl, _, rfl, _, rfl, p, q, wl, _, .ref sa, sp, ws, wds, rfl, Dx, by omega, dv, gr.ok, hwl, dws, gr.few, gr.one, fun H5 O5 D5 => ⟨_, rfl, if_f rfl ?_⟩⟩
      have hsa5 := O5 _ _ (hid_sub _ _ hsa) san.1 san.2
      have O45 := O.trans O5
      have dps5 := dps.same (hid_off (hs := [p, q]) (by simp) (by simp) O5)
      have dv5 := dv.same (hid_off (hs := [p, q]) (by simp) (by simp) O5)
      -- words and decorated spaces
      refine ⟨fun σ' Hy => ∃ (x4 x5 : Option V), σ' = [some (.ref a), some (.ref p), some (.ref sa), some (.ref wl), x4, x5, x6] ∧ Off p q H5 Hy ∧ Dk Hy p q (200 + 100 * i + 20 + 40), ?_, ?_⟩
      · refine ⟨_, rfl, sa, _, _, _, rfl, rfl, SqT.of hsa5, atI_nat (j := 0) rfl, ?_⟩
        refine ⟨(by show 2 ≤ sizeLine; decide), fun tp ntp => ⟨tp, _, rfl, .inr (SqT.of upd_same), rfl, rfl, _, rfl, ?_⟩⟩
        have St := same_new (o := HO.tup [.str "word", .str "decorated"]) ntp
        generalize upd H5 tp (.tup [.str "word", .str "decorated"]) = H6 at St ⊢
        have D6 := D5.same St
        show (if inV (.str z) [.str "word", .str "decorated"] = true then _ else _)
        cases ein : inV (.str z) [.str "word", .str "decorated"] with
        | false => exact if_f rfl ⟨_, _, rfl, .of_same St, D6.mono (by omega)⟩
        | true =>
          refine if_t rfl ?_
          obtain ⟨cs, r, rfl, gc, hask⟩ := rh.f1 ein
          obtain ⟨cl1, cl6⟩ := good_len gc
          cases dps5 with
          | @cons vc pr _ _ dc5 dr5 =>
          obtain ⟨tc, xc, rfl, htc, dxc⟩ : ∃ (tc : Addr) (xc : List V), vc = .ref tc ∧ hid [p, q] H5 tc = some (.tup xc) ∧ DatAll (hid [p, q] H5) xc (cs.map cntD) := tup_inv dc5
          have tcn : tc ≠ p ∧ tc ≠ q := ⟨fun z => hid_not htc (by rw [z]; simp), fun z => hid_not htc (by rw [z]; simp)⟩
          have xcl := dxc.len
          rw [List.length_map] at xcl
          have hsa6 := St _ _ hsa5
          have htc6 := hid_same (hs := [p, q]) St _ _ htc
          have dxc6 := dxc.same (hid_same (hs := [p, q]) St)
          have dv6 := dv5.same (hid_same (hs := [p, q]) St)
          refine ⟨_, rfl, sa, _, _, _, rfl, rfl, SqT.of hsa6, atI_nat (j := 1) rfl, tc, rfl, ⟨_, SqT.of (hid_sub _ _ htc6)⟩, for_tup (K := K) (a := tc) (xs := xc) (fun i2 σ Hy => ∃ (x4 x5 : Option V), σ = [some (.ref a), some (.ref p), some (.ref sa), some (.ref wl), x4, x5, x6] ∧ Off p q H6 Hy ∧ Dk Hy p q (200 + 100 * i + 20 + 6 * i2)) ⟨_, _, rfl, Off.refl, D6.mono (by omega)⟩ (fun i2 σ Hy _ ⟨_, _, _, O6, _⟩ => SqT.of (O6 _ _ (hid_sub _ _ htc6) tcn.1 tcn.2)) ?_ ?_⟩
          · rintro i2 y σ Hy hy ⟨x4, x5, rfl, O6, Dy⟩
            have hi2 : i2 < 6 := by
              have := (List.getElem?_eq_some_iff.mp hy).1
              omega
            obtain ⟨d, hd, td⟩ := dxc6.get hy
            rw [List.getElem?_map] at hd
            obtain ⟨c, hc, rfl⟩ := Option.map_eq_some_iff.mp hd
            have hcm := List.mem_of_getElem? hc
            have hcl : c.1.length ≤ 1000 := pool_len _ (good_mem gc hcm)
            obtain ⟨bp, rfl, hbp⟩ := cnt_at (td.same (hid_off (hs := [p, q]) (by simp) (by simp) O6))
            refine ⟨bp, _, rfl, SqT.of (hid_sub _ _ hbp), rfl, _, _, rfl, _, _, rfl, rfl, ?_⟩
            refine ⟨_, rfl, _, rfl, _, rfl, (by show 1 ≤ sizeLine; decide), fun tb ntb => ⟨_, rfl, ?_⟩⟩
            have Sb := same_new (o := HO.tup [.str c.1]) ntb
            have htb : upd Hy tb (.tup [.str c.1]) tb = some (.tup (([c.1] : List Str).map V.str)) := upd_same
            generalize upd Hy tb (.tup [.str c.1]) = H7 at Sb htb ⊢
            refine ⟨p, q, tb, _, .ref sa, sp, "select", [c.1], 0, ((c.2 : Nat) : Int), rfl, Dy.same Sb, by omega, (dv6.same (hid_off (hs := [p, q]) (by simp) (by simp) O6)).same (hid_same Sb), gr.ok, by decide, htb, Nat.le_of_ble_eq_true rfl, (fun y hy => by rw [List.mem_singleton.mp hy]; exact hcl), (fun z => by cases z), fun _ d => ?_, fun H8 O8 D8 => ⟨_, rfl, if_f rfl ?_⟩⟩
            · show askS sp "select" [.str c.1, d] = _
              rw [hask, sel_word, sel_own gc hcm]
            · exact ⟨_, _, rfl, (O6.trans (.of_same Sb)).trans O8, D8.mono (by omega)⟩
          · rintro σ Hy ⟨x4, x5, rfl, O6, Dy⟩
            rw [xcl] at Dy
            have dvy := dv6.same (hid_off (hs := [p, q]) (by simp) (by simp) O6)
            refine ⟨_, rfl, [], .tuple [.tuple [], .str "select", .str "q", .int 0], liv_nil, ⟨_, rfl, Nat.le_of_ble_eq_true rfl, ⟨_, _, rfl, ⟨_, rfl, Nat.le_of_ble_eq_true rfl, rfl⟩, ⟨_, _, rfl, rfl, ⟨_, _, rfl, rfl, ⟨_, _, rfl, rfl, rfl⟩⟩⟩⟩⟩, fun v' H' S' dv' => ?_⟩
            have eq : queryI Y15 sp (.tuple [.tuple [], .str "select", .str "q", .int 0]) = false := (q_root sp "select" [.str "q", .int 0]).trans ((hask _ _).trans ((sel_word _ _).trans (sel_q gc _)))
            refine ⟨.ref sa, v', sp, _, rfl, (dvy.same hid_sub).same S', gr.ok, dv'.same hid_sub, short_cons (Nat.le_of_ble_eq_true rfl) (short_cons (Nat.le_of_ble_eq_true rfl) (short_cons (Nat.le_of_ble_eq_true rfl) (short_cons (Nat.le_of_ble_eq_true rfl) short_nil))), fun H'' S'' => ?_⟩
            rw [eq]
            refine ⟨_, rfl, if_f rfl ?_⟩
            have S2 := S'.trans S''
            refine ⟨_, rfl, [], .tuple [.tuple [], .str "select", .int 0], liv_nil, ⟨_, rfl, Nat.le_of_ble_eq_true rfl, ⟨_, _, rfl, ⟨_, rfl, Nat.le_of_ble_eq_true rfl, rfl⟩, ⟨_, _, rfl, rfl, ⟨_, _, rfl, rfl, rfl⟩⟩⟩⟩, fun v2 H2' S2' dv2 => ?_⟩
            have eq : queryI Y15 sp (.tuple [.tuple [], .str "select", .int 0]) = false := (q_root sp "select" [.int 0]).trans ((hask _ _).trans (sel_one _))
            refine ⟨.ref sa, v2, sp, _, rfl, ((dvy.same hid_sub).same S2).same S2', gr.ok, dv2.same hid_sub, short_cons (Nat.le_of_ble_eq_true rfl) (short_cons (Nat.le_of_ble_eq_true rfl) (short_cons (Nat.le_of_ble_eq_true rfl) short_nil)), fun H3' S3' => ?_⟩
            rw [eq]
            refine ⟨_, rfl, if_f rfl ?_⟩
            have S3 := (S2.trans S2').trans S3'
            exact ⟨_, _, rfl, ((Off.of_same St).trans O6).trans (.of_same S3), (Dy.same S3).mono (by omega)⟩
      · rintro σ' Hy ⟨x4, x5, rfl, Oy, Dy⟩
        have hsay := Oy _ _ hsa5 san.1 san.2
        have dvy := dv5.same (hid_off (hs := [p, q]) (by simp) (by simp) Oy)
        clear dps5 dv5 hsa5
        -- walks
        refine ⟨fun σ' Hz => ∃ (x6 : Option V), σ' = [some (.ref a), some (.ref p), some (.ref sa), some (.ref wl), x4, x5, x6] ∧ Off p q Hy Hz ∧ Dk Hz p q (200 + 100 * i + 20 + 40 + 20), ?_, ?_⟩
        · refine ⟨_, rfl, sa, _, _, _, rfl, rfl, SqT.of hsay, atI_nat (j := 0) rfl, rfl, _, rfl, ?_⟩
          cases ew : decide (V.str z = V.str "walk") with
          | false => exact if_f rfl ⟨_, rfl, Off.refl, Dy.mono (by omega)⟩
          | true =>
            refine if_t rfl ?_
            obtain ⟨n, s0, e0, lo, hi0, rfl⟩ := rh.f2 ew
            obtain ⟨sa', ps', e1, hsa', dps'⟩ := tup_hd (show Dat (hid [p, q] Hy) (.ref sa) (.tuple (.str "walk" :: [.int n, .int s0, .int e0, .int lo, .int hi0])) from dvy)
            cases e1
            match ps', dps', hsa' with
            | _, .cons (.int _) _, hsa' =>
              refine ⟨(by show 2 ≤ sizeLine; decide), fun tf ntf => ?_⟩
              have Sf := same_new (o := HO.tup [.str "first_visit", .str "last_visit"]) ntf
              have htf : upd Hy tf (.tup [.str "first_visit", .str "last_visit"]) tf = some (.tup [.str "first_visit", .str "last_visit"]) := upd_same
              generalize upd Hy tf (.tup [.str "first_visit", .str "last_visit"]) = H6 at Sf htf ⊢
              have D6 := Dy.same Sf
              have tfn := dk_ne D6 htf
              have hsa6 := hid_same (hs := [p, q]) Sf _ _ hsa'
              have dv6 := dvy.same (hid_same (hs := [p, q]) Sf)
              refine ⟨tf, rfl, ⟨_, SqT.of htf⟩, for_tup (K := K) (a := tf) (xs := [.str "first_visit", .str "last_visit"]) (fun i2 σ Hz => ∃ (x6 : Option V), σ = [some (.ref a), some (.ref p), some (.ref sa), some (.ref wl), x4, x5, x6] ∧ Off p q H6 Hz ∧ Dk Hz p q (200 + 100 * i + 20 + 40 + 6 * i2)) ⟨_, rfl, Off.refl, D6.mono (by omega)⟩ (fun i2 σ Hz _ ⟨_, _, O6, _⟩ => SqT.of (O6 _ _ htf tfn.1 tfn.2)) ?_ ?_⟩
              · rintro i2 y σ Hz hy ⟨x6, rfl, O6, Dz⟩
                obtain ⟨zw, rfl, hzw, hi2, hzl⟩ : ∃ zw : Str, y = .str zw ∧ (decide (zw = "first_visit") || decide (zw = "last_visit")) = true ∧ i2 < 2 ∧ zw.length ≤ 1000 := by
                  match i2, hy with
                  | 0, hy => exact ⟨_, (Option.some.inj hy).symm, by decide +kernel, by decide, by decide⟩
                  | 1, hy => exact ⟨_, (Option.some.inj hy).symm, by decide +kernel, by decide, by decide⟩
                  | j + 2, hy => simp at hy
                have hsaz := O6 _ _ (hid_sub _ _ hsa6) san.1 san.2
                refine ⟨_, rfl, _, rfl, _, rfl, (by show 0 ≤ sizeLine; decide), fun tb ntb => ?_⟩
                have Sb := same_new (o := HO.tup []) ntb
                have htb : upd Hz tb (.tup []) tb = some (.tup (([] : List Str).map V.str)) := upd_same
                generalize upd Hz tb (.tup []) = H7 at Sb htb ⊢
                refine ⟨_, rfl, sa, _, _, _, rfl, rfl, SqT.of (Sb _ _ hsaz), atI_nat (j := 1) rfl, _, _, rfl, rfl, ?_⟩
                refine ⟨p, q, tb, _, .ref sa, _, zw, [], 0, n + 1, rfl, Dz.same Sb, by omega, (dv6.same (hid_off (hs := [p, q]) (by simp) (by simp) O6)).same (hid_same Sb), gr.ok, hzl, htb, by decide, (fun y hy => by cases hy), (fun _ d o => walk_two hzw d o), (fun h => absurd rfl h), fun H8 O8 D8 => ⟨_, rfl, if_f rfl ?_⟩⟩
                exact ⟨_, rfl, (O6.trans (.of_same Sb)).trans O8, D8.mono (by omega)⟩
              · rintro σ Hz ⟨x6, rfl, O6, Dz⟩
                exact ⟨_, rfl, (Off.of_same Sf).trans O6, Dz.mono (by show _ + 6 * 2 ≤ _; omega)⟩
        · rintro σ' Hz ⟨x6, rfl, Oz, Dz⟩
          have hsaz := Oz _ _ hsay san.1 san.2
          have dvz := dvy.same (hid_off (hs := [p, q]) (by simp) (by simp) Oz)
          have Oall := (O45.trans Oy).trans Oz
          refine ⟨_, rfl, sa, _, _, _, rfl, rfl, SqT.of hsaz, atI_nat (j := 0) rfl, rfl, _, rfl, ?_⟩
          cases es : decide (V.str z = V.str "string") with
          | false => exact if_f rfl (if_f rfl ⟨_, _, _, _, _, rfl, Oall, Dz.mono (by omega)⟩)
          | true =>
            obtain ⟨n, rfl⟩ := rh.f3 es
            refine if_t rfl ⟨_, rfl, .ref sa, n, rfl, dvz.same hid_sub, fun H8 S8 => ⟨_, rfl, if_f rfl ?_⟩⟩
            exact ⟨_, _, _, _, _, rfl, Oall.trans (.of_same S8), (Dz.same S8).mono (by omega)⟩
    · rintro σ Hx ⟨x2, x3, x4, x5, x6, rfl, O, Dx⟩
      exact ⟨_, rfl, p, q, _, rfl, Dx, by omega, fin⟩
end
end KF
set_option maxRecDepth 100000
set_option maxHeartbeats 8000000
namespace KF
open PySem PySem.Spec PyProof.Rows L2
/-! ### everything put together -/
theorem def_mk {K : PySem.W.Frag} {h : Heap} {mg : Str → Option Value} {x : Str} {st : Stmt} {ps : List Str} {f : Addr} {oc : Value} {od an : Option Addr} {osl : Array (Option Value)} {kV doc pm cdv ct : Value} (X : K.In h) (G : h.Ns mainGlobals mg)
    (a : PySem.W.nsIn K mainGlobals x = some (some (.ref f))) (l : K.lookup f = some ⟨oc, od, .func (PySem.W.fnOf x x (defArgs st) (defBody st) (defScope st) .none kV doc pm an cdv ct), osl⟩) (c : PySem.W.codeIn K cdv x = true) (k : PySem.W.keepIn K (.ref f) = true)
    (hb : ∀ (kV doc pm : Value) (an : Option Addr) (cdv ct : Value) (us : List Value), us.length = ps.length → bindArgs (PySem.W.fnOf x x (defArgs st) (defBody st) (defScope st) .none kV doc pm an cdv ct) ⟨us, []⟩ = pure (ps.zip us)) :
    DefOk K mg x st ps f (PySem.W.fnOf x x (defArgs st) (defBody st) (defScope st) .none kV doc pm an cdv ct) := ⟨fun_mk l c k, (fun_mk l c k).binds hb, PySem.W.mg_of X G a⟩
/-- a table of promises -/
def look : List (Addr × Sp) → Addr → Option Sp
  | [], _ => none
  | p :: r, x => if x = p.1 then some p.2 else look r x
theorem look_mem {x : Addr} {sp : Sp} : ∀ {t : List (Addr × Sp)}, look t x = some sp → (x, sp) ∈ t
  | [], h => by cases h
  | p :: r, h => by
    unfold look at h
    split at h
    · rename_i e
      cases h
      rw [e]
      exact List.mem_cons_self
    · exact List.mem_cons_of_mem _ (look_mem h)
theorem look_at {x : Addr} {sp : Sp} : ∀ {t : List (Addr × Sp)}, (t.map (·.1)).Nodup → (x, sp) ∈ t → look t x = some sp
  | [], _, h => by cases h
  | p :: r, nd, h => by
    rw [List.map_cons, List.nodup_cons] at nd
    unfold look
    rcases List.mem_cons.mp h with e | h
    · rw [← e, if_pos rfl]
    · rw [if_neg (fun e => nd.1 (List.mem_map.mpr ⟨(x, sp), h, e⟩))]
      exact look_at nd.2 h
theorem all_mk {l : PySem.W.OpenLaw} {w : World} {K : PySem.W.Frag} {h : Heap} {mg : Str → Option Value} {u6 u7 : Tok} {fa dC f_isint f_btw f_name f_tup f_asc f_part f_next f_isstate f_states f_names f_quest f_takes f_asub f_awd f_aarr f_awalk f_acyc f_amat f_aperm f_atree f_astr f_lets f_acho f_query f_deck f_draw f_pick f_many f_order f_size f_counts f_string f_rows f_walks f_one f_two f_sets f_steps f_law : Addr} {d_isint d_btw d_name d_tup d_asc d_part d_next d_isstate d_states d_names d_quest d_takes d_asub d_awd d_aarr d_awalk d_acyc d_amat d_aperm d_atree d_astr d_lets d_acho d_query d_deck d_draw d_pick d_many d_order d_size d_counts d_string d_rows d_walks d_one d_two d_sets d_steps d_law : FuncData} {esC : Array DictEntry} {mC : Nat} (X : K.In h) (G : h.Ns mainGlobals mg) (hfa : mg "law" = some (.ref fa))
    (n0 : PySem.W.nsIn K mainGlobals "isinstance" = some none)
    (n1 : PySem.W.nsIn K mainGlobals "int" = some none)
    (n2 : PySem.W.nsIn K mainGlobals "bool" = some none)
    (n3 : PySem.W.nsIn K mainGlobals "str" = some none)
    (n4 : PySem.W.nsIn K mainGlobals "tuple" = some none)
    (n5 : PySem.W.nsIn K mainGlobals "len" = some none)
    (n6 : PySem.W.nsIn K mainGlobals "list" = some none)
    (n7 : PySem.W.nsIn K mainGlobals "range" = some none)
    (n8 : PySem.W.nsIn K mainGlobals "repr" = some none)
    (n9 : PySem.W.nsIn K mainGlobals "all" = some none)
    (n10 : PySem.W.nsIn K mainGlobals "any" = some none)
    (n11 : PySem.W.nsIn K mainGlobals "zip" = some none)
    (n12 : PySem.W.nsIn K mainGlobals "sum" = some none)
    (n13 : PySem.W.nsIn K mainGlobals "enumerate" = some none)
    (n14 : PySem.W.nsIn K mainGlobals "dict" = some none)
    (nmn : PySem.W.nsIn K mainGlobals "min" = some none)
    (nmx : PySem.W.nsIn K mainGlobals "max" = some none)
    (eS : PySem.W.nsIn K cStatics "sys.int_max_str_digits" = some none)
    (c6 : PySem.W.nsIn K mainGlobals "LONGEST_NAME" = some (some (.int 6 u6)))
    (c7 : PySem.W.nsIn K mainGlobals "LAST_STATE" = some (some (.int 7 u7)))
    (o_isint : DefOk K mg "is_integer" sIsInt ["value"] f_isint d_isint)
    (o_btw : DefOk K mg "is_between" sBtw ["value", "low", "high"] f_btw d_btw)
    (o_name : DefOk K mg "is_name" sName ["value"] f_name d_name)
    (o_tup : DefOk K mg "is_tuple" sTup ["value", "least", "most"] f_tup d_tup)
    (o_asc : DefOk K mg "is_ascending" sAsc ["items"] f_asc d_asc)
    (o_part : DefOk K mg "part_at" s_part ["space", "path"] f_part d_part)
    (o_next : DefOk K mg "next_part" s_next ["part", "step"] f_next d_next)
    (o_isstate : DefOk K mg "is_state" sIsState ["value"] f_isstate d_isstate)
    (o_states : DefOk K mg "are_states" sAreStates ["value"] f_states d_states)
    (o_names : DefOk K mg "names_of" sNames ["order"] f_names d_names)
    (o_quest : DefOk K mg "is_question" s_quest ["part", "question"] f_quest d_quest)
    (o_takes : DefOk K mg "takes_index" s_takes ["tops", "word", "arguments"] f_takes d_takes)
    (o_asub : DefOk K mg "asks_subset" s_asubset ["part", "word", "arguments"] f_asub d_asub)
    (o_awd : DefOk K mg "asks_word" s_aword ["part", "word", "arguments"] f_awd d_awd)
    (o_aarr : DefOk K mg "asks_arrangement" s_aarr ["part", "word", "arguments"] f_aarr d_aarr)
    (o_awalk : DefOk K mg "asks_walk" s_awalk ["part", "word", "arguments"] f_awalk d_awalk)
    (o_acyc : DefOk K mg "asks_cycle" s_acycle ["part", "word", "arguments"] f_acyc d_acyc)
    (o_amat : DefOk K mg "asks_matching" s_amatch ["part", "word", "arguments"] f_amat d_amat)
    (o_aperm : DefOk K mg "asks_permutation" s_aperm ["part", "word", "arguments"] f_aperm d_aperm)
    (o_atree : DefOk K mg "asks_tree" s_atree ["part", "word", "arguments"] f_atree d_atree)
    (o_astr : DefOk K mg "asks_string" s_astr ["part", "word", "arguments"] f_astr d_astr)
    (o_lets : DefOk K mg "are_letters" s_lets ["value"] f_lets d_lets)
    (o_acho : DefOk K mg "asks_choice" s_achoice ["part", "word", "arguments"] f_acho d_acho)
    (o_query : DefOk K mg "is_query" s_query ["space", "value"] f_query d_query)
    (o_deck : DefOk K mg "_law_deck" sDeck ["_law_script"] f_deck d_deck)
    (o_draw : DefOk K mg "_law_draw" sDraw ["_law_deck_here", "_law_bound"] f_draw d_draw)
    (o_pick : DefOk K mg "_law_pick" sPick ["_law_deck_here", "_law_items"] f_pick d_pick)
    (o_many : DefOk K mg "_law_many_names" s_many ["_law_count"] f_many d_many)
    (o_order : DefOk K mg "_law_order" s_order ["_law_names", "_law_depth"] f_order d_order)
    (o_size : DefOk K mg "_law_size" s_size ["_law_deck_here", "_law_most"] f_size d_size)
    (o_counts : DefOk K mg "_law_counts" s_counts ["_law_deck_here"] f_counts d_counts)
    (o_string : DefOk K mg "_law_string" s_string ["_law_deck_here"] f_string d_string)
    (o_rows : DefOk K mg "_law_rows" s_rows ["_law_deck_here"] f_rows d_rows)
    (o_walks : DefOk K mg "_law_walks" s_walks ["_law_deck_here"] f_walks d_walks)
    (o_one : DefOk K mg "_law_one_right" s_one ["_law_deck_here", "_law_space", "_law_words"] f_one d_one)
    (o_two : DefOk K mg "_law_two_right" s_two ["_law_deck_here", "_law_space", "_law_word", "_law_before", "_law_first", "_law_last"] f_two d_two)
    (o_sets : DefOk K mg "_law_sets_right" s_sets ["_law_space"] f_sets d_sets)
    (o_steps : DefOk K mg "_law_steps_right" s_steps ["_law_deck_here"] f_steps d_steps)
    (o_law : DefOk K mg "law" s_law ["_law_script"] f_law d_law)
    (gC : PySem.W.nsIn K mainGlobals "CHECKS" = some (some (.ref dC)))
    (aC : K.lookup dC = some ⟨.type "dict", none, .dict esC mC, #[]⟩)
    (kC : PySem.W.KeysLit w.params esC.toList)
    (wC : (dC == sysModules) = false)
    (r1 : PySem.W.nsIn K dC "subset" = some (some (.ref f_asub)))
    (r2 : PySem.W.nsIn K dC "word" = some (some (.ref f_awd)))
    (r3 : PySem.W.nsIn K dC "arrangement" = some (some (.ref f_aarr)))
    (r4 : PySem.W.nsIn K dC "walk" = some (some (.ref f_awalk)))
    (r5 : PySem.W.nsIn K dC "cycle" = some (some (.ref f_acyc)))
    (r6 : PySem.W.nsIn K dC "matching" = some (some (.ref f_amat)))
    (r7 : PySem.W.nsIn K dC "permutation" = some (some (.ref f_aperm)))
    (r8 : PySem.W.nsIn K dC "tree" = some (some (.ref f_atree)))
    (r9 : PySem.W.nsIn K dC "string" = some (some (.ref f_astr)))
    (r10 : PySem.W.nsIn K dC "choice" = some (some (.ref f_acho)))
    (r11 : PySem.W.nsIn K dC "decorated" = some (some (.ref f_awd)))
    (m1 : PySem.W.nsIn K dC "product" = some none)
    (m2 : PySem.W.nsIn K dC "power" = some none)
    (nd : [f_asub, f_awd, f_aarr, f_awalk, f_acyc, f_amat, f_aperm, f_atree, f_astr, f_acho].Nodup)
    (hbind : ∀ (s : Shared) (u : Value), BindsTo s d_law ⟨[u], []⟩ [("_law_script", u)]) :
    ∃ fd : FuncData, (∀ (s : Shared) (u : Value), BindsTo s fd ⟨[u], []⟩ [("_law_script", u)]) ∧ ∀ base : Heap, K.In base → base.Ns mainGlobals mg → FnG l.prog w K mg base 12 fa fd ["_law_script"] (spLaw K) := by
  have e := hfa.symm.trans o_law.g
  cases e
  have T : Nm mg := ⟨PySem.W.mg_none_of X G n0, PySem.W.mg_none_of X G n1, PySem.W.mg_none_of X G n2, PySem.W.mg_none_of X G n3, PySem.W.mg_none_of X G n4, PySem.W.mg_none_of X G n5, PySem.W.mg_none_of X G n6, PySem.W.mg_none_of X G n7, PySem.W.mg_none_of X G n8, PySem.W.mg_none_of X G n9, PySem.W.mg_none_of X G n10, PySem.W.mg_none_of X G n11, PySem.W.mg_none_of X G n12, PySem.W.mg_none_of X G n13, PySem.W.mg_none_of X G n14⟩
  have hmn : mg "min" = none := PySem.W.mg_none_of X G nmn
  have hmx : mg "max" = none := PySem.W.mg_none_of X G nmx
  have z6 : ∃ t, mg "LONGEST_NAME" = some (.int 6 t) := ⟨_, PySem.W.mg_of X G c6⟩
  have z7 : ∃ t, mg "LAST_STATE" = some (.int 7 t) := ⟨_, PySem.W.mg_of X G c7⟩
  refine ⟨d_law, hbind, fun base _ _ => ?_⟩
  have GB : FnOk l.prog w K mg base CX0 2 f_btw d_btw ["value", "low", "high"] spBtw := ok_btw o_btw.F T o_isint
  have GTu : FnOk l.prog w K mg base CX0 1 f_tup d_tup ["value", "least", "most"] spTup := ok_tup o_tup.F T
  have GNm : FnOk l.prog w K mg base CX0 1 f_name d_name ["value"] (spP nameB) := ok_name o_name.F T z6
  have GAs : FnOk l.prog w K mg base CX0 1 f_asc d_asc ["items"] (fun vs H Q E => spAsc vs H Q E ∧ ∀ a xs, (H a = some (.lst xs) ∨ H a = some (.tup xs)) → vs = [.ref a] → xs.length < 1000000) := ok_asc o_asc.F T
  have GSt : FnOk l.prog w K mg base CX0 3 f_isstate d_isstate ["value"] (spP (btw 0 7)) := ok_state o_isstate.F z7 o_btw GB
  have GSs : FnOk l.prog w K mg base CX0 4 f_states d_states ["value"] (spP statesB) := ok_states o_states.F T z7 o_tup o_asc GTu GAs o_isstate GSt
  have GNa : FnOk l.prog w K mg base CX0 7 f_names d_names ["order"] (spNames 6) := ok_names o_names.F o_names.b o_names.g 6
  have GLt : FnOk l.prog w K mg base CX0 2 f_lets d_lets ["value"] spLets := ok_lets o_lets.F T o_name o_asc GNm GAs
  have GN : FnOk l.prog w K mg base CX0 3 f_next d_next ["part", "step"] (spNext Y15) := ok_next o_next.F T o_tup o_btw GB
  have GP : FnOk l.prog w K mg base CX0 4 f_part d_part ["space", "path"] (spPart Y15) := ok_part o_part.F T o_next GN
  have GT : FnOk l.prog w K mg base CX0 3 f_takes d_takes ["tops", "word", "arguments"] spTakes := ok_takes o_takes.F T o_btw GB
  have H1 : FnOk l.prog w K mg base CX0 8 f_asub d_asub ["part", "word", "arguments"] aSub := fn_ex fun x : Nat × Nat => (fn_short (ok_asubset o_asub.F o_takes GT)).mono (by decide)
  have H2 : FnOk l.prog w K mg base CX0 8 f_awd d_awd ["part", "word", "arguments"] aWord := fn_ex fun cs : { cs : Cn // cs.length ≤ 100 } => (fn_short (ok_aword o_awd.F T o_takes GT o_btw GB cs.2)).mono (by decide)
  have H3 : FnOk l.prog w K mg base CX0 8 f_aarr d_aarr ["part", "word", "arguments"] aArr := fn_ex fun o : PyData => fn_short (ok_aarr o_aarr.F T o_takes GT o_names GNa)
  have H4 : FnOk l.prog w K mg base CX0 8 f_awalk d_awalk ["part", "word", "arguments"] aWalk := fn_ex fun x : Int × Int × Int => (fn_short (ok_awalk o_awalk.F T o_takes GT o_btw GB o_isint)).mono (by decide)
  have H5 : FnOk l.prog w K mg base CX0 8 f_acyc d_acyc ["part", "word", "arguments"] aCyc := fn_ex fun n : Int => (fn_short (ok_acycle o_acyc.F o_takes GT)).mono (by decide)
  have H6 : FnOk l.prog w K mg base CX0 8 f_amat d_amat ["part", "word", "arguments"] aMat := fn_ex fun n : { n : Int // 0 ≤ n ∧ n ≤ 1000 } => (fn_short (ok_amatch o_amat.F o_takes GT n.2)).mono (by decide)
  have H7 : FnOk l.prog w K mg base CX0 8 f_aperm d_aperm ["part", "word", "arguments"] aPerm := fn_ex fun n : Int => (fn_short (ok_aperm o_aperm.F o_takes GT)).mono (by decide)
  have H8 : FnOk l.prog w K mg base CX0 8 f_atree d_atree ["part", "word", "arguments"] aTree := fn_ex fun n : Int => (fn_short (ok_atree o_atree.F o_takes GT)).mono (by decide)
  have H9 : FnOk l.prog w K mg base CX0 8 f_astr d_astr ["part", "word", "arguments"] aStr := fn_ex fun n : Int => (ok_astr o_astr.F T o_takes GT o_btw GB o_lets GLt o_states GSs).mono (by decide)
  have H10 : FnOk l.prog w K mg base CX0 8 f_acho d_acho ["part", "word", "arguments"] aCho := (fn_short (ok_achoice o_acho.F T)).mono (by decide)
  have nd' : ((([(f_asub, aSub), (f_awd, aWord), (f_aarr, aArr), (f_awalk, aWalk), (f_acyc, aCyc), (f_amat, aMat), (f_aperm, aPerm), (f_atree, aTree), (f_astr, aStr), (f_acho, aCho)] : List (Addr × Sp))).map (·.1)).Nodup := nd
  have Z : Tab l.prog w K mg base dC (look [(f_asub, aSub), (f_awd, aWord), (f_aarr, aArr), (f_awalk, aWalk), (f_acyc, aCyc), (f_amat, aMat), (f_aperm, aPerm), (f_atree, aTree), (f_astr, aStr), (f_acho, aCho)]) := {
    Z := {
      g := PySem.W.mg_of X G gC
      k := ⟨_, _, aC, kC, wC⟩
      held := fun f sp hs => by
        have hm := look_mem hs
        simp only [List.mem_cons, List.not_mem_nil, or_false] at hm
        rcases hm with e | e | e | e | e | e | e | e | e | e
        · cases e
          exact ⟨_, _, H1, o_asub.F.kp, o_asub.b⟩
        · cases e
          exact ⟨_, _, H2, o_awd.F.kp, o_awd.b⟩
        · cases e
          exact ⟨_, _, H3, o_aarr.F.kp, o_aarr.b⟩
        · cases e
          exact ⟨_, _, H4, o_awalk.F.kp, o_awalk.b⟩
        · cases e
          exact ⟨_, _, H5, o_acyc.F.kp, o_acyc.b⟩
        · cases e
          exact ⟨_, _, H6, o_amat.F.kp, o_amat.b⟩
        · cases e
          exact ⟨_, _, H7, o_aperm.F.kp, o_aperm.b⟩
        · cases e
          exact ⟨_, _, H8, o_atree.F.kp, o_atree.b⟩
        · cases e
          exact ⟨_, _, H9, o_astr.F.kp, o_astr.b⟩
        · cases e
          exact ⟨_, _, H10, o_acho.F.kp, o_acho.b⟩
    }
    n1 := m1
    n2 := m2
    s1 := ⟨_, r1, look_at nd' (by simp)⟩
    s2 := ⟨_, r2, look_at nd' (by simp)⟩
    s3 := ⟨_, r3, look_at nd' (by simp)⟩
    s4 := ⟨_, r4, look_at nd' (by simp)⟩
    s5 := ⟨_, r5, look_at nd' (by simp)⟩
    s6 := ⟨_, r6, look_at nd' (by simp)⟩
    s7 := ⟨_, r7, look_at nd' (by simp)⟩
    s8 := ⟨_, r8, look_at nd' (by simp)⟩
    s9 := ⟨_, r9, look_at nd' (by simp)⟩
    s10 := ⟨_, r10, look_at nd' (by simp)⟩
    s11 := ⟨_, r11, look_at nd' (by simp)⟩ }
  have GQ : FnOk l.prog w K mg base CX0 9 f_quest d_quest ["part", "question"] (spQuestI Y15) := ok_questI o_quest.F T Z
  have GY : FnOk l.prog w K mg base CX0 10 f_query d_query ["space", "value"] (spQuery Y15) := ok_query o_query.F T o_part GP o_quest GQ
  have GK : FnOk l.prog w K mg base CX0 2 f_pick d_pick ["_law_deck_here", "_law_items"] spPick := ok_pick o_pick.F T o_draw.F o_draw.b o_draw.g
  have Gsz : FnOk l.prog w K mg base CX0 3 f_size d_size ["_law_deck_here", "_law_most"] spSize := ok_size o_size.F o_pick GK o_draw
  have Gct : FnOk l.prog w K mg base CX0 2 f_counts d_counts ["_law_deck_here"] spCounts := ok_counts o_counts.F T hmx o_draw
  have Gmn : FnOk l.prog w K mg base CX0 1 f_many d_many ["_law_count"] spMany := ok_many o_many.F T
  have God : FnOk l.prog w K mg base CX0 6 f_order d_order ["_law_names", "_law_depth"] (spOrd 5) := okl_order o_order.F o_order.b o_order.g T 5 base
  have Gst : FnOk l.prog w K mg base CX0 3 f_string d_string ["_law_deck_here"] spString := ok_string o_string.F T o_pick GK o_draw
  have Grw : FnOk l.prog w K mg base CX0 7 f_rows d_rows ["_law_deck_here"] spRows := ok_rows o_rows.F T o_pick o_draw o_size o_counts o_many o_order o_string GK Gsz Gct Gmn God Gst
  have Gwk : FnOk l.prog w K mg base CX0 3 f_walks d_walks ["_law_deck_here"] spWalks := ok_walks o_walks.F T hmn hmx o_pick o_draw GK
  exact ok_law o_law.F T o_deck o_rows o_walks o_query o_one o_two o_sets o_steps Grw Gwk GY (ok_one o_one.F T eS o_draw o_query GY) (ok_two o_two.F T eS o_draw o_query GY) (ok_sets o_sets.F T eS o_query GY) (ok_steps o_steps.F T eS o_draw o_size o_counts o_query Gsz Gct GY)
theorem law_sp (K : PySem.W.Frag) (H : Hp) (a : Addr) (ns : List Int) (hl : ns.length ≤ 63) (_ : Only H) (hS : SqL K H a (ns.map V.int)) : spLaw K [.ref a] H (fun v _ => v = .bl true) fun _ _ _ => False := ⟨a, ns, rfl, hS, hl, fun _ => rfl⟩
end KF
open PySem PySem.W PyProof.Rows
set_option maxRecDepth 100000 in
set_option maxHeartbeats 0 in
theorem PySem.Challenge.cw_undrawn_k15_queries_at_the_limits_holds : PySem.Challenge.rw_undrawn_k15_queries_at_the_limits.Holds := by
  w_on; o_law; k_head; (case hw => w_witness2)
  k_fill
  refine L2.walk_G (l := PySem.Challenge.rw_undrawn_k15_queries_at_the_limits) (n := 63) (k := 12) (x := "_law_script") (sp := KF.spLaw) rfl (by decide) rfl ⟨rfl, by decide, by decide⟩ (fun w h Y => PySem.W.kIn_of Y) ?F KF.law_sp
  case F =>
    intro w mg fa h KX G hmg
    refine' KF.all_mk KX G hmg ?n0 ?n1 ?n2 ?n3 ?n4 ?n5 ?n6 ?n7 ?n8 ?n9 ?n10 ?n11 ?n12 ?n13 ?n14 ?nmn ?nmx ?eS ?c6 ?c7 ?o_isint ?o_btw ?o_name ?o_tup ?o_asc ?o_part ?o_next ?o_isstate ?o_states ?o_names ?o_quest ?o_takes ?o_asub ?o_awd ?o_aarr ?o_awalk ?o_acyc ?o_amat ?o_aperm ?o_atree ?o_astr ?o_lets ?o_acho ?o_query ?o_deck ?o_draw ?o_pick ?o_many ?o_order ?o_size ?o_counts ?o_string ?o_rows ?o_walks ?o_one ?o_two ?o_sets ?o_steps ?o_law ?gC ?aC ?kC ?wC ?r1 ?r2 ?r3 ?r4 ?r5 ?r6 ?r7 ?r8 ?r9 ?r10 ?r11 ?m1 ?m2 ?nd ?hbind
    (case n0 => k_is)
    (case n1 => k_is)
    (case n2 => k_is)
    (case n3 => k_is)
    (case n4 => k_is)
    (case n5 => k_is)
    (case n6 => k_is)
    (case n7 => k_is)
    (case n8 => k_is)
    (case n9 => k_is)
    (case n10 => k_is)
    (case n11 => k_is)
    (case n12 => k_is)
    (case n13 => k_is)
    (case n14 => k_is)
    (case nmn => k_is)
    (case nmx => k_is)
    (case eS => k_is)
    (case c6 => k_is)
    (case c7 => k_is)
    (case o_isint => refine' KF.def_mk KX G ?a ?l ?c ?k (fun _ _ _ _ _ _ us hl => match us, hl with | [_], _ => rfl); (case a => k_is); (case l => k_is); (case c => k_is); (case k => k_is))
    (case o_btw => refine' KF.def_mk KX G ?a ?l ?c ?k (fun _ _ _ _ _ _ us hl => match us, hl with | [_, _, _], _ => rfl); (case a => k_is); (case l => k_is); (case c => k_is); (case k => k_is))
    (case o_name => refine' KF.def_mk KX G ?a ?l ?c ?k (fun _ _ _ _ _ _ us hl => match us, hl with | [_], _ => rfl); (case a => k_is); (case l => k_is); (case c => k_is); (case k => k_is))
    (case o_tup => refine' KF.def_mk KX G ?a ?l ?c ?k (fun _ _ _ _ _ _ us hl => match us, hl with | [_, _, _], _ => rfl); (case a => k_is); (case l => k_is); (case c => k_is); (case k => k_is))
    (case o_asc => refine' KF.def_mk KX G ?a ?l ?c ?k (fun _ _ _ _ _ _ us hl => match us, hl with | [_], _ => rfl); (case a => k_is); (case l => k_is); (case c => k_is); (case k => k_is))
    (case o_part => refine' KF.def_mk KX G ?a ?l ?c ?k (fun _ _ _ _ _ _ us hl => match us, hl with | [_, _], _ => rfl); (case a => k_is); (case l => k_is); (case c => k_is); (case k => k_is))
    (case o_next => refine' KF.def_mk KX G ?a ?l ?c ?k (fun _ _ _ _ _ _ us hl => match us, hl with | [_, _], _ => rfl); (case a => k_is); (case l => k_is); (case c => k_is); (case k => k_is))
    (case o_isstate => refine' KF.def_mk KX G ?a ?l ?c ?k (fun _ _ _ _ _ _ us hl => match us, hl with | [_], _ => rfl); (case a => k_is); (case l => k_is); (case c => k_is); (case k => k_is))
    (case o_states => refine' KF.def_mk KX G ?a ?l ?c ?k (fun _ _ _ _ _ _ us hl => match us, hl with | [_], _ => rfl); (case a => k_is); (case l => k_is); (case c => k_is); (case k => k_is))
    (case o_names => refine' KF.def_mk KX G ?a ?l ?c ?k (fun _ _ _ _ _ _ us hl => match us, hl with | [_], _ => rfl); (case a => k_is); (case l => k_is); (case c => k_is); (case k => k_is))
    (case o_quest => refine' KF.def_mk KX G ?a ?l ?c ?k (fun _ _ _ _ _ _ us hl => match us, hl with | [_, _], _ => rfl); (case a => k_is); (case l => k_is); (case c => k_is); (case k => k_is))
    (case o_takes => refine' KF.def_mk KX G ?a ?l ?c ?k (fun _ _ _ _ _ _ us hl => match us, hl with | [_, _, _], _ => rfl); (case a => k_is); (case l => k_is); (case c => k_is); (case k => k_is))
    (case o_asub => refine' KF.def_mk KX G ?a ?l ?c ?k (fun _ _ _ _ _ _ us hl => match us, hl with | [_, _, _], _ => rfl); (case a => k_is); (case l => k_is); (case c => k_is); (case k => k_is))
    (case o_awd => refine' KF.def_mk KX G ?a ?l ?c ?k (fun _ _ _ _ _ _ us hl => match us, hl with | [_, _, _], _ => rfl); (case a => k_is); (case l => k_is); (case c => k_is); (case k => k_is))
    (case o_aarr => refine' KF.def_mk KX G ?a ?l ?c ?k (fun _ _ _ _ _ _ us hl => match us, hl with | [_, _, _], _ => rfl); (case a => k_is); (case l => k_is); (case c => k_is); (case k => k_is))
    (case o_awalk => refine' KF.def_mk KX G ?a ?l ?c ?k (fun _ _ _ _ _ _ us hl => match us, hl with | [_, _, _], _ => rfl); (case a => k_is); (case l => k_is); (case c => k_is); (case k => k_is))
    (case o_acyc => refine' KF.def_mk KX G ?a ?l ?c ?k (fun _ _ _ _ _ _ us hl => match us, hl with | [_, _, _], _ => rfl); (case a => k_is); (case l => k_is); (case c => k_is); (case k => k_is))
    (case o_amat => refine' KF.def_mk KX G ?a ?l ?c ?k (fun _ _ _ _ _ _ us hl => match us, hl with | [_, _, _], _ => rfl); (case a => k_is); (case l => k_is); (case c => k_is); (case k => k_is))
    (case o_aperm => refine' KF.def_mk KX G ?a ?l ?c ?k (fun _ _ _ _ _ _ us hl => match us, hl with | [_, _, _], _ => rfl); (case a => k_is); (case l => k_is); (case c => k_is); (case k => k_is))
    (case o_atree => refine' KF.def_mk KX G ?a ?l ?c ?k (fun _ _ _ _ _ _ us hl => match us, hl with | [_, _, _], _ => rfl); (case a => k_is); (case l => k_is); (case c => k_is); (case k => k_is))
    (case o_astr => refine' KF.def_mk KX G ?a ?l ?c ?k (fun _ _ _ _ _ _ us hl => match us, hl with | [_, _, _], _ => rfl); (case a => k_is); (case l => k_is); (case c => k_is); (case k => k_is))
    (case o_lets => refine' KF.def_mk KX G ?a ?l ?c ?k (fun _ _ _ _ _ _ us hl => match us, hl with | [_], _ => rfl); (case a => k_is); (case l => k_is); (case c => k_is); (case k => k_is))
    (case o_acho => refine' KF.def_mk KX G ?a ?l ?c ?k (fun _ _ _ _ _ _ us hl => match us, hl with | [_, _, _], _ => rfl); (case a => k_is); (case l => k_is); (case c => k_is); (case k => k_is))
    (case o_query => refine' KF.def_mk KX G ?a ?l ?c ?k (fun _ _ _ _ _ _ us hl => match us, hl with | [_, _], _ => rfl); (case a => k_is); (case l => k_is); (case c => k_is); (case k => k_is))
    (case o_deck => refine' KF.def_mk KX G ?a ?l ?c ?k (fun _ _ _ _ _ _ us hl => match us, hl with | [_], _ => rfl); (case a => k_is); (case l => k_is); (case c => k_is); (case k => k_is))
    (case o_draw => refine' KF.def_mk KX G ?a ?l ?c ?k (fun _ _ _ _ _ _ us hl => match us, hl with | [_, _], _ => rfl); (case a => k_is); (case l => k_is); (case c => k_is); (case k => k_is))
    (case o_pick => refine' KF.def_mk KX G ?a ?l ?c ?k (fun _ _ _ _ _ _ us hl => match us, hl with | [_, _], _ => rfl); (case a => k_is); (case l => k_is); (case c => k_is); (case k => k_is))
    (case o_many => refine' KF.def_mk KX G ?a ?l ?c ?k (fun _ _ _ _ _ _ us hl => match us, hl with | [_], _ => rfl); (case a => k_is); (case l => k_is); (case c => k_is); (case k => k_is))
    (case o_order => refine' KF.def_mk KX G ?a ?l ?c ?k (fun _ _ _ _ _ _ us hl => match us, hl with | [_, _], _ => rfl); (case a => k_is); (case l => k_is); (case c => k_is); (case k => k_is))
    (case o_size => refine' KF.def_mk KX G ?a ?l ?c ?k (fun _ _ _ _ _ _ us hl => match us, hl with | [_, _], _ => rfl); (case a => k_is); (case l => k_is); (case c => k_is); (case k => k_is))
    (case o_counts => refine' KF.def_mk KX G ?a ?l ?c ?k (fun _ _ _ _ _ _ us hl => match us, hl with | [_], _ => rfl); (case a => k_is); (case l => k_is); (case c => k_is); (case k => k_is))
    (case o_string => refine' KF.def_mk KX G ?a ?l ?c ?k (fun _ _ _ _ _ _ us hl => match us, hl with | [_], _ => rfl); (case a => k_is); (case l => k_is); (case c => k_is); (case k => k_is))
    (case o_rows => refine' KF.def_mk KX G ?a ?l ?c ?k (fun _ _ _ _ _ _ us hl => match us, hl with | [_], _ => rfl); (case a => k_is); (case l => k_is); (case c => k_is); (case k => k_is))
    (case o_walks => refine' KF.def_mk KX G ?a ?l ?c ?k (fun _ _ _ _ _ _ us hl => match us, hl with | [_], _ => rfl); (case a => k_is); (case l => k_is); (case c => k_is); (case k => k_is))
    (case o_one => refine' KF.def_mk KX G ?a ?l ?c ?k (fun _ _ _ _ _ _ us hl => match us, hl with | [_, _, _], _ => rfl); (case a => k_is); (case l => k_is); (case c => k_is); (case k => k_is))
    (case o_two => refine' KF.def_mk KX G ?a ?l ?c ?k (fun _ _ _ _ _ _ us hl => match us, hl with | [_, _, _, _, _, _], _ => rfl); (case a => k_is); (case l => k_is); (case c => k_is); (case k => k_is))
    (case o_sets => refine' KF.def_mk KX G ?a ?l ?c ?k (fun _ _ _ _ _ _ us hl => match us, hl with | [_], _ => rfl); (case a => k_is); (case l => k_is); (case c => k_is); (case k => k_is))
    (case o_steps => refine' KF.def_mk KX G ?a ?l ?c ?k (fun _ _ _ _ _ _ us hl => match us, hl with | [_], _ => rfl); (case a => k_is); (case l => k_is); (case c => k_is); (case k => k_is))
    (case o_law => refine' KF.def_mk KX G ?a ?l ?c ?k (fun _ _ _ _ _ _ us hl => match us, hl with | [_], _ => rfl); (case a => k_is); (case l => k_is); (case c => k_is); (case k => k_is))
    (case gC => k_is)
    (case aC => k_is)
    (case kC => k_keys)
    (case wC => decide)
    (case r1 => k_is)
    (case r2 => k_is)
    (case r3 => k_is)
    (case r4 => k_is)
    (case r5 => k_is)
    (case r6 => k_is)
    (case r7 => k_is)
    (case r8 => k_is)
    (case r9 => k_is)
    (case r10 => k_is)
    (case r11 => k_is)
    (case m1 => k_is)
    (case m2 => k_is)
    (case nd => decide)
    (case hbind => exact fun s u => .of_eq rfl)
