import PyProof.Rows.All
import Wide.All
import OpenK.AllK
import Wide.FinOn
import HandS.ForMost
import HandS.Style
import HandS.Codes
import HandS.Comp
import HandS.Iter
import HandS.Walk
import HandS.Text
import HandS.Zip
import HandS.IsInst
import HandS.TupAny
import KE.DataCmp
import PyProof.EqKinds
import HandS.Strs
import HandS.More
import HandS.CallLocal
import HandS.Wide
import HandS.WideBits
import KE.KMathGC
import HandS.Gcd
import HandS.Defaults
import HandS.Conv
import KE.DatumOrd
import HandS.TupLen
import PyProof.Rows.Digits
import HandS.TryMany
import HandS.ExcOwn
import HandS.WordsExc
import PyProof.ReprBulk
import PyProof.Rows.IntBool
import PyProof.Rows.EqBoolInt
import KE.KIntText
import HandS.FStr
import HandS.RaiseMore
import HandS.Small
import HandS.TupMul
import PySem.Challenge.RW_undrawn_k71_answer_texts
set_option Elab.async false
set_option linter.all false
set_option maxRecDepth 100000
set_option maxHeartbeats 4000000
namespace K7
open PySem PySem.Spec PyProof.Rows L2
/-! ### the text by places -/
def top (i : Nat) : Stmt := PySem.Challenge.pw_undrawn_k71_answer_texts.main.body.getD i (.Pass ⟨0, 0, 0, 0⟩)
/-! ### any value that is made of None, bools, ints, texts, tuples, lists, empty dicts -/
mutual
inductive Dat (H : Hp) : V → PyData → Prop
  | non : Dat H .non .none
  | bl (b : Bool) : Dat H (.bl b) (.bool b)
  | int (i : Int) : Dat H (.int i) (.int i)
  | str (x : Str) : x.length ≤ 1000 → Dat H (.str x) (.str x)
  | lst {a : Addr} {xs : List V} {ds : List PyData} : H a = some (.lst xs) → DatAll H xs ds → Dat H (.ref a) (.list ds)
  | tup {a : Addr} {xs : List V} {ds : List PyData} : H a = some (.tup xs) → DatAll H xs ds → Dat H (.ref a) (.tuple ds)
  | d0 {a : Addr} : H a = some (.dK []) → Dat H (.ref a) (.dict [])
inductive DatAll (H : Hp) : List V → List PyData → Prop
  | nil : DatAll H [] []
  | cons {v : V} {vs : List V} {d : PyData} {ds : List PyData} : Dat H v d → DatAll H vs ds → DatAll H (v :: vs) (d :: ds)
end
mutual
theorem Dat.same {H H' : Hp} (S : Same H H') : ∀ {v : V} {d : PyData}, Dat H v d → Dat H' v d
  | _, _, .non => .non
  | _, _, .bl b => .bl b
  | _, _, .int i => .int i
  | _, _, .str x h => .str x h
  | _, _, .lst h t => .lst (S _ _ h) (DatAll.same S t)
  | _, _, .tup h t => .tup (S _ _ h) (DatAll.same S t)
  | _, _, .d0 h => .d0 (S _ _ h)
theorem DatAll.same {H H' : Hp} (S : Same H H') : ∀ {vs : List V} {ds : List PyData}, DatAll H vs ds → DatAll H' vs ds
  | _, _, .nil => .nil
  | _, _, .cons h t => .cons (Dat.same S h) (DatAll.same S t)
end
theorem DatAll.len {H : Hp} : ∀ {vs : List V} {ds : List PyData}, DatAll H vs ds → vs.length = ds.length
  | _, _, .nil => rfl
  | _, _, .cons _ t => congrArg (· + 1) (DatAll.len t)
theorem DatAll.get {H : Hp} : ∀ {xs : List V} {ds : List PyData} {j : Nat} {x : V}, DatAll H xs ds → xs[j]? = some x → ∃ d, ds[j]? = some d ∧ Dat H x d
  | _, _, _, _, .nil, e => by simp at e
  | _, _, 0, _, .cons t _, e => by
    simp at e
    subst e
    exact ⟨_, rfl, t⟩
  | _, _, j + 1, x, .cons _ ts, e => by
    obtain ⟨d, h1, h2⟩ := DatAll.get (j := j) (x := x) ts (by simpa using e)
    exact ⟨d, by simpa using h1, h2⟩
theorem DatAll.at {H : Hp} : ∀ {xs : List V} {ds : List PyData} {j : Nat} {d : PyData}, DatAll H xs ds → ds[j]? = some d → ∃ x, xs[j]? = some x ∧ Dat H x d
  | _, _, _, _, .nil, e => by simp at e
  | _, _, 0, _, .cons t _, e => by
    simp at e
    subst e
    exact ⟨_, rfl, t⟩
  | _, _, j + 1, x, .cons _ ts, e => by
    obtain ⟨d, h1, h2⟩ := DatAll.at (j := j) (d := x) ts (by simpa using e)
    exact ⟨d, by simpa using h1, h2⟩
/-- the type's name -/
def tyD : PyData → String
  | .none => "NoneType"
  | .bool _ => "bool"
  | .int _ => "int"
  | .str _ => "str"
  | .list _ => "list"
  | .tuple _ => "tuple"
  | .dict _ => "dict"
theorem Dat.ty {K : PySem.W.Frag} {H : Hp} {v : V} {d : PyData} (h : Dat H v d) : TyX K H v (.type (tyD d)) := by
  cases h with
  | non => exact .base .non
  | bl b => exact .base (.bl b)
  | int i => exact .base (.int i)
  | str x _ => exact .base (.str x)
  | lst h _ => exact .base (.lst h)
  | tup h _ => exact .base (.tup h)
  | d0 h => exact .base (.dK h)
/-! ### what the small predicates say of such values -/
def isInt : PyData → Bool
  | .int _ => true
  | _ => false
def isBool : PyData → Bool
  | .bool _ => true
  | _ => false
def isStr : PyData → Bool
  | .str _ => true
  | _ => false
def isTup : PyData → Bool
  | .tuple _ => true
  | _ => false
/-- an int from lo to hi -/
def btw (lo hi : Int) : PyData → Bool
  | .int i => decide (lo ≤ i) && decide (i ≤ hi)
  | _ => false
theorem kit_int (K : PySem.W.Frag) (d : PyData) : PySem.W.kitOne K (.type (tyD d)) (.type "int") = some (isInt d || isBool d) := by
  cases d with
  | none => exact kit_ty (a := "NoneType") (b := "int") (r := false) (by decide +kernel)
  | bool b => exact kit_ty (a := "bool") (b := "int") (r := true) (by decide +kernel)
  | int i => exact kit_ty (a := "int") (b := "int") (r := true) (by decide +kernel)
  | str x => exact kit_ty (a := "str") (b := "int") (r := false) (by decide +kernel)
  | list l => exact kit_ty (a := "list") (b := "int") (r := false) (by decide +kernel)
  | tuple l => exact kit_ty (a := "tuple") (b := "int") (r := false) (by decide +kernel)
  | dict l => exact kit_ty (a := "dict") (b := "int") (r := false) (by decide +kernel)
theorem kit_bool (K : PySem.W.Frag) (d : PyData) : PySem.W.kitOne K (.type (tyD d)) (.type "bool") = some (isBool d) := by
  cases d with
  | none => exact kit_ty (a := "NoneType") (b := "bool") (r := false) (by decide +kernel)
  | bool b => exact kit_ty (a := "bool") (b := "bool") (r := true) (by decide +kernel)
  | int i => exact kit_ty (a := "int") (b := "bool") (r := false) (by decide +kernel)
  | str x => exact kit_ty (a := "str") (b := "bool") (r := false) (by decide +kernel)
  | list l => exact kit_ty (a := "list") (b := "bool") (r := false) (by decide +kernel)
  | tuple l => exact kit_ty (a := "tuple") (b := "bool") (r := false) (by decide +kernel)
  | dict l => exact kit_ty (a := "dict") (b := "bool") (r := false) (by decide +kernel)
theorem kit_str (K : PySem.W.Frag) (d : PyData) : PySem.W.kitOne K (.type (tyD d)) (.type "str") = some (isStr d) := by
  cases d with
  | none => exact kit_ty (a := "NoneType") (b := "str") (r := false) (by decide +kernel)
  | bool b => exact kit_ty (a := "bool") (b := "str") (r := false) (by decide +kernel)
  | int i => exact kit_ty (a := "int") (b := "str") (r := false) (by decide +kernel)
  | str x => exact kit_ty (a := "str") (b := "str") (r := true) (by decide +kernel)
  | list l => exact kit_ty (a := "list") (b := "str") (r := false) (by decide +kernel)
  | tuple l => exact kit_ty (a := "tuple") (b := "str") (r := false) (by decide +kernel)
  | dict l => exact kit_ty (a := "dict") (b := "str") (r := false) (by decide +kernel)
theorem kit_tuple (K : PySem.W.Frag) (d : PyData) : PySem.W.kitOne K (.type (tyD d)) (.type "tuple") = some (isTup d) := by
  cases d with
  | none => exact kit_ty (a := "NoneType") (b := "tuple") (r := false) (by decide +kernel)
  | bool b => exact kit_ty (a := "bool") (b := "tuple") (r := false) (by decide +kernel)
  | int i => exact kit_ty (a := "int") (b := "tuple") (r := false) (by decide +kernel)
  | str x => exact kit_ty (a := "str") (b := "tuple") (r := false) (by decide +kernel)
  | list l => exact kit_ty (a := "list") (b := "tuple") (r := false) (by decide +kernel)
  | tuple l => exact kit_ty (a := "tuple") (b := "tuple") (r := true) (by decide +kernel)
  | dict l => exact kit_ty (a := "dict") (b := "tuple") (r := false) (by decide +kernel)
structure Nm (mg : Str → Option Value) : Prop where
  isinstance : mg "isinstance" = none
  int : mg "int" = none
  bool : mg "bool" = none
  str : mg "str" = none
  tuple : mg "tuple" = none
  len : mg "len" = none
  list : mg "list" = none
  range : mg "range" = none
  repr : mg "repr" = none
structure DefOk (K : PySem.W.Frag) (mg : Str → Option Value) (x : Str) (st : Stmt) (ps : List Str) (f : Addr) (fd : FuncData) : Prop where
  F : Fun K x x st f fd
  b : L2.Binds K fd ps []
  g : mg x = some (.ref f)
theorem same_new {H : Hp} {p : Addr} {o : HO} (h : H p = none) : Same H (upd H p o) := fun b u e => by rw [upd_ne (ne_of_none e h)]; exact e
theorem if_t {c : Bool} {A B : Prop} (hc : c = true) (h : A) : if c = true then A else B := by
  rw [if_pos hc]
  exact h
theorem if_f {c : Bool} {A B : Prop} (hc : c = false) (h : B) : if c = true then A else B := by
  rw [hc, if_neg Bool.false_ne_true]
  exact h
theorem grow {H Hx : Hp} {D : Addr} {xs : List V} {y : V} (nD : H D = none) (S : Same H Hx) : Same H (upd Hx D (.lst (xs ++ [y]))) := fun b o e => by
  have bD : b ≠ D := fun z => by
    rw [z, nD] at e
    cases e
  rw [upd_ne bD]
  exact S _ _ e
theorem datAll_append {H : Hp} : ∀ {xs ys : List V} {ds es : List PyData}, DatAll H xs ds → DatAll H ys es → DatAll H (xs ++ ys) (ds ++ es)
  | _, _, _, _, .nil, t => t
  | _, _, _, _, .cons h t, u => .cons h (datAll_append t u)
theorem nat_of {i : Int} (h : 0 ≤ i) : ∃ j : Nat, i = j := ⟨i.toNat, by omega⟩
end K7
set_option maxRecDepth 100000
set_option maxHeartbeats 4000000
namespace K7
open PySem PySem.Spec PyProof.Rows L2
abbrev sDeck : Stmt := top 4
abbrev sDraw : Stmt := top 5
abbrev sPick : Stmt := top 6
/-! ### the deck of choices -/
/-- a deck at p: its cells at q, the mixed number m, the count c -/
structure DeckAt (H : Hp) (p q : Addr) (ns : List Int) (m c : Int) : Prop where
  ob : H p = some (.lst [.ref q, .int m, .int c])
  ce : H q = some (.lst (ns.map V.int))
  m0 : 0 ≤ m
  m1 : m < 2147483629
  c0 : 0 ≤ c
  c1 : c ≤ 1000000000
  ln : ns.length ≤ 63
theorem DeckAt.ne {H : Hp} {p q : Addr} {ns : List Int} {m c : Int} (D : DeckAt H p q ns m c) : p ≠ q := fun e => by
  have z := D.ce
  rw [← e, D.ob] at z
  have z' := Option.some.inj z
  injection z' with z''
  cases ns with
  | nil => cases z''
  | cons a l => injection z'' with y _; cases y
theorem DeckAt.same {H H' : Hp} {p q : Addr} {ns : List Int} {m c : Int} (D : DeckAt H p q ns m c) (S : Same H H') : DeckAt H' p q ns m c := ⟨S _ _ D.ob, S _ _ D.ce, D.m0, D.m1, D.c0, D.c1, D.ln⟩
/-- what was tracked, but at p and q -/
def Off (p q : Addr) (H H' : Hp) : Prop := ∀ b o, H b = some o → b ≠ p → b ≠ q → H' b = some o
theorem Off.of_same {p q : Addr} {H H' : Hp} (S : Same H H') : Off p q H H' := fun b o e _ _ => S b o e
theorem Off.trans {p q : Addr} {H H1 H2 : Hp} (a : Off p q H H1) (b : Off p q H1 H2) : Off p q H H2 := fun c o e h1 h2 => b c o (a c o e h1 h2) h1 h2
theorem Off.refl {p q : Addr} {H : Hp} : Off p q H H := fun _ _ e _ _ => e
theorem dp_ints {K : PySem.W.Frag} {H : Hp} : ∀ ns : List Int, DpAll K H (ns.map V.int) (ns.map PyData.int)
  | [] => .nil
  | a :: l => .cons (.int a) (dp_ints l)
theorem lay_ints : ∀ ns : List Int, PyData.canLayAll0 (ns.map PyData.int) = true
  | [] => by simp [PyData.canLayAll0]
  | a :: l => by simp [PyData.canLayAll0, PyData.canLay0, lay_ints l]
theorem depth_ints : ∀ ns : List Int, PyData.depthAll (ns.map PyData.int) = 0
  | [] => by simp [PyData.depthAll]
  | a :: l => by simp [PyData.depthAll, PyData.depth, depth_ints l]
theorem shaped_ints (ns : List Int) : SeqAt.shaped (.list (ns.map PyData.int)) = true := by
  have h2 : PyData.depth (.list (ns.map PyData.int)) ≤ 64 := by
    rw [PyData.depth, depth_ints]
    decide
  unfold SeqAt.shaped
  rw [Bool.and_eq_true, PyData.canLay0]
  exact ⟨lay_ints ns, decide_eq_true h2⟩
def spDeck (K : PySem.W.Frag) : Sp := fun vs H Q _ => ∃ (a : Addr) (ns : List Int), vs = [.ref a] ∧ SqL K H a (ns.map V.int) ∧ ns.length ≤ 63 ∧
  ∀ (p q : Addr) (ms : List Int) (m : Int) (H' : Hp), Same H H' → H p = none → H q = none → DeckAt H' p q ms m 0 → Q (.ref p) H'
def spDraw : Sp := fun vs H Q _ => ∃ (p q : Addr) (ns : List Int) (m c n : Int), vs = [.ref p, .int n] ∧ 0 < n ∧ n ≤ 1000000 ∧ DeckAt H p q ns m c ∧ c + 1 ≤ 1000000000 ∧
  ∀ (i : Int) (ns' : List Int) (H' : Hp), 0 ≤ i → i < n → Off p q H H' → DeckAt H' p q ns' m (c + 1) → Q (.int i) H'
section
variable {P : Program} {w : World} {K : PySem.W.Frag} {mg : Str → Option Value} {base : Heap}
theorem scDeck : FnScope ["_law_script", "_law_cells", "_law_mix", "_law_cell"] ["_law_script"] (defScope sDeck) := ⟨rfl, rfl, rfl, by decide +kernel, rfl, by decide +kernel, by decide +kernel⟩
theorem ok_deck {f : Addr} {fd : FuncData} (F : Fun K "_law_deck" "_law_deck" sDeck f fd) (T : Nm mg) (Tl : mg "list" = none) : FnOk P w K mg base CX0 1 f fd ["_law_script"] (spDeck K) := by
  refine F.ok scDeck (fun vs H Q E h => ?_) (fun cdv A outer s H vs Q E hr h => ?_)
  · obtain ⟨a, ns, rfl, _⟩ := h
    rfl
  · obtain ⟨a, ns, rfl, hS, hl, k⟩ := h
    refine ⟨_, pss_cons (ps_par (i := 1) (j := 2) rfl scDeck.nd rfl rfl (by decide) rfl rfl (pa_cons (pe_callTy call_list_of (by rfl) Tl (by decide +kernel) (pa_cons (pe_slice sl_list (pv 0) po_none (po_some pe_int)) pa_nil)) (pa_cons pe_int pa_nil)) (by rfl))
      (pss_cons (ps_for PassesOwn.never rfl (pi_list (pv 1)) (pg_name (i := 3) scDeck.nd rfl (Or.inl rfl))
        (pss_one (ps_set (i := 2) scDeck.nd rfl (Or.inl rfl) (pe_op op_mod (pe_op op_add (pe_op op_add (pe_op op_mul (pv 2) pe_int) (pe_op op_mod (pv 3) pe_int)) pe_int) pe_int))))
      (pss_one (ps_ret (pe_lst (pa_cons (pe_revL (pv 1)) (pa_cons (pv 2) (pa_cons pe_int pa_nil))))))), ?_⟩
    -- script[:63]; list(..)
    refine ⟨_, rfl, 63, rfl, a, _, rfl, hS, fun p1 np1 => ?_⟩
    have hcut : (cutV (ns.map V.int) none (some 63)).length ≤ 63 := by
      have z := cutV_length (ns.map V.int) none (some 63)
      rw [List.length_map] at z
      omega
    obtain ⟨cs, hcs, hcl⟩ : ∃ cs : List Int, cutV (ns.map V.int) none (some 63) = cs.map V.int ∧ cs.length ≤ 63 := by
      refine ⟨(ns.drop (HT.sIx ns.length 0 none)).take (HT.sIx ns.length ns.length (some 63) - HT.sIx ns.length 0 none), ?_, ?_⟩
      · unfold cutV
        rw [List.length_map, List.map_take, List.map_drop]
      · rw [List.length_take, List.length_drop]
        omega
    rw [hcs]
    refine ⟨p1, _, rfl, .inl (.inl (.inl upd_same)), fun q1 nq1 => ⟨_, _, rfl, ?_⟩⟩
    have s1 : Same H (upd (upd H p1 (.lst (cs.map V.int))) q1 (.lst (cs.map V.int))) := (same_new np1).trans (same_new nq1)
    -- the loop
    refine ⟨_, rfl, q1, rfl, ⟨_, .inl (.inl upd_same)⟩, for_list (K := K) (a := q1) (xs := cs.map V.int) (fun i σ H' => ∃ (m : Int) (v : Option V), σ = [some (.ref a), some (.ref q1), some (.int m), v] ∧ H' = upd (upd H p1 (.lst (cs.map V.int))) q1 (.lst (cs.map V.int)) ∧ 0 ≤ m ∧ m < 2147483629)
      ⟨66427, none, rfl, rfl, by decide, by decide⟩ (fun i σ H' _ ⟨_, _, _, e, _⟩ => by rw [e]; exact .inl (.inl upd_same)) ?_ ?_⟩
    · rintro i y σ H' hi ⟨m, v, rfl, rfl, h0, h1⟩
      obtain ⟨z, rfl⟩ : ∃ z, y = V.int z := by
        rw [List.getElem?_map] at hi
        cases e : cs[i]? with
        | none =>
          rw [e] at hi
          cases hi
        | some z =>
          rw [e] at hi
          exact ⟨z, (Option.some.inj hi).symm⟩
      refine ⟨_, rfl, _, _, rfl, rfl, .inl ⟨by omega, by omega⟩, ?_⟩
      refine ⟨_, rfl, _, _, rfl, rfl, (by decide : (0 : Int) < 2147483587), _, _, rfl, rfl, _, _, rfl, rfl, _, _, rfl, rfl, (by decide : (0 : Int) < 2147483629), ?_⟩
      exact ⟨_, _, rfl, rfl, Int.emod_nonneg _ (by decide), Int.emod_lt_of_pos _ (by decide)⟩
    · rintro σ H' ⟨m, v, rfl, rfl, h0, h1⟩
      refine ⟨_, rfl, q1, _, rfl, .inl (.inl upd_same), fun r1 nr1 => ⟨_, rfl, (by show 3 ≤ sizeLine; decide), fun d nd => ?_⟩⟩
      rw [← List.map_reverse] at nd ⊢
      refine k d r1 cs.reverse m _ ((s1.trans (same_new nr1)).trans (same_new nd)) ?_ ?_ ⟨upd_same, ?_, h0, h1, by decide, by decide, by rw [List.length_reverse]; exact hcl⟩
      · exact ((s1.trans (same_new nr1))).free nd
      · exact s1.free nr1
      · rw [upd_ne (ne_of_none upd_same nd), upd_same]
theorem scDraw : FnScope ["_law_deck_here", "_law_bound", "_law_cell", "_law_mixed"] ["_law_deck_here", "_law_bound"] (defScope sDraw) := ⟨rfl, rfl, rfl, by decide +kernel, rfl, by decide +kernel, by decide +kernel⟩
theorem ok_draw {f : Addr} {fd : FuncData} (F : Fun K "_law_draw" "_law_draw" sDraw f fd) : FnOk P w K mg base CX0 1 f fd ["_law_deck_here", "_law_bound"] spDraw := by
  refine F.ok scDraw (fun vs H Q E h => ?_) (fun cdv A outer s H vs Q E hr h => ?_)
  · obtain ⟨p, q, ns, m, c, n, rfl, _⟩ := h
    rfl
  · obtain ⟨p, q, ns, m, c, n, rfl, hn0, hn1, D, hc, k⟩ := h
    have hu := hr.units
    have hpq := D.ne
    refine ⟨_, pss_cons (ps_asg (pe_op op_add (pe_ix ix_list (pv 0) pe_int (fun _ _ => rfl)) pe_int) (pg_sub (pv 0) pe_int set_list (fun _ => rfl)))
      (pss_cons (ps_set (i := 2) scDraw.nd rfl (Or.inl rfl) (pe_ix ix_list (pv 0) pe_int (fun _ _ => rfl)))
      (C8.pss_cut (ps_if (pt_cmpR (op_neD hu) (pe_ix ix_list (pv 0) pe_int (fun _ _ => rfl)) (pe_lst pa_nil) (nomark _))
          (pss_cons (ps_set (i := 2) scDraw.nd rfl (Or.inl rfl) (pe_bm0 PySem.F.plainAttrs_list PySem.F.slot_list_pop PySem.F.type_list_pop mt_pop (pe_ix ix_list (pv 0) pe_int (fun _ _ => rfl))))
          (pss_cons (ps_if (pt_cmpR op_ge (pv 2) (pe_op op_pow pe_int pe_int) (nomark _))
              (pss_cons (ps_expr (pe_bm PySem.F.plainAttrs_list PySem.F.slot_list_append PySem.F.type_list_append mt_append (pe_ix ix_list (pv 0) pe_int (fun _ _ => rfl)) (pa_cons (pe_op op_fdivN (pv 2) (pv 1)) pa_nil)))
              (pss_one (ps_ret (pe_op op_mod (pv 2) (pv 1))))) pss_nil)
          (pss_one (ps_set (i := 2) scDraw.nd rfl (Or.inl rfl) (pe_op op_add (pv 2) (pe_ix ix_list (pv 0) pe_int (fun _ _ => rfl))))))) pss_nil)
      (pss_cons (ps_set (i := 3) scDraw.nd rfl (Or.inl rfl) (pe_op op_mod (pe_op op_mul (pe_op op_add (pe_op op_add (pe_op op_mod (pv 2) pe_int) (pe_op op_mul (pe_op op_mul pe_int (pe_ix ix_list (pv 0) pe_int (fun _ _ => rfl))) (pe_ix ix_list (pv 0) pe_int (fun _ _ => rfl)))) pe_int) pe_int) pe_int))
      (pss_cons (ps_set (i := 3) scDraw.nd rfl (Or.inl rfl) (pe_op op_mod (pe_op op_add (pe_op op_add (pe_op op_mul (pv 3) (pv 3)) (pe_op op_mul pe_int (pe_ix ix_list (pv 0) pe_int (fun _ _ => rfl)))) pe_int) pe_int))
      (pss_one (ps_ret (pe_op op_mod (pe_op op_fdiv (pe_op op_mod (pe_op op_mul (pv 3) pe_int) pe_int) pe_int) (pv 1)))))))), ?_⟩
    have c2 : ∀ {x y z : V}, atI [x, y, z] 2 = some z := fun {x y z} => atI_nat (xs := [x, y, z]) (j := 2) rfl
    have c1 : ∀ {x y z : V}, atI [x, y, z] 1 = some y := fun {x y z} => atI_nat (xs := [x, y, z]) (j := 1) rfl
    have c0 : ∀ {x y z : V}, atI [x, y, z] 0 = some x := fun {x y z} => atI_nat (xs := [x, y, z]) (j := 0) rfl
    -- deck[2] = deck[2] + 1
    refine ⟨_, rfl, p, _, _, _, rfl, rfl, SqL.of D.ob, c2, _, _, rfl, rfl, _, rfl, p, _, _, 2, rfl, rfl, D.ob, rfl, ?_⟩
    have eset : ([V.ref q, V.int m, V.int c].set 2 (V.int (c + 1))) = [V.ref q, V.int m, V.int (c + 1)] := rfl
    rw [eset]
    have D1 : DeckAt (upd H p (.lst [.ref q, .int m, .int (c + 1)])) p q ns m (c + 1) :=
      ⟨upd_same, by rw [upd_ne hpq.symm]; exact D.ce, D.m0, D.m1, by have := D.c0; omega, hc, D.ln⟩
    have off1 : Off p q H (upd H p (.lst [.ref q, .int m, .int (c + 1)])) := fun b o e h1 _ => by rw [upd_ne h1]; exact e
    -- cell = deck[1]
    refine ⟨_, rfl, p, _, _, _, rfl, rfl, SqL.of D1.ob, c1, ?_⟩
    -- if deck[0] != []: .. ; what follows holds for any cell
    refine ⟨fun σ H' => ∃ (z : Int) (ns' : List Int), σ = [some (.ref p), some (.int n), some (.int z), none] ∧ Off p q H H' ∧ DeckAt H' p q ns' m (c + 1), ?_, ?_⟩
    · refine ⟨_, rfl, p, _, _, _, rfl, rfl, SqL.of D1.ob, c0, (by show 0 ≤ sizeLine; decide), fun e ne => ?_⟩
      have D2 : DeckAt (upd (upd H p (.lst [.ref q, .int m, .int (c + 1)])) e (.lst [])) p q ns m (c + 1) := D1.same (same_new ne)
      have off2 : Off p q H (upd (upd H p (.lst [.ref q, .int m, .int (c + 1)])) e (.lst [])) := off1.trans (.of_same (same_new ne))
      refine ⟨.list (ns.map .int), .list [], .lst (SqL.of D2.ce) (dp_ints ns), .lst (SqL.of upd_same) .nil, shaped_ints ns, shaped_ints [], _, rfl, ?_⟩
      generalize hH2 : upd (upd H p (.lst [.ref q, .int m, .int (c + 1)])) e (.lst []) = H2 at D2 off2 ⊢
      cases hns : ns with
      | nil =>
        have e0 : PyData.eqv (.list (([] : List Int).map PyData.int)) (.list []) = true := by simp [PyData.eqv, PyData.eqvAll]
        rw [e0]
        refine iteF ?_
        exact ⟨m, [], rfl, off2, by rw [hns] at D2; exact D2⟩
      | cons a l =>
        have e0 : PyData.eqv (.list ((a :: l).map PyData.int)) (.list []) = false := by simp [PyData.eqv, PyData.eqvAll]
        rw [e0]
        refine iteT ?_
        rw [hns] at D2
        -- cell = deck[0].pop()
        obtain ⟨l', z, hz⟩ : ∃ (l' : List Int) (z : Int), a :: l = l' ++ [z] := ⟨(a :: l).dropLast, (a :: l).getLast (by simp), (List.dropLast_concat_getLast (by simp)).symm⟩
        rw [hz] at D2
        have hln : l'.length + 1 ≤ 63 := by
          have z1 := D2.ln
          rw [List.length_append] at z1
          exact z1
        have elast : ((l' ++ [z]).map V.int)[((l' ++ [z]).map V.int).length - 1]? = some (.int z) := by simp
        have edrop : ((l' ++ [z]).map V.int).dropLast = l'.map V.int := by simp
        refine ⟨_, rfl, p, _, _, _, rfl, rfl, SqL.of D2.ob, c0, .inl ⟨rfl, _, SqL.of D2.ce⟩, q, _, _, rfl, rfl, D2.ce, elast, ?_⟩
        rw [edrop]
        have D3 : DeckAt (upd H2 q (.lst (l'.map V.int))) p q l' m (c + 1) := ⟨by rw [upd_ne hpq]; exact D2.ob, upd_same, D2.m0, D2.m1, D2.c0, D2.c1, by omega⟩
        have off3 : Off p q H (upd H2 q (.lst (l'.map V.int))) := off2.trans fun b o e _ h2 => by rw [upd_ne h2]; exact e
        generalize upd H2 q (.lst (l'.map V.int)) = H3 at D3 off3 ⊢
        -- if cell >= 10 ** 18
        refine ⟨_, rfl, _, _, rfl, rfl, ⟨by decide, by decide, by decide⟩, _, _, rfl, rfl, _, rfl, ?_⟩
        refine ite2 (fun _ => ?_) (fun _ => ?_)
        · refine ⟨_, rfl, p, _, _, _, rfl, rfl, SqL.of D3.ob, c0, .inl ⟨rfl, _, SqL.of D3.ce⟩, _, rfl, _, rfl, _, _, rfl, rfl, ⟨by omega, by omega⟩, q, _, _, rfl, rfl, D3.ce, (by rw [List.length_map, sizeLine_eq]; omega), ?_⟩
          have eapp : l'.map V.int ++ [V.int (z.fdiv n)] = (l' ++ [z.fdiv n]).map V.int := by simp
          rw [eapp]
          have D4 : DeckAt (upd H3 q (.lst ((l' ++ [z.fdiv n]).map V.int))) p q (l' ++ [z.fdiv n]) m (c + 1) :=
            ⟨by rw [upd_ne hpq]; exact D3.ob, upd_same, D3.m0, D3.m1, D3.c0, D3.c1, by rw [List.length_append]; exact hln⟩
          refine ⟨_, rfl, _, rfl, _, _, rfl, rfl, hn0, ?_⟩
          exact k _ _ _ (Int.emod_nonneg _ (by omega)) (Int.emod_lt_of_pos _ hn0) (off3.trans fun b o e _ h2 => by rw [upd_ne h2]; exact e) D4
        · refine ⟨_, rfl, _, rfl, p, _, _, _, rfl, rfl, SqL.of D3.ob, c1, _, _, rfl, rfl, ?_⟩
          exact ⟨_, l', rfl, off3, D3⟩
    · rintro σ' H' ⟨z, ns', rfl, off', D'⟩
      have ix2 := fun (g : Hp → Prop) => g
      refine ⟨_, rfl, _, _, rfl, rfl, (by decide : (0 : Int) < 2147483563), _, rfl, p, _, _, _, rfl, rfl, SqL.of D'.ob, c2, _, _, rfl, rfl, .inl ⟨by decide, by decide⟩, _, rfl, p, _, _, _, rfl, rfl, SqL.of D'.ob, c2, _, _, rfl, rfl, .inl ⟨by have := D'.c0; omega, by have := D'.c1; omega⟩,
        _, _, rfl, rfl, _, _, rfl, rfl, _, _, rfl, rfl, .inr ⟨by decide, by decide⟩, _, _, rfl, rfl, (by decide : (0 : Int) < 2147483647), ?_⟩
      generalize hx : (z % 2147483563 + 73727 * (c + 1) * (c + 1) + 59) * 48271 % 2147483647 = x
      have x0 : 0 ≤ x := by rw [← hx]; exact Int.emod_nonneg _ (by decide)
      have x1 : x < 2147483647 := by rw [← hx]; exact Int.emod_lt_of_pos _ (by decide)
      refine ⟨_, rfl, _, rfl, _, _, rfl, rfl, .inl ⟨by omega, by omega⟩, _, rfl, p, _, _, _, rfl, rfl, SqL.of D'.ob, c2, _, _, rfl, rfl, .inl ⟨by decide, by decide⟩, _, _, rfl, rfl, _, _, rfl, rfl, _, _, rfl, rfl, (by decide : (0 : Int) < 2147483629), ?_⟩
      refine ⟨_, rfl, _, _, rfl, rfl, .inr ⟨by decide, by decide⟩, _, _, rfl, rfl, (by decide : (0 : Int) < 2147483587), _, _, rfl, rfl, ⟨by decide, by decide⟩, _, rfl, _, _, rfl, rfl, hn0, ?_⟩
      exact k _ ns' H' (Int.emod_nonneg _ (by omega)) (Int.emod_lt_of_pos _ hn0) off' D'
theorem scPick : FnScope ["_law_deck_here", "_law_items"] ["_law_deck_here", "_law_items"] (defScope sPick) := ⟨rfl, rfl, rfl, by decide +kernel, rfl, by decide +kernel, by decide +kernel⟩
/-- one of the items, at some place -/
def spPick : Sp := fun vs H Q _ => ∃ (p q t : Addr) (ns : List Int) (m c : Int) (xs : List V), vs = [.ref p, .ref t] ∧ H t = some (.lst xs) ∧ t ≠ p ∧ t ≠ q ∧ 0 < xs.length ∧ xs.length ≤ 1000 ∧ DeckAt H p q ns m c ∧ c + 1 ≤ 1000000000 ∧
  ∀ (j : Nat) (x : V) (ns' : List Int) (H' : Hp), xs[j]? = some x → Off p q H H' → DeckAt H' p q ns' m (c + 1) → Q x H'
theorem ok_pick {f fD : Addr} {fd fdD : FuncData} (F : Fun K "_law_pick" "_law_pick" sPick f fd) (T : Nm mg) (FD : Fun K "_law_draw" "_law_draw" sDraw fD fdD) (bD : Binds K fdD ["_law_deck_here", "_law_bound"] []) (gD : mg "_law_draw" = some (.ref fD)) :
    FnOk P w K mg base CX0 2 f fd ["_law_deck_here", "_law_items"] spPick := by
  have GD : FnOk P w K mg base CX0 1 fD fdD ["_law_deck_here", "_law_bound"] spDraw := ok_draw FD
  refine F.ok scPick (fun vs H Q E h => ?_) (fun cdv A outer s H vs Q E hr h => ?_)
  · obtain ⟨p, q, t, ns, m, c, xs, rfl, _⟩ := h
    rfl
  · obtain ⟨p, q, t, ns, m, c, xs, rfl, ht, tp, tq, hx0, hx1, D, hc, k⟩ := h
    refine ⟨_, pss_one (ps_ret (pe_ix ix_list (pv 1) (pe_call GD hr rfl gD FD.kp bD .nil pass0 (pa_cons (pv 0) (pa_cons (pe_callB call_len_seq (by rfl) T.len PySem.boot_len (pa_cons (pv 1) pa_nil)) pa_nil))) (fun _ _ => rfl))), ?_⟩
    refine ⟨_, rfl, _, rfl, _, rfl, t, _, rfl, .inl (SqL.of ht), p, q, ns, m, c, (xs.length : Int), rfl, by omega, by omega, D, hc, fun i ns' H' h0 h1 off D' => ?_⟩
    obtain ⟨j, rfl⟩ : ∃ j : Nat, i = (j : Int) := ⟨i.toNat, by omega⟩
    have hj : j < xs.length := by omega
    exact ⟨t, xs, _, xs[j], rfl, rfl, SqL.of (off _ _ ht tp tq), atI_nat (List.getElem?_eq_getElem hj), k j _ ns' H' (List.getElem?_eq_getElem hj) off D'⟩
end
/-! ### the deck stands apart -/
def hide (p q : Addr) (H : Hp) : Hp := fun b => if b = p ∨ b = q then none else H b
/-- a deck at p with its cells at q, at most b choices made -/
def Dk (H : Hp) (p q : Addr) (b : Nat) : Prop := ∃ ns m c, DeckAt H p q ns m c ∧ c ≤ (b : Int)
section
variable {H H' : Hp} {p q t : Addr} {b : Nat}
theorem hide_sub (p q : Addr) (H : Hp) : Same (hide p q H) H := fun c o e => by
  unfold hide at e
  split at e
  · cases e
  · exact e
theorem hide_at {c : Addr} {o : HO} (h : H c = some o) (hp : c ≠ p) (hq : c ≠ q) : hide p q H c = some o := by
  unfold hide
  rw [if_neg (fun z => z.elim hp hq)]
  exact h
theorem hide_same (S : Same H H') : Same (hide p q H) (hide p q H') := fun c o e => by
  unfold hide at e ⊢
  split at e
  · cases e
  · rename_i h
    rw [if_neg h]
    exact S _ _ e
theorem hide_off (O : Off p q H H') : Same (hide p q H) (hide p q H') := fun c o e => by
  unfold hide at e ⊢
  split at e
  · cases e
  · rename_i h
    rw [if_neg h]
    exact O _ _ e (fun z => h (.inl z)) (fun z => h (.inr z))
theorem Dk.same (D : Dk H p q b) (S : Same H H') : Dk H' p q b := by
  obtain ⟨ns, m, c, D, h⟩ := D
  exact ⟨ns, m, c, D.same S, h⟩
theorem Dk.mono {b' : Nat} (D : Dk H p q b) (h : b ≤ b') : Dk H p q b' := by
  obtain ⟨ns, m, c, D, hc⟩ := D
  exact ⟨ns, m, c, D, by omega⟩
theorem Dk.new (D : Dk H p q b) (n : H t = none) : t ≠ p ∧ t ≠ q := by
  obtain ⟨ns, m, c, D, hc⟩ := D
  refine ⟨fun e => ?_, fun e => ?_⟩
  · rw [e, D.ob] at n
    cases n
  · rw [e, D.ce] at n
    cases n
theorem hide_new {o : HO} (D : Dk H p q b) (n : H t = none) : hide p q (upd H t o) t = some o := hide_at upd_same (D.new n).1 (D.new n).2
theorem hide_none (h : hide p q H t = none) (hp : t ≠ p) (hq : t ≠ q) : H t = none := by
  unfold hide at h
  rw [if_neg (fun z => z.elim hp hq)] at h
  exact h
/-- a choice of n -/
theorem draw_of {n : Int} {Q : VK} {E : XK} (D : Dk H p q b) (h0 : 0 < n) (h1 : n ≤ 1000000) (hb : b < 100000000) (k : ∀ (i : Nat) (H' : Hp), (i : Int) < n → Off p q H H' → Dk H' p q (b + 1) → Q (.int (i : Nat)) H') : spDraw [.ref p, .int n] H Q E := by
  obtain ⟨ns, m, c, D, hc⟩ := D
  refine ⟨p, q, ns, m, c, n, rfl, h0, h1, D, by omega, fun i ns' H' i0 i1 off D' => ?_⟩
  obtain ⟨j, rfl⟩ : ∃ j : Nat, i = j := ⟨i.toNat, by omega⟩
  exact k j H' i1 off ⟨ns', m, c + 1, D', by omega⟩
/-- one of the items of a list -/
theorem pick_of {xs : List V} {Q : VK} {E : XK} (D : Dk H p q b) (ht : H t = some (.lst xs)) (tp : t ≠ p) (tq : t ≠ q) (h0 : 0 < xs.length) (h1 : xs.length ≤ 1000) (hb : b < 100000000) (k : ∀ (j : Nat) (x : V) (H' : Hp), xs[j]? = some x → Off p q H H' → Dk H' p q (b + 1) → Q x H') : spPick [.ref p, .ref t] H Q E := by
  obtain ⟨ns, m, c, D, hc⟩ := D
  exact ⟨p, q, t, ns, m, c, xs, rfl, ht, tp, tq, h0, h1, D, by omega, fun j x ns' H' hx off D' => k j x H' hx off ⟨ns', m, c + 1, D', by omega⟩⟩
end
theorem dk_upd {H : Hp} {p q r : Addr} {b : Nat} {o : HO} (D : Dk H p q b) (h1 : r ≠ p) (h2 : r ≠ q) : Dk (upd H r o) p q b := by
  obtain ⟨ns, m, c, D, hc⟩ := D
  exact ⟨ns, m, c, ⟨by rw [upd_ne h1.symm]; exact D.ob, by rw [upd_ne h2.symm]; exact D.ce, D.m0, D.m1, D.c0, D.c1, D.ln⟩, hc⟩
theorem dk_ne {H : Hp} {p q a : Addr} {b : Nat} {xs : List V} (D : Dk H p q b) (h : H a = some (.tup xs)) : a ≠ p ∧ a ≠ q := by
  obtain ⟨ns, m, c, D, hc⟩ := D
  refine ⟨fun e => ?_, fun e => ?_⟩
  · rw [e, D.ob] at h
    cases h
  · rw [e, D.ce] at h
    cases h
end K7
set_option maxRecDepth 100000
set_option maxHeartbeats 4000000
namespace L2
open PySem PySem.Spec PyProof.Rows
section
variable {X : Cx}
/-- a list beside an empty list, a tuple beside an empty tuple -/
def rEmpty (neg : Bool) : R2 := fun x y H Q => ∃ (a b : Addr) (xs : List V), x = .ref a ∧ y = .ref b ∧ ((H a = some (.lst xs) ∧ H b = some (.lst [])) ∨ (H a = some (.tup xs) ∧ H b = some (.tup []))) ∧ Q (.bl (if neg then !xs.isEmpty else xs.isEmpty)) H
theorem nil_of {us : List Value} (r : Vals ([] : List V) us) : us = [] := by
  cases r
  rfl
theorem op_empty (hu : X.A.units < cLine) : OpR X (compareOp .Eq) (rEmpty false) := by
  intro pins s σ H x y v u Q I rx ry h
  obtain ⟨a, b, xs, rfl, rfl, h, q⟩ := h
  cases rx
  cases ry
  rcases h with ⟨ha, hb⟩ | ⟨ha, hb⟩
  · obtain ⟨its, rv, p, _⟩ := I.list (SqL.of ha)
    obtain ⟨its2, rv2, p2, _⟩ := I.list (SqL.of hb)
    obtain rfl := nil_of rv2
    cases xs with
    | nil =>
      obtain rfl := nil_of rv
      exact SeqAt.eq_listAt (e := fun _ => true) p.isList p2.isList rfl hu (fun j h1 h2 => absurd h1 (Nat.not_lt_zero _)) ⟨.bl true, H, I, rfl, q⟩
    | cons x0 l =>
      cases rv with
      | cons r0 rs => exact SeqAt.eq_list_lengthsAt p.isList p2.isList (by simp) hu ⟨.bl false, H, I, rfl, q⟩
  · obtain ⟨its, rv, p, _⟩ := I.tuple (SqT.of ha)
    obtain ⟨its2, rv2, p2, _⟩ := I.tuple (SqT.of hb)
    obtain rfl := nil_of rv2
    cases xs with
    | nil =>
      obtain rfl := nil_of rv
      exact SeqAt.eq_tupleAt (e := fun _ => true) p p2 hu (fun j h1 h2 => absurd h1 (Nat.not_lt_zero _)) ⟨.bl true, H, I, rfl, q⟩
    | cons x0 l =>
      cases rv with
      | cons r0 rs => exact SeqAt.eq_tupleAt (e := fun _ => true) p p2 hu (fun j h1 h2 => absurd h2 (Nat.not_lt_zero _)) ⟨.bl false, H, I, by simp [RelV], q⟩
theorem op_nempty (hu : X.A.units < cLine) : OpR X (compareOp .NotEq) (rEmpty true) := by
  intro pins s σ H x y v u Q I rx ry h
  obtain ⟨a, b, xs, rfl, rfl, h, q⟩ := h
  cases rx
  cases ry
  rcases h with ⟨ha, hb⟩ | ⟨ha, hb⟩
  · obtain ⟨its, rv, p, _⟩ := I.list (SqL.of ha)
    obtain ⟨its2, rv2, p2, _⟩ := I.list (SqL.of hb)
    obtain rfl := nil_of rv2
    cases xs with
    | nil =>
      obtain rfl := nil_of rv
      exact SeqAt.RcNeAt.lists (e := fun _ => true) p.isList p2.isList rfl hu (fun j h1 h2 => absurd h1 (Nat.not_lt_zero _)) _ _ _ _ ⟨.bl false, H, I, rfl, q⟩
    | cons x0 l =>
      cases rv with
      | cons r0 rs => exact SeqAt.RcNeAt.lists_lengths p.isList p2.isList (by simp) hu _ _ _ _ ⟨.bl true, H, I, rfl, q⟩
  · obtain ⟨its, rv, p, _⟩ := I.tuple (SqT.of ha)
    obtain ⟨its2, rv2, p2, _⟩ := I.tuple (SqT.of hb)
    obtain rfl := nil_of rv2
    cases xs with
    | nil =>
      obtain rfl := nil_of rv
      exact SeqAt.RcNeAt.tuples (e := fun _ => true) p p2 hu (fun j h1 h2 => absurd h1 (Nat.not_lt_zero _)) _ _ _ _ ⟨.bl false, H, I, rfl, q⟩
    | cons x0 l =>
      cases rv with
      | cons r0 rs => exact SeqAt.RcNeAt.tuples (e := fun _ => true) p p2 hu (fun j h1 h2 => absurd h2 (Nat.not_lt_zero _)) _ _ _ _ ⟨.bl true, H, I, by simp [RelV], q⟩
end
end L2
namespace L2
open PySem PySem.Spec PyProof.Rows
/-! ### repr of any such value, with ints of up to 4,300 digits and empty dicts at any place -/
mutual
def okInt : PyData → Prop
  | .int i => i.natAbs < 10 ^ 4300
  | .list l => okInts l
  | .tuple l => okInts l
  | _ => True
def okInts : List PyData → Prop
  | [] => True
  | d :: ds => okInt d ∧ okInts ds
end
section
variable {prog : Program} {w : World} {A : Around} {E : Value → Shared → Prop} {s : Shared}
theorem call_int_reprS {a : Int} {t : Tok} {Q : Value → Shared → Prop} (hn : s.heap.NoDigits) (hlt : a.natAbs < 10 ^ 4300) (h : Q (.str (toString a) s.toks) { s with toks := s.toks + 1 }) :
    wpAny (model prog w) A (call (.builtin "int.__repr__") [.int a t]) Q E s := by
  (refine wpAny_call_entry F.slot_int_repr (typeIs_int s a t) F.entry_int_repr ?_ (F.args_int_repr_1 _); unfold Builtin.«int.__repr__»)
  show wpAny (model prog w) _ (do let r ← Builtin.overDigitLimit? a; _) _ _ s
  exact wpAny_bind (overDigitLimit_any hn (fun _ => wpAny_bind (wpAny_mkStr (wpAny_pure ⟨_, rfl, h⟩) (int_text_fits10 hlt))) (fun hge => absurd hlt (Nat.not_lt.mpr hge)))
theorem pyReprObj_intS {a : Int} {t : Tok} {Q : Value → Shared → Prop} (hu : A.units < cLine) (hn : s.heap.NoDigits) (hlt : a.natAbs < 10 ^ 4300) (h : Q (.str (toString a) s.toks) { s with toks := s.toks + 1 }) :
    wpAny (model prog w) A (pyReprObj (.int a t)) Q E s :=
  wpAny_pyReprObj_slot hu (typeIs_int s a t) F.slot_int_repr.toG (call_int_reprS hn hlt ⟨_, _, rfl, h⟩)
theorem reprK_int {h₀ : Heap} {as : List Addr} {d : Nat} {a : Int} (t : Tok) (hn : h₀.NoDigits) (hlt : a.natAbs < 10 ^ 4300) : ReprK prog w as h₀ d (.int a t) (toString a) := by
  intro base hb A g E s Q _ _ hu hk0 hQ
  have hn' : base ≤ sizeLine := by omega
  (rw [pyReprUnder_leaf (v := .int a t) hn' (fun _ e => nomatch e)]; unfold pyRepr)
  exact wpAny_bind (pyReprObj_intS (by omega) (hn.keeps hk0) hlt (wpAny_pure (hQ s.heap _ fun _ _ e => e)))
end
end L2
namespace K7
open PySem PySem.Spec PyProof.Rows L2
section
variable {P : Program} {w : World} {H : Hp} {h : Heap}
mutual
theorem dat_repr (ok : HOk P w H h) (nd : h.NoDigits) : ∀ {v : V} {d : PyData} {u : Value}, Dat H v d → RelV v u → okInt d → d.shown.length ≤ sizeLine → ∃ as bs, Reads h u d as ∧ ReadAtMost h d.depth bs ∧ ReprK P w bs h d.depth u d.shown
  | _, _, _, .non, r, _, _ => by
    cases r
    exact ⟨[], [], .none, (fun _ z => nomatch z), by simp only [PyData.shown]; exact .of_is ReprIs.none _ _ _⟩
  | _, _, _, .bl b, r, _, _ => by
    cases r
    exact ⟨[], [], .bool b, (fun _ z => nomatch z), by simp only [PyData.shown]; exact .of_is (ReprIs.bool b) _ _ _⟩
  | _, _, _, .int i, r, hi, _ => by
    obtain ⟨t, rfl⟩ := r
    exact ⟨[], [], .int i t, (fun _ z => nomatch z), by simp only [PyData.shown]; exact reprK_int t nd (by simpa only [okInt] using hi)⟩
  | _, _, _, .str x _, r, _, hz => by
    obtain ⟨t, rfl⟩ := r
    exact ⟨[], [], .str x t, (fun _ z => nomatch z), by simp only [PyData.shown]; exact .of_is (ReprIs.str x t (by simpa only [PyData.shown] using hz)) _ _ _⟩
  | _, _, _, .lst (a := a) (xs := xs) (ds := ds) e t, r, hi, hz => by
    cases r
    obtain ⟨_, its, m, rv, ho⟩ := (show ObjOk P w H h a (.lst xs) from ok a _ e)
    have hz' : (listText (PyData.shownAll ds)).length ≤ sizeLine := by simpa only [PyData.shown] using hz
    obtain ⟨as, bs, ra, hb, hk⟩ := datAll_repr ok nd t rv (by simpa only [okInt] using hi) (fun q hq => Nat.le_trans (listText_mem_le hq) hz')
    have rl : Reads h (.ref a) (.list ds) _ := .list ho rfl rfl ra
    refine ⟨_, a :: bs, rl, ReadAtMost.cons rl (by simp only [PyData.depth]; omega) hb, ?_⟩
    have hna : a ∉ bs := not_mem_of_deeper rl (by simp only [PyData.depth]; omega) hb
    simp only [PyData.depth, PyData.shown]
    cases its with
    | nil =>
      cases ra
      simp only [PyData.shownAll, listText_nil]
      exact ReprK.listEmpty ho rfl rfl
    | cons x l => exact ReprK.list (na := _) ho rfl rfl hna (by simpa using hk.length_eq) (fun i y e' => hk.item i y (by simpa using e'))
  | _, _, _, .tup (a := a) (xs := xs) (ds := ds) e t, r, hi, hz => by
    cases r
    obtain ⟨_, its, rv, o, ho, hc, m, hd⟩ := (show ObjOk P w H h a (.tup xs) from ok a _ e)
    have hz' : (tupleText (PyData.shownAll ds)).length ≤ sizeLine := by simpa only [PyData.shown] using hz
    obtain ⟨as, bs, ra, hb, hk⟩ := datAll_repr ok nd t rv (by simpa only [okInt] using hi) (fun q hq => Nat.le_trans (tupleText_mem_le hq) hz')
    have rl : Reads h (.ref a) (.tuple ds) _ := .tuple ho hc hd ra
    refine ⟨_, a :: bs, rl, ReadAtMost.cons rl (by simp only [PyData.depth]; omega) hb, ?_⟩
    have hna : a ∉ bs := not_mem_of_deeper rl (by simp only [PyData.depth]; omega) hb
    simp only [PyData.depth, PyData.shown]
    exact ReprK.tuple ho hc hd hna hk
  | _, _, _, .d0 (a := a) e, r, _, _ => by
    cases r
    obtain ⟨_, ns, vs, kv, o, es, ep, ho, hx, hd, hk, hp, _⟩ := (show ObjOk P w H h a (.dK []) from ok a _ e)
    cases kv
    have e0 : es.toList = [] := by
      generalize es.toList = l at hp
      cases hp
      rfl
    have rl : Reads h (.ref a) (.dict []) (a :: [] ++ []) := .dict (kvs := []) ho hx.1 hd (by rw [e0]; exact .nil) (by rw [e0]; exact .nil)
    have hsys : (a == sysModules) = false := beq_eq_false_iff_ne.mpr fun z => by
      rw [z] at ns
      simp at ns
    refine ⟨_, [a], rl, ReadAtMost.cons (n := 0) rl (Nat.zero_le _) (fun _ z => nomatch z), ?_⟩
    have k := ReprK.dict (prog := P) (w := w) (as := []) (d := 0) (ps := []) ho hx.1 hd hsys (by simp) (by rw [e0]; exact .nil)
    have k' := k.level_le (d' := (PyData.dict []).depth) (by simp [PyData.depth, PyData.depthKv])
    simpa only [PyData.shown, PyData.shownKv] using k'
theorem datAll_repr (ok : HOk P w H h) (nd : h.NoDigits) : ∀ {vs : List V} {ds : List PyData} {us : List Value}, DatAll H vs ds → Vals vs us → okInts ds → (∀ t ∈ PyData.shownAll ds, t.length ≤ sizeLine) →
    ∃ as bs, ReadsAll h us ds as ∧ ReadAtMost h (PyData.depthAll ds) bs ∧ ReprAllK P w bs h (PyData.depthAll ds) us (PyData.shownAll ds)
  | _, _, _, .nil, .nil, _, _ => ⟨[], [], .nil, (fun _ z => nomatch z), by simp only [PyData.shownAll]; exact .nil⟩
  | _, _, _, .cons (d := d) (ds := ds) t ts, .cons r rs, hi, hz => by
    have hi' : okInt d ∧ okInts ds := by simpa only [okInts] using hi
    obtain ⟨as, b1, ra, hb1, k1⟩ := dat_repr ok nd t r hi'.1 (hz _ (by simp only [PyData.shownAll]; exact List.mem_cons_self ..))
    obtain ⟨cs, b2, rb, hb2, k2⟩ := datAll_repr ok nd ts rs hi'.2 (fun q hq => hz q (by simp only [PyData.shownAll]; exact List.mem_cons_of_mem _ hq))
    refine ⟨as ++ cs, b1 ++ b2, .cons ra rb, ?_, ?_⟩
    · simp only [PyData.depthAll]
      exact (hb1.mono (Nat.le_max_left _ _)).append (hb2.mono (Nat.le_max_right _ _))
    · simp only [PyData.depthAll, PyData.shownAll]
      refine .cons ((k1.more fun b hb => List.mem_append_left _ hb).level_le (Nat.le_max_left _ _)) ?_
      exact k2.more_le (fun b hb => List.mem_append_right _ hb) (Nat.le_max_right _ _)
end
end
section
variable {X : Cx}
theorem nodig {K : PySem.W.Frag} {mg : Str → Option Value} {h : Heap} (M : L2.Mod K mg h) (e : PySem.W.nsIn K cStatics "sys.int_max_str_digits" = some none) : h.NoDigits := by
  obtain ⟨mc, h1, _⟩ := M.nolimit
  exact ⟨mc, h1, PySem.W.ns_none_of M.kin h1 e⟩
def rReprD : List V → Hp → VK → Prop := fun xs H Q => ∃ v d, xs = [v] ∧ Dat H v d ∧ okInt d ∧ d.depth ≤ 64 ∧ d.shown.length ≤ sizeLine ∧ Q (.str d.shown) H
theorem call_reprD (hg : X.A.guards = some []) (hu : X.A.units + 128 < cLine) (e : PySem.W.nsIn X.K cStatics "sys.int_max_str_digits" = some none) : CallR X (.builtin "repr") rReprD := by
  intro pins s σ H xs us Q I r hh
  obtain ⟨v, d, rfl, th, hi, hd, hz, q⟩ := hh
  obtain ⟨u, rfl, ru⟩ := vals1 r
  have nd : s.heap.NoDigits := (nodig I.ok.mod e).keeps I.bk
  have done : ∀ (h' : Heap) (u tk : Nat), (∀ b o, s.heap.get? b = some o → h'.get? b = some o) → EP X pins σ Q (.str d.shown u) { s with heap := h', toks := tk } := fun h' u tk k => ⟨.str _, H, I.kept (t' := tk) k, ⟨_, rfl⟩, q⟩
  cases th with
  | non =>
    cases ru
    exact PySem.P.repr_of_none (by simpa only [PyData.shown] using done s.heap _ _ fun _ _ e => e)
  | bl b =>
    cases ru
    exact PySem.P.repr_of_bool (by simpa only [PyData.shown] using done s.heap _ _ fun _ _ e => e)
  | str x _ =>
    obtain ⟨t, rfl⟩ := ru
    exact PySem.P.repr_of_str (by simpa only [PyData.shown] using done s.heap _ _ fun _ _ e => e) (by simpa only [PyData.shown] using hz)
  | int i =>
    obtain ⟨t, rfl⟩ := ru
    refine call_repr_slot (by omega) (typeIs_int s i t) F.slot_int_repr.toG (call_int_reprS nd (by simpa only [okInt] using hi) ⟨_, _, rfl, ?_⟩)
    simpa only [PyData.shown] using done s.heap _ _ fun _ _ e => e
  | @lst a vs ds e1 t =>
    cases ru
    obtain ⟨_, its, m, rv, ho⟩ := (show ObjOk X.prog X.w H s.heap a (.lst vs) from I.hok a _ e1)
    have hz' : (listText (PyData.shownAll ds)).length ≤ sizeLine := by simpa only [PyData.shown] using hz
    obtain ⟨as, bs, ra, hb, hk⟩ := datAll_repr I.hok nd t rv (by simpa only [okInt] using hi) (fun q hq => Nat.le_trans (listText_mem_le hq) hz')
    have rl : Reads s.heap (.ref a) (.list ds) _ := .list ho rfl rfl ra
    have hna : a ∉ bs := not_mem_of_deeper rl (by simp only [PyData.depth]; omega) hb
    simp only [PyData.depth] at hd
    simp only [PyData.shown] at done
    refine call_repr_slot (by omega) ⟨_, ho, rfl⟩ F.slot_list_repr.toG ?_
    cases its with
    | nil =>
      cases ra
      simp only [PyData.shownAll, listText_nil] at done
      exact call_list_repr_empty ⟨_, ho, rfl⟩ ho rfl ⟨_, _, rfl, done s.heap _ _ fun _ _ e => e⟩
    | cons x l => exact call_list_reprK (h₀ := s.heap) ho rfl rfl hna (by simpa using hk.length_eq) (fun i y e => hk.item i y (by simpa using e)) (A := X.A.in1) (g := []) hg (fun b _ => Clear.nil b) (by show X.A.units + 1 + (PyData.depthAll ds + 1) < cLine; omega) (fun _ _ e => e) (fun h' u tk k => ⟨_, _, rfl, done h' u tk k⟩) hz'
  | @tup a vs ds e1 t =>
    cases ru
    obtain ⟨_, its, rv, o, ho, hc, m, hdd⟩ := (show ObjOk X.prog X.w H s.heap a (.tup vs) from I.hok a _ e1)
    have hz' : (tupleText (PyData.shownAll ds)).length ≤ sizeLine := by simpa only [PyData.shown] using hz
    obtain ⟨as, bs, ra, hb, hk⟩ := datAll_repr I.hok nd t rv (by simpa only [okInt] using hi) (fun q hq => Nat.le_trans (tupleText_mem_le hq) hz')
    have rl : Reads s.heap (.ref a) (.tuple ds) _ := .tuple ho hc hdd ra
    have hna : a ∉ bs := not_mem_of_deeper rl (by simp only [PyData.depth]; omega) hb
    simp only [PyData.depth] at hd
    simp only [PyData.shown] at done
    refine call_repr_slot (by omega) ⟨_, ho, hc⟩ F.slot_tuple_repr ?_
    exact call_tuple_reprK (h₀ := s.heap) ho hc hdd hna hk (A := X.A.in1) (g := []) hg (fun b _ => Clear.nil b) (by show X.A.units + 1 + (PyData.depthAll ds + 1) < cLine; omega) (fun _ _ e => e) (fun h' u tk k => ⟨_, _, rfl, done h' u tk k⟩) hz'
  | @d0 a e1 =>
    cases ru
    obtain ⟨_, ns, vs, kv, o, es, ep, ho, hx, hdd, hk, hp, _⟩ := (show ObjOk X.prog X.w H s.heap a (.dK []) from I.hok a _ e1)
    cases kv
    have e0 : es.toList = [] := by
      generalize es.toList = l at hp
      cases hp
      rfl
    have hsys : (a == sysModules) = false := beq_eq_false_iff_ne.mpr fun z => by
      rw [z] at ns
      simp at ns
    simp only [PyData.shown, PyData.shownKv] at done
    refine call_repr_slot (by omega) ⟨_, ho, hx.1⟩ F.slot_dict_repr ?_
    exact call_dict_reprK (h₀ := s.heap) (as := []) (d := 0) (ps := []) ho hx.1 hdd hsys (by simp) (by rw [e0]; exact .nil) (A := X.A.in1) (g := []) hg (fun b _ => Clear.nil b) (by show X.A.units + 1 + 1 < cLine; omega) (fun _ _ e => e) (fun h' u tk k => ⟨_, _, rfl, done h' u tk k⟩)
end
end K7
namespace L2
open PySem PySem.Spec PyProof.Rows
/-! ### a def that is called where no repr runs -/
structure FnG (P : Program) (w : World) (K : PySem.W.Frag) (mg : Str → Option Value) (base : Heap) (k : Nat) (f : Addr) (fd : FuncData) (ps : List Str) (sp : Sp) : Prop where
  len : ∀ vs H Q E, sp vs H Q E → vs.length = ps.length
  run : ∀ (A : Around) (outer : List Env) (s : Shared) (H : Hp) (args : Args) (us : List Value) (vs : List V) (Q : VK) (E : XK), A.guards = some [] → Room k A → Env0 P w K mg base A outer s H → BindsTo s fd args (ps.zip us) → Vals vs us → sp vs H Q E →
    codeAny (model P w) A (.call (.ref f) args) (CR CX0 outer P w H s Q E) s
section
variable {P : Program} {w : World} {K : PySem.W.Frag} {mg : Str → Option Value} {base : Heap}
theorem Fun.okG {x qual : Str} {st : Stmt} {f : Addr} {fd : FuncData} {N ps : List Str} {k : Nat} {sp : Sp} (F : Fun K x qual st f fd) (S : FnScope N ps (defScope st)) (len : ∀ vs H Q E, sp vs H Q E → vs.length = ps.length)
    (hbody : ∀ (cdv : Value) (A : Around) (outer : List Env) (s : Shared) (H : Hp) (vs : List V) (Q : VK) (E : XK), A.guards = some [] → Room k (A.deeper (envOfC qual (defScope st) s.heap.objs.size f cdv)) → sp vs H Q E →
      ∃ t, PSs (cxOf CX0 P w K mg base N qual (defScope st) f cdv A outer s H E).nox (defBody st) t ∧ t { nx := fun _ H' => Q .non H', rt := Q } (start N vs) H) : FnG P w K mg base (k + 1) f fd ps sp := by
  obtain ⟨oc, od, kV, doc, pm, an, cdv, ct, osl, rfl, lk, hcd⟩ := F.ex
  refine ⟨len, fun A outer s H args us vs Q E hg hr e0 hb r hsp => ?_⟩
  obtain ⟨t, ht, hq⟩ := hbody cdv A outer s H vs Q E hg (hr.deeper _) hsp
  have KX : K.In s.heap := e0.mod.kin.keeps fun b o z => (e0.bs b o z).1
  have inPar : ∀ y ∈ ps.zip us, (defScope st).names.lookup y.1 = some .local ∨ ((defScope st).names.lookup y.1 = some .cell ∧ ((cellsFrom (s.heap.objs.size + 1) (defScope st).names []).lookup y.1).isSome = true) := by
    intro y hy
    have hin : y.1 ∈ ps := (List.of_mem_zip (a := y.1) (b := y.2) hy).1
    rcases S.par y.1 hin with z | z
    · exact .inl z
    · exact .inr ⟨z, PySem.W.cellsFrom_some _ _ _ (.inl z)⟩
  refine codeAny_call_function hr.depth (KX _ _ lk) rfl S.co S.gen rfl (PySem.W.codeRec_of KX hcd) (hb _ _ _ _ ?_)
  refine wpAny_newFunctionEnv_cells S.kind inPar fun env he s1 ic => ?_
  subst he
  have I := inv_start (CX := CX0) (E := E) (cd := cdv) (qual := qual) (f := f) S hr.hd e0 (len _ _ _ _ hsp) r ic
  refine ⟨(e0.mod.nolimit.keeps fun b o z => (e0.bs b o z).1).keeps ic.toInCall.keep, codeAny_func ?_⟩
  refine wpAny_mono (ht.nox.run [] s1 (start N vs) H _ I hq) (fun fl s' q => ?_) fun _ _ z => z
  cases fl with
  | next =>
    obtain ⟨σ', H', J, z⟩ := q
    exact ⟨.non, H', J.os, J.bare, J.base, J.hok, rfl, z⟩
  | ret u =>
    obtain ⟨v, σ', H', J, rv, z⟩ := q
    exact ⟨v, H', J.os, J.bare, J.base, J.hok, rv, z⟩
  | brk =>
    obtain ⟨_, _, _, z⟩ := q
    exact z.elim
  | cont =>
    obtain ⟨_, _, _, z⟩ := q
    exact z.elim
end
section
variable {X : Cx} {k : Nat} {f : Addr} {fd : FuncData} {ps : List Str} {sp : Sp} {x : Str} {p pos : Pos} {e : Expr} {es : List Expr} {t : TA}
theorem pe_callG (F : FnG X.prog X.w X.K X.mg X.base k f fd ps sp) (hg : X.A.guards = some []) (hr : Room k X.A) (gl : Gl X x) (hm : X.mg x = some (.ref f)) (hk : PySem.W.keepIn X.K (.ref f) = true) (hb : Binds X.K fd ps []) (ha : PA X (e :: es) t)
    (hdb : (x == ("__debug__" : Str)) = false := by decide) (he : starEach (e :: es) X.env = (false, eval e X.env) :: starEach es X.env := by rfl) (hpl : (backTo pos (starEach es X.env)).any (·.1) = false := by rfl) :
    PE X (.Call (.Name x p) (e :: es) [] pos) (tCall sp [] E0 t) := by
  refine ⟨fun pins s σ H Q I h => ?_⟩
  refine wpAny_Call_Name_kw (ld_glob I gl hm ?_ hdb)
  refine PySem.W.callWith_K (h₀ := X.base) I.ok.mod.kin hk (thn (ha.run pos pins s σ H _ I h) fun us s1 hh => ?_) he hpl
  obtain ⟨vs, H1, I1, r, q⟩ := hh
  refine ⟨I1.kIn, ?_⟩
  have q' : sp vs H1 Q E0 := by
    have z : sp (vs ++ []) H1 Q E0 := q
    rw [List.append_nil] at z
    exact z
  have hl : us.length = ps.length := r.length.symm.trans (F.len _ _ _ _ q')
  have b := hb s1 us I1.kIn (by rw [List.append_nil]; exact hl)
  rw [List.append_nil] at b
  refine wpAny_call (codeAny_mono (F.run X.A X.stack s1 H1 ⟨us, []⟩ us vs Q E0 hg hr I1.env0 b r q') fun res s' z => ?_)
  cases res with
  | error er => exact False.elim z
  | ok fl =>
    cases fl with
    | ret u => exact I1.after z
    | next => exact False.elim z
    | brk => exact False.elim z
    | cont => exact False.elim z
end
end L2
namespace L2
open PySem PySem.Spec PyProof.Rows
section
variable {P : Program} {w : World} {K : PySem.W.Frag} {mg mb : Str → Option Value} {k : Nat} {fa a : Addr} {fd : FuncData} {x : Str} {sp : Sp} {s1 : Shared} {vs : List Value} {ns : List Int}
/-- the law's call where at most the script is tracked (at a) -/
theorem callG_at (KX : K.In s1.heap) (hns : s1.heap.Ns mainGlobals mg) (hb : s1.heap.Ns builtinsNs mb) (hbb : ∀ x : Str, x ≠ "__name__" → mb x = bootBuiltins x) (hlim : s1.heap.NoLimit) (hg : s1.gens = #[])
    (ha : s1.heap.get? a = some { cls := .type "list", data := .seq vs.toArray }) (hr : Room k callerA) (F : ∀ base : Heap, K.In base → base.Ns mainGlobals mg → FnG P w K mg base k fa fd [x] sp)
    (hbind : ∀ (s : Shared) (u : Value), BindsTo s fd ⟨[u], []⟩ [(x, u)]) (H : Hp) (hO : Only H) (hok : HOk P w H s1.heap) (hA : ∀ b, H b ≠ none → b = a) (hK : H a ≠ none → K.lookup a = none)
    (hsp : sp [.ref a] H (fun v _ => v = .bl true) fun _ _ _ => False) :
    codeAny (model P w) callerA (.call (.ref fa) ⟨[.ref a], []⟩) (fun r s' => r = .ok (.ret (.bool true)) ∧ OldK s1.heap s'.heap ∧ s'.os = s1.os ∧ AllBare s'.gens) s1 := by
  have free : ∀ {b : Addr} {o : Obj}, s1.heap.get? b = some o → o.data ≠ .seq vs.toArray → H b = none := by
    intro b o e hd
    cases q : H b with
    | none => rfl
    | some u =>
      have eb := hA b (by rw [q]; exact fun z => nomatch z)
      rw [eb, ha] at e
      cases e
      exact absurd rfl hd
  have nsB : ∀ {b : Addr} {m : Str → Option Value}, s1.heap.Ns b m → (hidT s1.heap H).Ns b m := by
    intro b m hn
    refine hn.at fun o e => hidT_get e ?_
    obtain ⟨o', es, ep, e', d, -⟩ := hn
    rw [e] at e'
    cases e'
    exact free e (by rw [d]; exact fun z => nomatch z)
  have KB : K.In (hidT s1.heap H) := fun b o e => by
    refine hidT_get (KX b o e) ?_
    cases q : H b with
    | none => rfl
    | some u =>
      have hb0 : H b ≠ none := by rw [q]; exact fun z => nomatch z
      have eb := hA b hb0
      rw [eb] at hb0 e
      rw [hK hb0] at e
      cases e
  have M : Mod K mg (hidT s1.heap H) := ⟨KB, nsB hns, ⟨mb, nsB hb, hbb⟩, by obtain ⟨mc, h1, h2⟩ := hlim; exact ⟨mc, nsB h1, h2⟩⟩
  have e0 : Env0 P w K mg (hidT s1.heap H) callerA [] s1 H := ⟨rfl, M, fun _ _ e => of_hidT e, Nat.le_of_eq (hidT_size _ _), trivial, fun b z => absurd (show b ∈ ([] : List Addr) from z) (List.not_mem_nil), hok, .of_eq hg⟩
  refine codeAny_mono ((F _ KB (nsB hns)).run callerA [] s1 H ⟨[.ref a], []⟩ [.ref a] [.ref a] _ _ rfl hr e0 (hbind s1 (.ref a)) (.cons rfl .nil) hsp) fun r s' z => ?_
  cases r with
  | error e => exact False.elim z
  | ok fl =>
    cases fl with
    | next => exact False.elim z
    | brk => exact False.elim z
    | cont => exact False.elim z
    | ret u =>
      obtain ⟨v, H', os, bare, un, hok', rv, q⟩ := z
      have q' : v = .bl true := q
      subst q'
      obtain rfl : u = Value.bool true := rv
      refine ⟨rfl, OldK.of_keep fun b o e => ?_, os, bare⟩
      cases qb : H b with
      | none => exact un.keep b o e qb (fun z => absurd (show b ∈ ([] : List Addr) from z) (List.not_mem_nil)) (List.not_mem_nil)
      | some y =>
        rcases hO b with z | ⟨ob, xs, z⟩
        · rw [qb] at z
          cases z
        · have e1 := (hok b _ z).1
          have e2 := (hok' b _ (un.frzs b ob _ z)).1
          rw [e] at e1
          cases e1
          exact e2
end
theorem walk_G {l : PySem.W.OpenLaw} {n k : Nat} {q : Program} {loose : List Str} {XP : (Str → Option Value) → Heap → Prop} {YP : World → Heap → Prop} {d : DefRec} {K : Params → PySem.W.Frag} {sp : PySem.W.Frag → Sp} {x : Str}
    (hn : l.most = some n) (hn2 : n ≤ sizeLine) (hdf : d.params.defaults = []) (hr : Room k callerA) (hY : ∀ (w : World) (h : Heap), YP w h → (K w.params).In h)
    (F : ∀ (w : World) (mg : Str → Option Value) (fa : Addr) (h : Heap), (K w.params).In h → h.Ns mainGlobals mg → mg d.name = some (.ref fa) →
      ∃ fd : FuncData, (∀ (s : Shared) (u : Value), BindsTo s fd ⟨[u], []⟩ [(x, u)]) ∧ ∀ base : Heap, (K w.params).In base → base.Ns mainGlobals mg → FnG l.prog w (K w.params) mg base k fa fd [x] (sp (K w.params)))
    (hsp : ∀ (K : PySem.W.Frag) (H : Hp) (a : Addr) (ns : List Int), ns.length ≤ n → Only H → SqL K H a (ns.map V.int) → sp K [.ref a] H (fun v _ => v = .bl true) fun _ _ _ => False) :
    PySem.W.WalkO q loose XP YP l.row.toRowW d [] (fun f vs => PySem.call f vs) := by
  refine Att.attach_call hn hdf fun w s₀ s1 mg mb fa o pm cd doc a vs ns G Y ho hd hcd hmg hobj hints hlen hg => ?_
  have KX := hY w _ Y
  obtain ⟨fd, hb, hF⟩ := F w mg fa _ KX G.T.g hmg
  have hl : ns.length ≤ sizeLine := Nat.le_trans hlen hn2
  have rv := vals_ints hints
  cases hk : (K w.params).lookup a with
  | some oa =>
    have e := KX a oa hk
    rw [hobj] at e
    cases e
    refine callG_at KX G.T.g G.T.b G.T.builtins G.T.nolimit hg hobj hr hF hb (fun _ => none) (fun _ => .inl rfl) (fun b u z => nomatch z) (fun b z => absurd rfl z) (fun z => absurd rfl z) (hsp _ _ a ns hlen (fun _ => .inl rfl) ?_)
    exact .inr ⟨_, vs.toArray, _, hk, rfl, rfl, rfl, by rw [List.size_toArray, hints.length]; exact hl, by simpa using rv⟩
  | none =>
    let H : Hp := fun b => if b = a then some (.frz { cls := .type "list", data := .seq vs.toArray } (.lst (ns.map V.int))) else none
    have Ha : H a = some (.frz { cls := .type "list", data := .seq vs.toArray } (.lst (ns.map V.int))) := if_pos rfl
    have Hn : ∀ {b : Addr}, b ≠ a → H b = none := fun h => if_neg h
    have only : Only H := fun b => by
      by_cases hb : b = a
      · exact .inr ⟨_, _, by rw [hb]; exact Ha⟩
      · exact .inl (Hn hb)
    refine callG_at KX G.T.g G.T.b G.T.builtins G.T.nolimit hg hobj hr hF hb H only (fun b u z => ?_) (fun b z => ?_) (fun _ => hk) (hsp _ H a ns hlen only (.inl (.inr ⟨_, Ha⟩)))
    · by_cases hb : b = a
      · rw [hb, Ha] at z
        cases z
        rw [hb]
        exact ⟨hobj, by rw [List.length_map]; exact hl, vs, _, rv, hobj⟩
      · rw [Hn hb] at z
        cases z
    · by_cases hb : b = a
      · exact hb
      · exact absurd (Hn hb) z
end L2
namespace L2
open PySem PySem.Spec PyProof.Rows
/-! ### f(k = v, ..), nothing by position -/
def tCallKw (sp : Sp) (gV : List V → List V → List V) (E : XK) (tk : TA) : TE := fun σ H Q => tk σ H fun zs H1 => sp (gV [] zs) H1 Q E
section
variable {X : Cx} {CX : CXT} {k : Nat} {f : Addr} {fd : FuncData} {ps ks : List Str} {sp : Sp} {E : XK} {x : Str} {p pos : Pos} {kws : List Keyword} {tk : TA} {g : List Value → List Value → List Value} {gV : List V → List V → List V}
theorem pe_callKw (F : FnOk X.prog X.w X.K X.mg X.base CX k f fd ps sp) (hr : Room k X.A) (hg : Gl X x) (hm : X.mg x = some (.ref f)) (hk : PySem.W.keepIn X.K (.ref f) = true) (hb : KBinds X.K fd ps ks g gV) (hx : Passes CX X E)
    (hkw : PK X kws tk) (hall : (backToKw pos (keywordEach kws X.env)).all (·.1.isSome) = true := by rfl) (hks : (backToKw pos (keywordEach kws X.env)).filterMap (·.1) = ks := by rfl) (hdb : (x == ("__debug__" : Str)) = false := by decide)
    (hpl : ((backTo pos (starEach [] X.env)).any (·.1) || (backToKw pos (keywordEach kws X.env)).any (·.1.isNone)) = false := by rfl) :
    PE X (.Call (.Name x p) [] kws pos) (tCallKw sp gV E tk) := by
  refine ⟨fun pins s σ H Q I h => wpAny_Call_Name_kw (ld_glob I hg hm ?_ hdb)⟩
  refine PySem.W.callWith_KW0 (h₀ := X.base) I.ok.mod.kin hk hall (thn (hkw.run pos pins s σ H _ I h) fun ws s2 hh => ?_) hpl
  obtain ⟨zs, H2, I2, rz, q2⟩ := hh
  refine ⟨I2.kIn, ?_⟩
  rw [hks]
  exact run_fnk (us := []) (vs := []) F hr hb hx I2 .nil rz q2
end
end L2
namespace K7
open PySem PySem.Spec PyProof.Rows L2
/-! ### written data: what it is, wherever it lies -/
def tDat (d : PyData) : TE := fun _ H Q => ∀ (v : V) (H' : Hp), Same H H' → Dat H' v d → Q v H'
def tDats (ds : List PyData) : TA := fun _ H Q => ∀ (vs : List V) (H' : Hp), Same H H' → DatAll H' vs ds → Q vs H'
section
variable {X : Cx} {e : Expr} {es : List Expr} {d : PyData} {ds : List PyData}
theorem pe_weak {t t' : TE} (h : PE X e t) (w : ∀ σ H Q, t' σ H Q → t σ H Q) : PE X e t' := ⟨fun pins s σ H Q I hq => h.run pins s σ H Q I (w σ H Q hq)⟩
theorem pa_weak {t t' : TA} (h : PA X es t) (w : ∀ σ H Q, t' σ H Q → t σ H Q) : PA X es t' := ⟨fun pos pins s σ H Q I hq => h.run pos pins s σ H Q I (w σ H Q hq)⟩
theorem pd_nil : PA X [] (tDats []) := pa_weak pa_nil fun σ H Q h => h [] H (Same.refl H) .nil
theorem pd_cons (a : PE X e (tDat d)) (b : PA X es (tDats ds)) (hs : starEach (e :: es) X.env = (false, eval e X.env) :: starEach es X.env := by rfl) : PA X (e :: es) (tDats (d :: ds)) :=
  pa_weak (pa_cons a b hs) fun σ H Q h v H1 S1 dv vs H2 S2 dvs => h (v :: vs) H2 (S1.trans S2) (.cons (dv.same S2) dvs)
theorem pd_tup {ctx : Nat} {pos : Pos} (hl : ds.length ≤ 1000) (a : PA X es (tDats ds)) : PE X (.Tuple es ctx pos) (tDat (.tuple ds)) :=
  pe_weak (pe_tup a) fun σ H Q h vs H1 S1 dvs => ⟨by rw [dvs.len, sizeLine_eq]; omega, fun p np => h (.ref p) _ (S1.trans (same_new np)) (.tup upd_same (dvs.same (same_new np)))⟩
theorem pd_lst {pos : Pos} (hl : ds.length ≤ 1000) (a : PA X es (tDats ds)) : PE X (.List es pos) (tDat (.list ds)) :=
  pe_weak (pe_lst a) fun σ H Q h vs H1 S1 dvs => ⟨by rw [dvs.len, sizeLine_eq]; omega, fun p np => h (.ref p) _ (S1.trans (same_new np)) (.lst upd_same (dvs.same (same_new np)))⟩
theorem pd_of {v : V} (a : PE X e (tC v)) (h : ∀ H : Hp, Dat H v d) : PE X e (tDat d) := pe_weak a fun σ H Q q => q v H (Same.refl H) (h H)
theorem pd_none (a : PE X e (tC .non)) : PE X e (tDat .none) := pd_of a fun _ => .non
theorem pd_bool {b : Bool} (a : PE X e (tC (.bl b))) : PE X e (tDat (.bool b)) := pd_of a fun _ => .bl b
theorem pd_int {i : Int} (a : PE X e (tC (.int i))) : PE X e (tDat (.int i)) := pd_of a fun _ => .int i
theorem pd_str {x : Str} (hx : x.length ≤ 1000) (a : PE X e (tC (.str x))) : PE X e (tDat (.str x)) := pd_of a fun _ => .str x hx
theorem pd_neg {i : Int} {pos : Pos} (a : PE X e (tC (.int i))) : PE X (.UnaryOp .USub e pos) (tDat (.int (-i))) := pe_weak (pe_un un_neg a) fun σ H Q q => ⟨i, rfl, q _ H (Same.refl H) (.int _)⟩
theorem pd_dict {pos : Pos} : PE X (.Dict [] [] pos) (tDat (.dict [])) := pe_weak pe_dnewK fun σ H Q q p np => q (.ref p) _ (same_new np) (.d0 upd_same)
end
end K7
set_option maxRecDepth 100000
set_option maxHeartbeats 4000000
namespace K7
open PySem PySem.Spec PyProof.Rows L2
/-! ### values as the makers give them -/
mutual
def fineB (s : Nat) : PyData → Bool
  | .int i => decide (i.natAbs < 10 ^ (40 + s))
  | .str x => x.cps.toList.all (fun c => decide (c < 128)) && decide (x.length ≤ 200 * (s + 1))
  | .list l => fineAll s l
  | .tuple l => fineAll s l
  | .dict kv => kv.isEmpty
  | .none => true
  | .bool _ => true
def fineAll (s : Nat) : List PyData → Bool
  | [] => true
  | d :: ds => fineB s d && fineAll s ds
end
mutual
def mass : PyData → Nat
  | .str x => 1 + x.cps.size
  | .list l => 1 + massAll l
  | .tuple l => 1 + massAll l
  | .dict _ => 1
  | .none => 1
  | .bool _ => 1
  | .int _ => 1
def massAll : List PyData → Nat
  | [] => 0
  | d :: ds => mass d + massAll ds
end
theorem fineAll_iff {s : Nat} : ∀ {l : List PyData}, fineAll s l = true ↔ ∀ d ∈ l, fineB s d = true
  | [] => by simp [fineAll]
  | a :: l => by simp [fineAll, fineAll_iff (l := l)]
theorem massAll_append : ∀ (a b : List PyData), massAll (a ++ b) = massAll a + massAll b
  | [], b => by simp [massAll]
  | x :: a, b => by
    rw [List.cons_append, massAll, massAll, massAll_append a b]
    omega
theorem depthAll_append : ∀ (a b : List PyData), PyData.depthAll (a ++ b) = max (PyData.depthAll a) (PyData.depthAll b)
  | [], b => by simp [PyData.depthAll]
  | x :: a, b => by
    rw [List.cons_append, PyData.depthAll, PyData.depthAll, depthAll_append a b]
    omega
theorem mass_pos (d : PyData) : 1 ≤ mass d := by
  cases d <;> simp [mass]
mutual
theorem fine_bulk {s : Nat} : ∀ d : PyData, fineB s d = true → d.bulk + 1 ≤ mass d
  | .str x, _ => by
    simp only [PyData.bulk, mass]
    omega
  | .list l, h => by
    have z := fine_bulkAll l (by simpa only [fineB] using h)
    simp only [PyData.bulk, mass]
    omega
  | .tuple l, h => by
    have z := fine_bulkAll l (by simpa only [fineB] using h)
    simp only [PyData.bulk, mass]
    omega
  | .dict kv, h => by
    have e : kv = [] := by simpa [fineB] using h
    subst e
    simp [PyData.bulk, PyData.bulkKv, mass]
  | .none, _ => by simp [PyData.bulk, mass]
  | .bool _, _ => by simp [PyData.bulk, mass]
  | .int _, _ => by simp [PyData.bulk, mass]
theorem fine_bulkAll {s : Nat} : ∀ l : List PyData, fineAll s l = true → PyData.bulkAll l ≤ massAll l
  | [], _ => by simp [PyData.bulkAll, massAll]
  | d :: ds, h => by
    have h' : fineB s d = true ∧ fineAll s ds = true := by simpa [fineAll] using h
    have z := fine_bulk d h'.1
    have y := fine_bulkAll ds h'.2
    rw [PyData.bulkAll, massAll]
    omega
end
mutual
theorem fine_int {s : Nat} (hs : s ≤ 10) : ∀ d : PyData, fineB s d = true → okInt d
  | .int i, h => by
    have h' : i.natAbs < 10 ^ (40 + s) := by simpa [fineB] using h
    simp only [okInt]
    exact Nat.lt_of_lt_of_le h' (Nat.pow_le_pow_right (by decide) (by omega))
  | .list l, h => by
    simp only [okInt]
    exact fine_ints hs l (by simpa only [fineB] using h)
  | .tuple l, h => by
    simp only [okInt]
    exact fine_ints hs l (by simpa only [fineB] using h)
  | .str _, _ => by simp [okInt]
  | .dict _, _ => by simp [okInt]
  | .none, _ => by simp [okInt]
  | .bool _, _ => by simp [okInt]
theorem fine_ints {s : Nat} (hs : s ≤ 10) : ∀ l : List PyData, fineAll s l = true → okInts l
  | [], _ => by simp [okInts]
  | d :: ds, h => by
    have h' : fineB s d = true ∧ fineAll s ds = true := by simpa [fineAll] using h
    simp only [okInts]
    exact ⟨fine_int hs d h'.1, fine_ints hs ds h'.2⟩
end
mutual
theorem fine_short {s : Nat} (hs : s ≤ 10) : ∀ d : PyData, fineB s d = true → d.leavesShort 60 = true
  | .int i, h => by
    have h' : i.natAbs < 10 ^ (40 + s) := by simpa [fineB] using h
    simp only [PyData.leavesShort]
    have z := int_text_length_le10 (a := i) (k := 40 + s) (by omega) h'
    refine decide_eq_true ?_
    simp only [PyData.shown]
    rw [PySem.ofString_length]
    omega
  | .str x, h => by
    have h' : x.cps.toList.all (fun c => decide (c < 128)) = true := by
      rw [fineB, Bool.and_eq_true] at h
      exact h.1
    simp only [PyData.leavesShort, List.all_eq_true, decide_eq_true_eq] at h' ⊢
    intro c hc
    have := h' c hc
    omega
  | .list l, h => by
    simp only [PyData.leavesShort]
    exact fine_shorts hs l (by simpa only [fineB] using h)
  | .tuple l, h => by
    simp only [PyData.leavesShort]
    exact fine_shorts hs l (by simpa only [fineB] using h)
  | .dict kv, h => by
    have e : kv = [] := by simpa [fineB] using h
    subst e
    simp [PyData.leavesShort, PyData.leavesShortKv]
  | .none, _ => by simp [PyData.leavesShort]
  | .bool _, _ => by simp [PyData.leavesShort]
theorem fine_shorts {s : Nat} (hs : s ≤ 10) : ∀ l : List PyData, fineAll s l = true → PyData.leavesShortAll 60 l = true
  | [], _ => by simp [PyData.leavesShortAll]
  | d :: ds, h => by
    have h' : fineB s d = true ∧ fineAll s ds = true := by simpa [fineAll] using h
    simp only [PyData.leavesShortAll, Bool.and_eq_true]
    exact ⟨fine_short hs d h'.1, fine_shorts hs ds h'.2⟩
end
structure Ok (d : PyData) : Prop where
  oki : okInt d
  dep : d.depth ≤ 64
  len : d.shown.length ≤ sizeLine
theorem fine_ok {s : Nat} {d : PyData} (hs : s ≤ 10) (h : fineB s d = true) (hm : mass d ≤ 8000) (hd : d.depth ≤ 60) : Ok d := by
  refine ⟨fine_int hs d h, Nat.le_trans hd (by decide), ?_⟩
  have z := PyData.shown_le_bulk 60 (by decide) d (fine_short hs d h)
  have y := fine_bulk d h
  rw [sizeLine_eq]
  omega
/-- what a maker gives: fine, and no larger than m, no deeper than n -/
structure Fine (s m n : Nat) (d : PyData) : Prop where
  f : fineB s d = true
  m : mass d ≤ m
  n : d.depth ≤ n
theorem Fine.ok {s m n : Nat} {d : PyData} (F : Fine s m n d) (hs : s ≤ 10) (hm : m ≤ 8000) (hn : n ≤ 60) : Ok d := fine_ok hs F.f (Nat.le_trans F.m hm) (Nat.le_trans F.n hn)
theorem Fine.mono {s m n m' n' : Nat} {d : PyData} (F : Fine s m n d) (hm : m ≤ m') (hn : n ≤ n') : Fine s m' n' d := ⟨F.f, Nat.le_trans F.m hm, Nat.le_trans F.n hn⟩
end K7
set_option maxRecDepth 100000
set_option maxHeartbeats 4000000
namespace K7
open PySem PySem.Spec PyProof.Rows L2 TL
/-! ### the text of an item -/
def intT (i : Int) : Str := toString i
mutual
def txt : PyData → Str
  | .tuple l => ("[" : Str) ++ Txt.join " " (txts l) ++ ("]" : Str)
  | .bool b => if b = true then "yes" else "no"
  | .str x => x
  | .int i => intT i
  | .none => "none"
  | .list _ => ""
  | .dict _ => ""
def txts : List PyData → List Str
  | [] => []
  | d :: ds => txt d :: txts ds
end
def names9 : List Str := ["a", "b", "z", "ab", "zzzzzz", "yes", "no", "other", "none"]
mutual
/-- what stands inside of an item -/
def innB : PyData → Bool
  | .int i => decide (-100 ≤ i) && decide (i ≤ 500)
  | .str x => decide (x ∈ names9)
  | .tuple l => innBs l
  | _ => false
def innBs : List PyData → Bool
  | [] => true
  | d :: ds => innB d && innBs ds
end
mutual
def wt : PyData → Nat
  | .tuple l => 3 + wts l
  | _ => 8
def wts : List PyData → Nat
  | [] => 0
  | d :: ds => wt d + wts ds
end
/-! ints and names -/
def digB (c : Nat) : Bool := c == 45 || (decide (48 ≤ c) && decide (c ≤ 57))
def lowB (c : Nat) : Bool := decide (97 ≤ c) && decide (c ≤ 122)
def decL (l : List Nat) : Int := match l with
  | 45 :: r => -((r.foldl (fun a c => 10 * a + (c - 48)) 0 : Nat) : Int)
  | r => ((r.foldl (fun a c => 10 * a + (c - 48)) 0 : Nat) : Int)
theorem int_tab : ∀ k : Fin 601, decL (tl (intT ((k.val : Int) - 100))) = (k.val : Int) - 100 ∧ (tl (intT ((k.val : Int) - 100))).all digB = true ∧ (tl (intT ((k.val : Int) - 100))).isEmpty = false ∧ (intT ((k.val : Int) - 100)).length ≤ 5 := by decide +kernel
theorem int_of {i : Int} (h : innB (.int i) = true) : decL (tl (intT i)) = i ∧ (tl (intT i)).all digB = true ∧ (tl (intT i)).isEmpty = false ∧ (intT i).length ≤ 5 := by
  rw [innB, Bool.and_eq_true] at h
  have h1 := of_decide_eq_true h.1
  have h2 := of_decide_eq_true h.2
  have z := int_tab ⟨(i + 100).toNat, by omega⟩
  have e : (((i + 100).toNat : Nat) : Int) - 100 = i := by omega
  rw [e] at z
  exact z
theorem name_tab : ∀ x ∈ names9, (tl x).all lowB = true ∧ (tl x).isEmpty = false ∧ x.length ≤ 6 := by decide +kernel
theorem name_of {x : Str} (h : innB (.str x) = true) : (tl x).all lowB = true ∧ (tl x).isEmpty = false ∧ x.length ≤ 6 := by
  rw [innB] at h
  exact name_tab x (of_decide_eq_true h)
/-! the signs up to a space or a closing bracket -/
def Del (r : List Nat) : Prop := r = [] ∨ ∃ c t, r = c :: t ∧ (c = 32 ∨ c = 93)
def Free (a : List Nat) : Prop := ∀ c ∈ a, c ≠ 32 ∧ c ≠ 93
theorem span : ∀ {a b r1 r2 : List Nat}, Free a → Free b → Del r1 → Del r2 → a ++ r1 = b ++ r2 → a = b ∧ r1 = r2
  | [], [], _, _, _, _, _, _, h => ⟨rfl, h⟩
  | [], b :: l, r1, r2, _, hb, h1, _, h => by
    rcases h1 with rfl | ⟨c, t, rfl, hc⟩
    · cases h
    · have e : c = b := by
        injection h
      have z := hb b (List.mem_cons_self ..)
      omega
  | a :: l, [], r1, r2, ha, _, _, h2, h => by
    rcases h2 with rfl | ⟨c, t, rfl, hc⟩
    · cases h
    · have e : a = c := by
        injection h
      have z := ha a (List.mem_cons_self ..)
      omega
  | a :: l, b :: m, r1, r2, ha, hb, h1, h2, h => by
    injection h with e h'
    obtain ⟨x, y⟩ := span (fun c hc => ha c (List.mem_cons_of_mem _ hc)) (fun c hc => hb c (List.mem_cons_of_mem _ hc)) h1 h2 h'
    exact ⟨by rw [e, x], y⟩
theorem free_dig {l : List Nat} (h : l.all digB = true) : Free l := fun c hc => by
  have z := List.all_eq_true.mp h c hc
  unfold digB at z
  simp at z
  omega
theorem free_low {l : List Nat} (h : l.all lowB = true) : Free l := fun c hc => by
  have z := List.all_eq_true.mp h c hc
  unfold lowB at z
  simp at z
  omega
theorem tl_tup (l : List PyData) : tl (txt (.tuple l)) = 91 :: (joinL [32] ((txts l).map tl) ++ [93]) := by
  rw [txt, join_eq, tl_append, tl_append, tl_join]
  rfl
/-- what follows the first of several texts -/
def rest (ds : List PyData) (r : List Nat) : List Nat := match ds with
  | [] => 93 :: r
  | _ :: _ => 32 :: (joinL [32] ((txts ds).map tl) ++ 93 :: r)
theorem rest_del {ds : List PyData} {r : List Nat} : Del (rest ds r) := by
  cases ds with
  | nil => exact .inr ⟨93, r, rfl, .inr rfl⟩
  | cons d l => exact .inr ⟨32, _, rfl, .inl rfl⟩
theorem join_rest (d : PyData) (ds : List PyData) (r : List Nat) : joinL [32] ((txts (d :: ds)).map tl) ++ 93 :: r = tl (txt d) ++ rest ds r := by
  cases ds with
  | nil =>
    rw [txts, txts]
    rfl
  | cons e l =>
    rw [txts, txts]
    show (tl (txt d) ++ ([32] ++ joinL [32] ((txt e :: txts l).map tl))) ++ 93 :: r = _
    rw [List.append_assoc, List.append_assoc]
    show _ = tl (txt d) ++ (32 :: (joinL [32] ((txts (e :: l)).map tl) ++ 93 :: r))
    rw [txts]
    rfl
/-- the first sign of an inner text: no closing bracket -/
theorem inn_first : ∀ {d : PyData}, innB d = true → ∃ c t, tl (txt d) = c :: t ∧ c ≠ 93 ∧ ((∃ l, d = .tuple l ∧ c = 91) ∨ (isTup d = false ∧ c ≠ 91 ∧ Free (tl (txt d))))
  | .int i, h => by
    obtain ⟨_, a, b, _⟩ := int_of h
    rw [txt]
    cases e : tl (intT i) with
    | nil =>
      rw [e] at b
      cases b
    | cons c t =>
      rw [e] at a
      have z := List.all_eq_true.mp a c (List.mem_cons_self ..)
      unfold digB at z
      simp at z
      exact ⟨c, t, rfl, by omega, .inr ⟨rfl, by omega, free_dig a⟩⟩
  | .str x, h => by
    obtain ⟨a, b, _⟩ := name_of h
    rw [txt]
    cases e : tl x with
    | nil =>
      rw [e] at b
      cases b
    | cons c t =>
      rw [e] at a
      have z := List.all_eq_true.mp a c (List.mem_cons_self ..)
      unfold lowB at z
      simp at z
      exact ⟨c, t, rfl, by omega, .inr ⟨rfl, by omega, free_low a⟩⟩
  | .tuple l, _ => ⟨91, _, tl_tup l, by decide, .inl ⟨l, rfl, rfl⟩⟩
  | .none, h => by
    simp [innB] at h
  | .bool _, h => by
    simp [innB] at h
  | .list _, h => by
    simp [innB] at h
  | .dict _, h => by
    simp [innB] at h
theorem tl_inj {x y : Str} (h : tl x = tl y) : x = y := by
  cases x with
  | mk a =>
    cases y with
    | mk b =>
      have e : a = b := Array.toList_inj.mp h
      rw [e]
/-- two that are no tuples -/
theorem flat_inj {d e : PyData} (hd : innB d = true) (he : innB e = true) (td : isTup d = false) (te : isTup e = false) (h : tl (txt d) = tl (txt e)) : d = e := by
  have dl : ∀ {i : Int} {x : Str}, innB (.int i) = true → innB (.str x) = true → tl (intT i) = tl x → False := fun {i x} h1 h2 e => by
    obtain ⟨_, a, b, _⟩ := int_of h1
    obtain ⟨a2, b2, _⟩ := name_of h2
    rw [e] at a
    cases ex : tl x with
    | nil =>
      rw [ex] at b2
      cases b2
    | cons c t =>
      rw [ex] at a a2
      have z := List.all_eq_true.mp a c (List.mem_cons_self ..)
      have z2 := List.all_eq_true.mp a2 c (List.mem_cons_self ..)
      unfold digB at z
      unfold lowB at z2
      simp at z z2
      omega
  match d, e, hd, he, td, te, h with
  | .int i, .int j, hd, he, _, _, h =>
    rw [txt, txt] at h
    obtain ⟨a, _⟩ := int_of hd
    obtain ⟨b, _⟩ := int_of he
    rw [← a, ← b, h]
  | .int i, .str y, hd, he, _, _, h =>
    rw [txt, txt] at h
    exact (dl hd he h).elim
  | .str x, .int j, hd, he, _, _, h =>
    rw [txt, txt] at h
    exact (dl he hd h.symm).elim
  | .str x, .str y, _, _, _, _, h =>
    rw [txt, txt] at h
    rw [tl_inj h]
mutual
theorem inj : ∀ (d e : PyData) (r1 r2 : List Nat), innB d = true → innB e = true → Del r1 → Del r2 → tl (txt d) ++ r1 = tl (txt e) ++ r2 → d = e ∧ r1 = r2
  | .tuple l, e, r1, r2, hd, he, h1, h2, h => by
    obtain ⟨c, t, ec, _, q⟩ := inn_first he
    rcases q with ⟨m, rfl, rfl⟩ | ⟨_, n91, _⟩
    · rw [tl_tup, tl_tup, List.cons_append, List.cons_append] at h
      injection h with _ h
      rw [List.append_assoc, List.append_assoc] at h
      obtain ⟨x, y⟩ := injs l m r1 r2 (by rw [innB] at hd; exact hd) (by rw [innB] at he; exact he) h
      exact ⟨by rw [x], y⟩
    · rw [tl_tup, ec, List.cons_append, List.cons_append] at h
      injection h with e1 _
      exact absurd e1.symm n91
  | .int i, e, r1, r2, hd, he, h1, h2, h => by
    obtain ⟨c1, t1, ec1, _, q1⟩ := inn_first hd
    obtain ⟨c, t, ec, _, q⟩ := inn_first he
    rcases q1 with ⟨m, z, _⟩ | ⟨f1, n1, fr1⟩
    · cases z
    rcases q with ⟨m, rfl, rfl⟩ | ⟨f2, n2, fr2⟩
    · rw [tl_tup, ec1, List.cons_append, List.cons_append] at h
      injection h with e1 _
      exact absurd e1 n1
    · obtain ⟨x, y⟩ := span fr1 fr2 h1 h2 h
      exact ⟨flat_inj hd he f1 f2 x, y⟩
  | .str i, e, r1, r2, hd, he, h1, h2, h => by
    obtain ⟨c1, t1, ec1, _, q1⟩ := inn_first hd
    obtain ⟨c, t, ec, _, q⟩ := inn_first he
    rcases q1 with ⟨m, z, _⟩ | ⟨f1, n1, fr1⟩
    · cases z
    rcases q with ⟨m, rfl, rfl⟩ | ⟨f2, n2, fr2⟩
    · rw [tl_tup, ec1, List.cons_append, List.cons_append] at h
      injection h with e1 _
      exact absurd e1 n1
    · obtain ⟨x, y⟩ := span fr1 fr2 h1 h2 h
      exact ⟨flat_inj hd he f1 f2 x, y⟩
  | .none, _, _, _, hd, _, _, _, _ => by
    simp [innB] at hd
  | .bool _, _, _, _, hd, _, _, _, _ => by
    simp [innB] at hd
  | .list _, _, _, _, hd, _, _, _, _ => by
    simp [innB] at hd
  | .dict _, _, _, _, hd, _, _, _, _ => by
    simp [innB] at hd
theorem injs : ∀ (ds es : List PyData) (r1 r2 : List Nat), innBs ds = true → innBs es = true → joinL [32] ((txts ds).map tl) ++ 93 :: r1 = joinL [32] ((txts es).map tl) ++ 93 :: r2 → ds = es ∧ r1 = r2
  | [], [], r1, r2, _, _, h => by
    injection h with _ h
    exact ⟨rfl, h⟩
  | [], e :: es, r1, r2, _, he, h => by
    rw [join_rest] at h
    have he' : innB e = true := by
      rw [innBs, Bool.and_eq_true] at he
      exact he.1
    obtain ⟨c, t, ec, n, _⟩ := inn_first he'
    rw [ec] at h
    injection h with e1 _
    exact absurd e1.symm n
  | d :: ds, [], r1, r2, hd, _, h => by
    rw [join_rest] at h
    have hd' : innB d = true := by
      rw [innBs, Bool.and_eq_true] at hd
      exact hd.1
    obtain ⟨c, t, ec, n, _⟩ := inn_first hd'
    rw [ec] at h
    injection h with e1 _
    exact absurd e1 n
  | d :: ds, e :: es, r1, r2, hd, he, h => by
    rw [innBs, Bool.and_eq_true] at hd he
    rw [join_rest, join_rest] at h
    obtain ⟨x, y⟩ := inj d e _ _ hd.1 he.1 rest_del rest_del h
    cases ds with
    | nil =>
      cases es with
      | nil =>
        injection y with _ y
        exact ⟨by rw [x], y⟩
      | cons e2 l =>
        injection y with y1 _
        exact absurd y1 (by decide)
    | cons d2 l =>
      cases es with
      | nil =>
        injection y with y1 _
        exact absurd y1 (by decide)
      | cons e2 m =>
        injection y with _ y
        obtain ⟨x2, y2⟩ := injs (d2 :: l) (e2 :: m) r1 r2 hd.2 he.2 y
        exact ⟨by rw [x, x2], y2⟩
end
/-- an item: a bool, or what stands inside of one -/
def itemB : PyData → Bool
  | .bool _ => true
  | d => innB d
theorem tup_inj {d e : PyData} (hd : innB d = true) (td : isTup d = true) (he : itemB e = true) (h : txt d = txt e) : d = e := by
  have h' := congrArg tl h
  match d, td with
  | .tuple l, _ =>
    cases e with
    | bool b =>
      rw [tl_tup, txt] at h'
      cases b <;> exact absurd h' (by intro z; injection z with z1 _; exact absurd z1 (by decide +kernel))
    | int i => exact (inj _ _ [] [] hd he (.inl rfl) (.inl rfl) (by rw [List.append_nil, List.append_nil]; exact h')).1
    | str i => exact (inj _ _ [] [] hd he (.inl rfl) (.inl rfl) (by rw [List.append_nil, List.append_nil]; exact h')).1
    | tuple i => exact (inj _ _ [] [] hd he (.inl rfl) (.inl rfl) (by rw [List.append_nil, List.append_nil]; exact h')).1
    | none => exact (inj _ _ [] [] hd he (.inl rfl) (.inl rfl) (by rw [List.append_nil, List.append_nil]; exact h')).1
    | list i => exact (inj _ _ [] [] hd he (.inl rfl) (.inl rfl) (by rw [List.append_nil, List.append_nil]; exact h')).1
    | dict i => exact (inj _ _ [] [] hd he (.inl rfl) (.inl rfl) (by rw [List.append_nil, List.append_nil]; exact h')).1
end K7
set_option maxRecDepth 100000
set_option maxHeartbeats 4000000
namespace K7
open PySem PySem.Spec PyProof.Rows L2 TL
/-! ### how long texts are, of which signs -/
theorem joinL_len : ∀ l : List (List Nat), (joinL [32] l).length ≤ (l.map fun x => x.length + 1).sum
  | [] => Nat.le_refl _
  | [p] => by
    show p.length ≤ p.length + 1 + 0
    omega
  | p :: q :: r => by
    have z := joinL_len (q :: r)
    show (p ++ ([32] ++ joinL [32] (q :: r))).length ≤ (p.length + 1) + ((q :: r).map fun x => x.length + 1).sum
    rw [List.length_append, List.length_append, List.length_singleton]
    omega
theorem joinL_all {f : Nat → Bool} (h32 : f 32 = true) : ∀ l : List (List Nat), (∀ x ∈ l, x.all f = true) → (joinL [32] l).all f = true
  | [], _ => rfl
  | [p], h => h p (List.mem_cons_self ..)
  | p :: q :: r, h => by
    have z := joinL_all h32 (q :: r) fun x hx => h x (List.mem_cons_of_mem _ hx)
    show (p ++ ([32] ++ joinL [32] (q :: r))).all f = true
    rw [List.all_append, List.all_append, h p (List.mem_cons_self ..), z, List.all_cons, h32]
    rfl
theorem tl_len (x : Str) : (tl x).length = x.length := by
  show x.cps.toList.length = x.cps.size
  rw [Array.length_toList]
def ascB (c : Nat) : Bool := decide (c < 128)
theorem all_imp {f g : Nat → Bool} (h : ∀ c, f c = true → g c = true) {l : List Nat} (a : l.all f = true) : l.all g = true := List.all_eq_true.mpr fun c hc => h c (List.all_eq_true.mp a c hc)
theorem dig_asc (c : Nat) (h : digB c = true) : ascB c = true := by
  unfold digB at h
  simp at h
  exact decide_eq_true (by omega)
theorem low_asc (c : Nat) (h : lowB c = true) : ascB c = true := by
  unfold lowB at h
  simp at h
  exact decide_eq_true (by omega)
mutual
theorem inn_len : ∀ d : PyData, innB d = true → (txt d).length + 1 ≤ wt d ∧ (tl (txt d)).all ascB = true
  | .int i, h => by
    obtain ⟨_, a, _, l⟩ := int_of h
    rw [txt, wt]
    · exact ⟨by omega, all_imp dig_asc a⟩
    · intro l e
      cases e
  | .str x, h => by
    obtain ⟨a, _, l⟩ := name_of h
    rw [txt, wt]
    · exact ⟨by omega, all_imp low_asc a⟩
    · intro l e
      cases e
  | .tuple l, h => by
    rw [innB] at h
    obtain ⟨a, b⟩ := inns_len l h
    have e := tl_len (txt (.tuple l))
    have z := joinL_len ((txts l).map tl)
    rw [tl_tup] at e ⊢
    rw [List.length_cons, List.length_append, List.length_singleton] at e
    refine ⟨by rw [wt]; omega, ?_⟩
    rw [List.all_cons, List.all_append, joinL_all (by decide) _ b]
    rfl
  | .none, h => by simp [innB] at h
  | .bool _, h => by simp [innB] at h
  | .list _, h => by simp [innB] at h
  | .dict _, h => by simp [innB] at h
theorem inns_len : ∀ ds : List PyData, innBs ds = true → (((txts ds).map tl).map fun x => x.length + 1).sum ≤ wts ds ∧ ∀ x ∈ (txts ds).map tl, x.all ascB = true
  | [], _ => ⟨by simp [txts], by simp [txts]⟩
  | d :: ds, h => by
    rw [innBs, Bool.and_eq_true] at h
    obtain ⟨a1, a2⟩ := inn_len d h.1
    obtain ⟨b1, b2⟩ := inns_len ds h.2
    rw [txts, wts]
    refine ⟨?_, ?_⟩
    · rw [List.map_cons, List.map_cons, List.sum_cons, tl_len]
      omega
    · intro x hx
      rcases List.mem_cons.mp hx with e | hx
      · rw [e]
        exact a2
      · exact b2 x hx
end
theorem item_len {d : PyData} (h : itemB d = true) : (txt d).length + 1 ≤ wt d ∧ (tl (txt d)).all ascB = true := by
  match d, h with
  | .bool b, _ =>
    cases b <;> exact ⟨by decide +kernel, by decide +kernel⟩
  | .int i, h => exact inn_len _ h
  | .str i, h => exact inn_len _ h
  | .tuple i, h => exact inn_len _ h
/-- the texts of the items inside, joined: short enough -/
theorem sum_len (ds : List PyData) (h : innBs ds = true) : ((txts ds).map (·.length)).sum + (txts ds).length * (" " : Str).length ≤ wts ds := by
  have z := (inns_len ds h).1
  have e : ∀ l : List Str, ((l.map tl).map fun x => x.length + 1).sum = (l.map (·.length)).sum + l.length := fun l => by
    induction l with
    | nil => rfl
    | cons x l ih =>
      rw [List.map_cons, List.map_cons, List.map_cons, List.sum_cons, List.sum_cons, List.length_cons, ih, tl_len]
      omega
  rw [e] at z
  have one : (" " : Str).length = 1 := by decide +kernel
  rw [one]
  omega
theorem txts_len : ∀ ds : List PyData, (txts ds).length = ds.length
  | [] => by rw [txts]; rfl
  | d :: ds => by rw [txts, List.length_cons, List.length_cons, txts_len ds]
mutual
theorem inn_fine : ∀ d : PyData, innB d = true → fineB 1 d = true ∧ mass d ≤ wt d
  | .int i, h => by
    rw [innB, Bool.and_eq_true] at h
    have h1 := of_decide_eq_true h.1
    have h2 := of_decide_eq_true h.2
    refine ⟨?_, ?_⟩
    · rw [fineB]
      exact decide_eq_true (Nat.lt_of_le_of_lt (show i.natAbs ≤ 500 by omega) (by decide +kernel))
    · rw [mass, wt]
      · decide
      · intro l e
        cases e
  | .str x, h => by
    obtain ⟨a, _, l⟩ := name_of h
    refine ⟨?_, ?_⟩
    · rw [fineB, Bool.and_eq_true]
      exact ⟨all_imp low_asc a, decide_eq_true (by omega)⟩
    · rw [mass, wt]
      · have : x.cps.size = x.length := rfl
        omega
      · intro l e
        cases e
  | .tuple l, h => by
    rw [innB] at h
    obtain ⟨a, b⟩ := inns_fine l h
    rw [fineB, mass, wt]
    exact ⟨a, by omega⟩
  | .none, h => by simp [innB] at h
  | .bool _, h => by simp [innB] at h
  | .list _, h => by simp [innB] at h
  | .dict _, h => by simp [innB] at h
theorem inns_fine : ∀ ds : List PyData, innBs ds = true → fineAll 1 ds = true ∧ massAll ds ≤ wts ds
  | [], _ => ⟨rfl, by simp [massAll, wts]⟩
  | d :: ds, h => by
    rw [innBs, Bool.and_eq_true] at h
    obtain ⟨a1, a2⟩ := inn_fine d h.1
    obtain ⟨b1, b2⟩ := inns_fine ds h.2
    rw [fineAll, massAll, wts, a1, b1]
    exact ⟨rfl, by omega⟩
end
theorem item_fine {d : PyData} (h : itemB d = true) : fineB 1 d = true ∧ mass d ≤ wt d := by
  match d, h with
  | .bool b, _ => exact ⟨rfl, by cases b <;> decide⟩
  | .int i, h => exact inn_fine _ h
  | .str i, h => exact inn_fine _ h
  | .tuple i, h => exact inn_fine _ h
/-- what the maker gives -/
structure Item (d : PyData) : Prop where
  b : itemB d = true
  n : d.depth ≤ 6
  w : wt d ≤ 300
/-- what stands inside -/
structure Inn (w n : Nat) (d : PyData) : Prop where
  b : innB d = true
  n : d.depth ≤ n
  w : wt d ≤ w
theorem inn_item {d : PyData} (h : innB d = true) : itemB d = true := by
  match d, h with
  | .bool b, _ => rfl
  | .int i, h => exact h
  | .str i, h => exact h
  | .tuple i, h => exact h
theorem Inn.item {w n : Nat} {d : PyData} (h : Inn w n d) (hw : w ≤ 300) (hn : n ≤ 6) : Item d := ⟨inn_item h.b, Nat.le_trans h.n hn, Nat.le_trans h.w hw⟩
end K7
set_option maxRecDepth 100000
set_option maxHeartbeats 4000000
namespace L2
open PySem PySem.Spec PyProof.Rows
/-! ### a tuple taken once, a tuple taken no times -/
theorem tuple_mul1 (l : Addr) (items : Array Value) (n : Nat) (dd : Option Addr) (sl : Array (Option Value)) (x : Int) (u : Tok) (c0 : (decide (x < -(2 ^ 63)) || decide (x ≥ 2 ^ 63)) = false) (c1 : (items.isEmpty || x == 1) = true) :
    Meets (Builtin.«tuple.__mul__» ⟨[.ref l, .int x u], []⟩) (fun _ R s => s.heap.get? l = some { cls := .type "tuple", dict := dd, data := .seq items n, slots := sl } ∧ R (.ok (.ret (Value.ref l))) s) :=
  .of_wp fun prog w A R s h => by
    obtain ⟨hp, g, d, tk, os⟩ := s
    obtain ⟨hl, h⟩ := h
    have f1 := AutoSeq1.idx_int
    wp_walk using wpAny_loadPart' hl
    repeat (first
      | (refine wpAny_ite_false (decide_eq_false (by rw [c0]; exact Bool.false_ne_true)) ?_; wp_walk using wpAny_loadPart' hl)
      | (refine wpAny_ite_true (decide_eq_true c1) ?_; wp_walk using wpAny_loadPart' hl))
    exact ⟨_, rfl, h⟩
theorem tuple_mul0 (l : Addr) (items : Array Value) (n : Nat) (dd : Option Addr) (sl : Array (Option Value)) (x : Int) (u : Tok) (c0 : (decide (x < -(2 ^ 63)) || decide (x ≥ 2 ^ 63)) = false) (c1 : (items.isEmpty || x == 1) = false) (c2 : (decide (x ≤ 0) || items.isEmpty) = true) :
    Meets (Builtin.«tuple.__mul__» ⟨[.ref l, .int x u], []⟩) (fun _ R s => s.heap.get? l = some { cls := .type "tuple", dict := dd, data := .seq items n, slots := sl } ∧
      R (.ok (.ret (Value.ref s.heap.objs.size))) { s with heap := s.heap.push { cls := Value.type "tuple", data := Data.seq #[] }, toks := s.toks }) :=
  .of_wp fun prog w A R s h => by
    obtain ⟨hp, g, d, tk, os⟩ := s
    obtain ⟨hl, h⟩ := h
    have f1 := AutoSeq1.idx_int
    wp_walk using wpAny_loadPart' hl
    repeat (first
      | (refine wpAny_ite_false (decide_eq_false (by rw [c0]; exact Bool.false_ne_true)) ?_; wp_walk using wpAny_loadPart' hl)
      | (refine wpAny_ite_false (decide_eq_false (by rw [c1]; exact Bool.false_ne_true)) ?_; wp_walk using wpAny_loadPart' hl)
      | (refine wpAny_ite_true (decide_eq_true c2) ?_; wp_walk using wpAny_loadPart' hl))
    exact ⟨_, rfl, h⟩
def rRep01 (K : PySem.W.Frag) : R2 := fun x y H Q => ∃ (l : Addr) (k : Int) (xs : List V), x = .ref l ∧ y = .int k ∧ H l = some (.tup xs) ∧ xs ≠ [] ∧ ((k = 1 ∧ Q (.ref l) H) ∨ (k = 0 ∧ ∀ p, H p = none → Q (.ref p) (upd H p (.tup []))))
section
variable {X : Cx}
theorem op_rep01 : OpR X (binaryOp .Mult) (rRep01 X.K) := by
  intro pins s σ H x y v u Q I rx ry h
  obtain ⟨l, k, xs, rfl, rfl, hT, hne, hq⟩ := h
  cases rx
  obtain ⟨t, rfl⟩ := ry
  obtain ⟨its, r, ⟨⟨cls, dd, data, sl⟩, ho, hc, n, hd⟩, hs⟩ := I.tuple (SqT.of hT)
  simp only at hc hd
  subst hc hd
  have hle : its.length = xs.length := r.length.symm
  have hi : its.toArray.isEmpty = false := by
    cases its with
    | nil => exact absurd (List.eq_nil_of_length_eq_zero hle.symm) hne
    | cons a b => rfl
  have c0 : (decide (k < -(2 ^ 63)) || decide (k ≥ 2 ^ 63)) = false := by
    rcases hq with ⟨rfl, _⟩ | ⟨rfl, _⟩ <;> decide
  refine wpAny_binaryOp_repeat_ref (T := "tuple") (U := "int") (by decide) ⟨_, ho, rfl⟩ (fun s' => typeIs_int s' k t) noFill_tuple_mul F.fills_int_mul F.slot_int_rmul repeat_tuple F.slot_int_index.lookup
    (call_meets F.slot_int_rmul (typeIs_int s k t) F.entry_int_rmul (F.args_int_rmul_2 _ _) (int_rmul_tuple k t l its.toArray n dd sl)
      ⟨ho, rfl, ⟨_, ho, rfl⟩, ?_⟩)
  rcases hq with ⟨rfl, q⟩ | ⟨rfl, q⟩
  · exact call_meets F.slot_tuple_mul ⟨_, ho, rfl⟩ F.entry_tuple_mul (F.args_tuple_mul_2 _ _) (tuple_mul1 l its.toArray n dd sl 1 t c0 (by rw [Bool.or_eq_true]; exact .inr rfl)) ⟨ho, ⟨.ref l, H, I, rfl, q⟩⟩
  · refine call_meets F.slot_tuple_mul ⟨_, ho, rfl⟩ F.entry_tuple_mul (F.args_tuple_mul_2 _ _) (tuple_mul0 l its.toArray n dd sl 0 t c0 (by rw [hi]; rfl) rfl) ⟨ho, ?_⟩
    refine ⟨.ref s.heap.objs.size, _, I.laid (t' := s.toks) (o := .tup []) (fun b ob q => Heap.get?_push_of_some _ q) (Nat.le_refl _) ?_, rfl, q _ (I.hok.fresh (Nat.le_refl _))⟩
    exact ⟨Nat.zero_le _, _, .nil, IsTup.new _ _⟩
end
end L2
set_option maxRecDepth 100000
set_option maxHeartbeats 4000000
namespace L2
open PySem PySem.Spec PyProof.Rows
theorem call_str2 {X : Cx} : CallR X (.type "str") (fun xs H Q => (∃ i, xs = [.int i] ∧ i.natAbs.log2 < 1920 ∧ Q (.str (toString i)) H) ∨ ∃ a, xs = [.str a] ∧ Q (.str a) H) :=
  fun pins s σ H xs us Q I r h => h.elim (fun h => call_str_int pins s σ H xs us Q I r h) (fun h => SkE.call_str_str pins s σ H xs us Q I r h)
end L2
namespace K7
open PySem PySem.Spec PyProof.Rows L2 TL
/-! ### format_item, format_answer; the law's text -/
abbrev s_fa : Stmt := top 1
abbrev s_fi : Stmt := top 2
abbrev s_text : Stmt := top 11
def spTxt (n : Nat) : Sp := fun vs H Q _ => ∃ (v : V) (d : PyData), vs = [v] ∧ Dat H v d ∧ itemB d = true ∧ d.depth ≤ n ∧ wt d ≤ 300 ∧ ∀ H', Same H H' → Q (.str (txt d)) H'
/-- [f(x) for x in a tuple] -/
theorem lc_map {K : PySem.W.Frag} {H : Hp} {a : Addr} {xs : List V} {ds : List PyData} {g : TG} {te : TE} {vs : List Nat} {σ : L2.St} {D : Addr} {Qd : Hp → Prop} (f : PyData → V) (ha : H a = some (.tup xs)) (hx : DatAll H xs ds) (hz : xs.length ≤ 1000000) (nD : H D = none)
    (hs : ∀ (i : Nat) (x : V) (d : PyData) (Hx : Hp), xs[i]? = some x → ds[i]? = some d → Dat Hx x d → Same H Hx → ∀ R : VK, (∀ H', Same Hx H' → R (f d) H') → g x (wipe σ vs) Hx fun σ2 H2 => wipe σ2 vs = wipe σ vs ∧ te σ2 H2 R)
    (mono : ∀ (x : V) (Hx : Hp) (A B : L2.St → Hp → Prop), (∀ σ2 H2, A σ2 H2 → B σ2 H2) → g x (wipe σ vs) Hx A → g x (wipe σ vs) Hx B)
    (hd : ∀ Hx, Same H Hx → Hx D = some (.lst (ds.map f)) → Qd Hx) :
    ∃ W : Nat → Nat → Hp → Prop, (∃ m, W 0 m (upd H D (.lst []))) ∧ ∀ i m H, W i m H →
      ((Itt K a).stop i H ∧ Qd H) ∨ ((Itt K a).go i H ∧ ∃ Nx : Hp → Prop, (∀ H', Nx H' → ∃ m', m' < m ∧ W (i + 1) m' H') ∧ ∀ x H', (Itt K a).yld i H x H' → g x (wipe σ vs) H' fun σ2 H2 => wipe σ2 vs = wipe σ vs ∧ tYes σ2 H2 fun b H3 =>
        if b = true then te σ2 H3 fun y H4 => ∃ acc, H4 D = some (.lst acc) ∧ acc.length < sizeLine ∧ Nx (upd H4 D (.lst (acc ++ [y]))) else Nx H3) := by
  refine lc_tup (K := K) (a := a) (xs := xs) (fun j Hx => Same H Hx ∧ Hx D = some (.lst ((ds.take j).map f))) ⟨same_new nD, upd_same⟩ (fun j Hx _ ⟨S, _⟩ => SqT.of (S _ _ ha)) ?_ ?_
  · rintro i x Hx hi ⟨S, hD⟩
    obtain ⟨d, hdi, td⟩ := hx.get hi
    refine mono x Hx _ _ (fun σ2 H2 h => ⟨h.1, ?_⟩) (hs i x d Hx hi hdi (td.same S) S (fun y H4 => ∃ acc, H4 D = some (.lst acc) ∧ acc.length < sizeLine ∧ Same H (upd H4 D (.lst (acc ++ [y]))) ∧ upd H4 D (.lst (acc ++ [y])) D = some (.lst ((ds.take (i + 1)).map f))) fun H' S' => ?_)
    · dsimp only [tYes]
      first
        | exact if_t rfl h.2
        | exact h.2
    · have hi' : i < xs.length := (List.getElem?_eq_some_iff.mp hi).1
      refine ⟨_, S' _ _ hD, ?_, grow nD (S.trans S'), ?_⟩
      · rw [List.length_map, List.length_take, sizeLine_eq]
        omega
      · rw [upd_same, List.take_add_one, hdi]
        simp
  · rintro Hx ⟨S, hD⟩
    refine hd Hx S ?_
    rw [hD, hx.len, List.take_length]
theorem mono_name {i : Nat} {vs : List Nat} {σ : L2.St} : ∀ (x : V) (Hx : Hp) (A B : L2.St → Hp → Prop), (∀ σ2 H2, A σ2 H2 → B σ2 H2) → gName i x (wipe σ vs) Hx A → gName i x (wipe σ vs) Hx B := fun x Hx A B h a => h _ _ a
theorem txts_map : ∀ ds : List PyData, (txts ds).map V.str = ds.map fun d => .str (txt d)
  | [] => by rw [txts]; rfl
  | d :: ds => by rw [txts, List.map_cons, List.map_cons, txts_map ds]
theorem innBs_mem : ∀ {ds : List PyData} {d : PyData}, innBs ds = true → d ∈ ds → innB d = true
  | [], _, _, h => by cases h
  | e :: ds, d, hb, h => by
    rw [innBs, Bool.and_eq_true] at hb
    rcases List.mem_cons.mp h with rfl | h
    · exact hb.1
    · exact innBs_mem hb.2 h
theorem wts_mem : ∀ {ds : List PyData} {d : PyData}, d ∈ ds → wt d ≤ wts ds
  | [], _, h => by cases h
  | e :: ds, d, h => by
    rw [wts]
    rcases List.mem_cons.mp h with rfl | h
    · omega
    · have := wts_mem h
      omega
theorem depth_mem : ∀ {ds : List PyData} {d : PyData}, d ∈ ds → d.depth ≤ PyData.depthAll ds
  | [], _, h => by cases h
  | e :: ds, d, h => by
    simp only [PyData.depthAll]
    rcases List.mem_cons.mp h with rfl | h
    · omega
    · have := depth_mem h
      omega
theorem wts_len : ∀ ds : List PyData, ds.length ≤ wts ds
  | [] => Nat.zero_le _
  | d :: ds => by
    have z := wts_len ds
    have y : 1 ≤ wt d := by cases d <;> simp only [wt] <;> omega
    rw [wts, List.length_cons]
    omega
theorem int_log {i : Int} (h : innB (.int i) = true) : i.natAbs.log2 < 1920 := by
  rw [innB, Bool.and_eq_true] at h
  have h1 := of_decide_eq_true h.1
  have h2 := of_decide_eq_true h.2
  have z : i.natAbs ≤ 500 := by omega
  exact Nat.lt_of_le_of_lt (Nat.log2_le_self _) (by omega)
section
variable {P : Program} {w : World} {K : PySem.W.Frag} {mg : Str → Option Value} {base : Heap}
theorem sc_fi : FnScope ["item", "part"] ["item"] (defScope s_fi) := ⟨rfl, rfl, rfl, by decide +kernel, rfl, by decide +kernel, by decide +kernel⟩
theorem sc_text : FnScope ["_law_item_here", "_law_one"] ["_law_item_here"] (defScope s_text) := ⟨rfl, rfl, rfl, by decide +kernel, rfl, by decide +kernel, by decide +kernel⟩
/-- what a tuple's text needs -/
theorem tup_parts {l : List PyData} (hb : itemB (.tuple l) = true) (hw : wt (.tuple l) ≤ 300) : innBs l = true ∧ wts l ≤ 297 ∧ (Txt.join " " (txts l)).length ≤ 297 := by
  have hb' : innBs l = true := by
    have z : innB (.tuple l) = true := hb
    rw [innB] at z
    exact z
  rw [wt] at hw
  refine ⟨hb', by omega, ?_⟩
  have e := tl_len (Txt.join " " (txts l))
  rw [join_eq, tl_join] at e
  have z := joinL_len ((txts l).map tl)
  have y := (inns_len l hb').1
  have x : joinL (tl " ") ((txts l).map tl) = joinL [32] ((txts l).map tl) := rfl
  rw [x] at e
  rw [join_eq]
  omega
theorem fi_body {f : Addr} {fd : FuncData} {sp : Sp} (n : Nat) (F : Fun K "format_item" "format_item" s_fi f fd) (b : L2.Binds K fd ["item"] []) (g : mg "format_item" = some (.ref f)) (G : FnOk P w K mg base CX0 (1 + n) f fd ["item"] sp) (T : Nm mg)
    (hn : ∀ m, n = m + 1 → ∀ (x : V) (d : PyData) (H : Hp) (R : VK), Dat H x d → itemB d = true → d.depth ≤ m → wt d ≤ 300 → (∀ H', Same H H' → R (.str (txt d)) H') → sp [x] H R E0) : FnOk P w K mg base CX0 (2 + n) f fd ["item"] (spTxt n) := by
  rw [show 2 + n = (1 + n) + 1 by omega]
  refine F.ok sc_fi (fun vs H Q E h => ?_) (fun cdv A outer s H vs Q E hr h => ?_)
  · obtain ⟨v, d, rfl, _⟩ := h
    rfl
  · obtain ⟨v, d, rfl, hd, hb, hn', hw, q⟩ := h
    refine ⟨_, (pss_cons (ps_if (pt_cmpR op_isN (pv 0) pe_non (nomark _))
        (pss_one (ps_ret pe_str))
        pss_nil)
      (pss_cons (ps_if (pt_val (pe_callB call_isi (by rfl) T.isinstance boot_isinstance (pa_cons (pv 0) (pa_cons (pe_bltn (v := .ty "bool") rfl T.bool (by decide +kernel) rfl) pa_nil))))
        (pss_one (ps_ret (pe_ifExp (pt_val (pv 0)) pe_str pe_str)))
        pss_nil)
      (pss_cons (ps_if (pt_val (pe_callB call_isi (by rfl) T.isinstance boot_isinstance (pa_cons (pv 0) (pa_cons (pe_bltn (v := .ty "tuple") rfl T.tuple (by decide +kernel) rfl) pa_nil))))
        (pss_one (ps_ret (pe_op op_add_str (pe_op op_add_str pe_str (pe_join pe_str (pe_lc (own := [("part", 1)]) (g := (gName 1)) (tt := tYes) rfl sc_fi.nd (pi_tup (pv 0)) (blkOk_by (N := ["item", "part"]) (sc := defScope s_fi) (by decide +kernel))
          (fun _ _ _ _ _ => (pg_name (i := 1) sc_fi.nd rfl (Or.inl rfl))) (fun _ _ _ _ _ => pts_nil) (fun _ _ _ _ _ => (pe_call G hr rfl g F.kp b .nil pass0 (pa_cons (pv 1) pa_nil)))))) pe_str)))
        pss_nil)
      (pss_one (ps_ret (pe_callTy call_str2 (by rfl) T.str (by decide +kernel) (pa_cons (pv 0) pa_nil))))))), ?_⟩
    have nn : decide (v = V.non) = false := decide_eq_false fun e => by
      subst e
      cases hd
      cases hb
    refine ⟨_, rfl, rfl, _, rfl, if_f nn ?_⟩
    refine ⟨_, rfl, v, .ty "bool", _, _, _, rfl, .ty _, hd.ty, kit_bool _ d, _, rfl, ?_⟩
    have q0 := q H (Same.refl H)
    cases hd with
    | bl c =>
      refine if_t rfl ⟨_, rfl, _, rfl, ?_⟩
      rw [txt] at q0
      cases c
      · exact if_f rfl q0
      · exact if_t rfl q0
    | int i =>
      refine if_f rfl ⟨_, rfl, _, .ty "tuple", _, _, _, rfl, .ty _, (Dat.int i).ty, kit_tuple _ (.int i), _, rfl, if_f rfl ?_⟩
      rw [txt] at q0
      exact ⟨_, rfl, .inl ⟨i, rfl, int_log hb, q0⟩⟩
    | str x hx =>
      refine if_f rfl ⟨_, rfl, _, .ty "tuple", _, _, _, rfl, .ty _, (Dat.str x hx).ty, kit_tuple _ (.str x), _, rfl, if_f rfl ?_⟩
      rw [txt] at q0
      exact ⟨_, rfl, .inr ⟨x, rfl, q0⟩⟩
    | non => cases hb
    | lst _ _ => cases hb
    | d0 _ => cases hb
    | @tup a xs ds ha hx =>
      refine if_f rfl ⟨_, rfl, _, .ty "tuple", _, _, _, rfl, .ty _, (Dat.tup ha hx).ty, kit_tuple _ (.tuple ds), _, rfl, if_t rfl ?_⟩
      obtain ⟨hb', hw', hj⟩ := tup_parts hb hw
      have dep : PyData.depthAll ds + 1 ≤ n := by simpa [PyData.depth] using hn'
      obtain ⟨m, rfl⟩ : ∃ m, n = m + 1 := ⟨n - 1, by omega⟩
      have hl := wts_len ds
      have one1 : ("[" : Str).length = 1 := by decide +kernel
      have one2 : ("]" : Str).length = 1 := by decide +kernel
      refine ⟨⟨_, rfl⟩, _, rfl, a, rfl, ⟨_, SqT.of ha⟩, fun D nD => lc_map (K := K) (fun d => .str (txt d)) ha hx (by rw [hx.len]; omega) nD (fun i x d Hx hi hdi td S R hR => ?_) mono_name fun Hx S hD => ?_⟩
      · have hm := List.mem_of_getElem? hdi
        refine ⟨rfl, _, rfl, hn m rfl x d Hx R td (inn_item (innBs_mem hb' hm)) (Nat.le_trans (depth_mem hm) (by omega)) (Nat.le_trans (wts_mem hm) (by omega)) hR⟩
      · refine ⟨" ", D, txts ds, rfl, rfl, .inl (SqL.of (by rw [txts_map]; exact hD)), Nat.le_trans (sum_len ds hb') (by omega), ?_⟩
        refine ⟨"[", Txt.join " " (txts ds), rfl, rfl, by rw [one1, sizeLine_eq]; omega, ?_⟩
        have l2 : (("[" : Str) ++ Txt.join " " (txts ds)).length = 1 + (Txt.join " " (txts ds)).length := by rw [Str.length_append, one1]
        refine ⟨_, "]", rfl, rfl, by rw [l2, one2, sizeLine_eq]; omega, ?_⟩
        have z := q Hx S
        rw [txt] at z
        exact z
end
end K7
set_option maxRecDepth 100000
set_option maxHeartbeats 4000000
namespace K7
open PySem PySem.Spec PyProof.Rows L2 TL
/-- without r -/
def noR (r : Addr) (H : Hp) : Hp := fun b => if b = r then none else H b
theorem noR_sub {r : Addr} {H : Hp} : Same (noR r H) H := fun b o e => by
  unfold noR at e
  split at e
  · cases e
  · exact e
theorem noR_upd {r : Addr} {H : Hp} {o : HO} : noR r (upd H r o) = noR r H := by
  funext b
  unfold noR
  by_cases e : b = r
  · rw [if_pos e, if_pos e]
  · rw [if_neg e, if_neg e, upd_ne e]
theorem noR_at {r b : Addr} {H : Hp} {o : HO} (h : H b = some o) (n : b ≠ r) : noR r H b = some o := by
  unfold noR
  rw [if_neg n]
  exact h
theorem noR_off {p q r : Addr} {H H' : Hp} (O : Off p q H H') : Same (hide p q (noR r H)) (hide p q (noR r H')) := fun b o e => by
  unfold hide noR at e ⊢
  split at e
  · cases e
  · rename_i h
    rw [if_neg h]
    split at e
    · cases e
    · rename_i h2
      rw [if_neg h2]
      exact O _ _ e (fun z => h (.inl z)) (fun z => h (.inr z))
theorem noR_hide {p q r : Addr} {H : Hp} : Same (hide p q (noR r H)) (hide p q H) := hide_same noR_sub
mutual
def noL : PyData → Bool
  | .list _ => false
  | .dict _ => false
  | .tuple l => noLs l
  | .none => true
  | .bool _ => true
  | .int _ => true
  | .str _ => true
def noLs : List PyData → Bool
  | [] => true
  | d :: ds => noL d && noLs ds
end
mutual
theorem dat_noR {H : Hp} {r : Addr} {zs : List V} (hr : H r = some (.lst zs)) : ∀ {v : V} {d : PyData}, Dat H v d → noL d = true → Dat (noR r H) v d
  | _, _, .non, _ => .non
  | _, _, .bl b, _ => .bl b
  | _, _, .int i, _ => .int i
  | _, _, .str x h, _ => .str x h
  | _, _, .lst _ _, h => by simp [noL] at h
  | _, _, .d0 _, h => by simp [noL] at h
  | _, _, .tup (a := a) e t, h => .tup (noR_at e fun z => by rw [z, hr] at e; cases e) (datAll_noR hr t (by simpa only [noL] using h))
theorem datAll_noR {H : Hp} {r : Addr} {zs : List V} (hr : H r = some (.lst zs)) : ∀ {vs : List V} {ds : List PyData}, DatAll H vs ds → noLs ds = true → DatAll (noR r H) vs ds
  | _, _, .nil, _ => .nil
  | _, _, .cons (d := d) (ds := ds) a t, h => by
    have h' : noL d = true ∧ noLs ds = true := by simpa only [noLs, Bool.and_eq_true] using h
    exact .cons (dat_noR hr a h'.1) (datAll_noR hr t h'.2)
end
theorem noLs_iff : ∀ {l : List PyData}, noLs l = true ↔ ∀ d ∈ l, noL d = true
  | [] => by simp [noLs]
  | a :: l => by simp [noLs, noLs_iff (l := l)]
theorem same_noR {r : Addr} {H H' : Hp} (S : Same H H') : Same (noR r H) (noR r H') := fun b o e => by
  unfold noR at e ⊢
  split at e
  · cases e
  · rename_i h
    rw [if_neg h]
    exact S _ _ e
mutual
theorem inn_noL : ∀ d : PyData, innB d = true → noL d = true
  | .int _, _ => rfl
  | .str _, _ => rfl
  | .tuple l, h => by
    rw [innB] at h
    rw [noL]
    exact inns_noL l h
  | .none, h => by simp [innB] at h
  | .bool _, h => by simp [innB] at h
  | .list _, h => by simp [innB] at h
  | .dict _, h => by simp [innB] at h
theorem inns_noL : ∀ ds : List PyData, innBs ds = true → noLs ds = true
  | [], _ => rfl
  | d :: ds, h => by
    rw [innBs, Bool.and_eq_true] at h
    rw [noLs, inn_noL d h.1, inns_noL ds h.2]
    rfl
end
theorem innBs_app : ∀ {a b : List PyData}, innBs a = true → innBs b = true → innBs (a ++ b) = true
  | [], _, _, h => h
  | d :: a, b, h, h2 => by
    rw [innBs, Bool.and_eq_true] at h
    rw [List.cons_append, innBs, h.1, innBs_app h.2 h2]
    rfl
/-- [e for k in range(..)] where e makes choices -/
theorem lc_dk {H : Hp} {p q D : Addr} {b c n : Nat} {lo : Int} {g : TG} {te : TE} {vs : List Nat} {σ : L2.St} {Qd : Hp → Prop} (Pd : PyData → Prop) (hn : n ≤ 1000) (D0 : Dk H p q b) (nD : H D = none)
    (hs : ∀ (j : Nat) (Hx : Hp) (R : VK), j < n → Dk Hx p q (b + c * j) → Off p q H Hx → (∀ v d H', Off p q Hx H' → Dk H' p q (b + c * (j + 1)) → Dat (hide p q H') v d → innB d = true → Pd d → R v H') → g (.int (lo + j)) (wipe σ vs) Hx fun σ2 H2 => wipe σ2 vs = wipe σ vs ∧ te σ2 H2 R)
    (mono : ∀ (x : V) (Hx : Hp) (A B : L2.St → Hp → Prop), (∀ σ2 H2, A σ2 H2 → B σ2 H2) → g x (wipe σ vs) Hx A → g x (wipe σ vs) Hx B)
    (hd : ∀ (Hx : Hp) (acc : List V) (ds : List PyData), Off p q H Hx → Dk Hx p q (b + c * n) → Hx D = some (.lst acc) → ds.length = n → innBs ds = true → (∀ d ∈ ds, Pd d) → DatAll (hide p q Hx) acc ds → Qd Hx) :
    ∃ W : Nat → Nat → Hp → Prop, (∃ m, W 0 m (upd H D (.lst []))) ∧ ∀ i m H, W i m H →
      ((Itr lo n).stop i H ∧ Qd H) ∨ ((Itr lo n).go i H ∧ ∃ Nx : Hp → Prop, (∀ H', Nx H' → ∃ m', m' < m ∧ W (i + 1) m' H') ∧ ∀ x H', (Itr lo n).yld i H x H' → g x (wipe σ vs) H' fun σ2 H2 => wipe σ2 vs = wipe σ vs ∧ tYes σ2 H2 fun b H3 =>
        if b = true then te σ2 H3 fun y H4 => ∃ acc, H4 D = some (.lst acc) ∧ acc.length < sizeLine ∧ Nx (upd H4 D (.lst (acc ++ [y]))) else Nx H3) := by
  obtain ⟨Dp, Dq⟩ := D0.new nD
  refine lc_range (fun j Hx => Off p q H Hx ∧ Dk Hx p q (b + c * j) ∧ ∃ (acc : List V) (ds : List PyData), Hx D = some (.lst acc) ∧ ds.length = j ∧ innBs ds = true ∧ (∀ d ∈ ds, Pd d) ∧ DatAll (noR D (hide p q Hx)) acc ds)
    ⟨.of_same (same_new nD), by rw [Nat.mul_zero]; exact dk_upd D0 Dp Dq, [], [], upd_same, rfl, rfl, (fun d h => by cases h), .nil⟩ ?_ ?_
  · rintro j Hx hj ⟨O, Dj, acc, ds, hD, hl, hb, hp, hx⟩
    refine mono _ _ _ _ (fun σ2 H2 h => ⟨h.1, ?_⟩) (hs j Hx (fun y H4 => ∃ acc, H4 D = some (.lst acc) ∧ acc.length < sizeLine ∧ (Off p q H (upd H4 D (.lst (acc ++ [y]))) ∧ Dk (upd H4 D (.lst (acc ++ [y]))) p q (b + c * (j + 1)) ∧ ∃ (acc2 : List V) (ds : List PyData), upd H4 D (.lst (acc ++ [y])) D = some (.lst acc2) ∧ ds.length = j + 1 ∧ innBs ds = true ∧ (∀ d ∈ ds, Pd d) ∧ DatAll (noR D (hide p q (upd H4 D (.lst (acc ++ [y]))))) acc2 ds)) hj Dj O fun v d H' O' D' dd di pd => ?_)
    · dsimp only [tYes]
      first
        | exact if_t rfl h.2
        | exact h.2
    · have hD' : H' D = some (.lst acc) := O' _ _ hD Dp Dq
      have al : acc.length = j := by rw [hx.len, hl]
      have he : noR D (hide p q (upd H' D (.lst (acc ++ [v])))) = noR D (hide p q H') := by
        funext z
        unfold noR hide
        by_cases e : z = D
        · rw [if_pos e, if_pos e]
        · rw [if_neg e, if_neg e, upd_ne e]
      refine ⟨acc, hD', by rw [al, sizeLine_eq]; omega, fun z o e z1 z2 => ?_, dk_upd D' Dp Dq, acc ++ [v], ds ++ [d], upd_same, by rw [List.length_append, hl]; rfl, innBs_app hb (by rw [innBs, di]; rfl), fun e he => ?_, ?_⟩
      · have zD : z ≠ D := fun y => by
          rw [y, nD] at e
          cases e
        rw [upd_ne zD]
        exact (O.trans O') _ _ e z1 z2
      · rcases List.mem_append.mp he with h | h
        · exact hp e h
        · rw [List.mem_singleton.mp h]
          exact pd
      · rw [he]
        exact datAll_append (hx.same (same_noR (hide_off O'))) (.cons (dat_noR (hide_at hD' Dp Dq) dd (inn_noL d di)) .nil)
  · rintro Hx ⟨O, Dj, acc, ds, hD, hl, hb, hp, hx⟩
    exact hd Hx acc ds O Dj hD hl hb hp (hx.same noR_sub)
section
variable {P : Program} {w : World} {K : PySem.W.Frag} {mg : Str → Option Value} {base : Heap}
theorem fn_none {k : Nat} {f : Addr} {fd : FuncData} {ps : List Str} : FnOk P w K mg base CX0 k f fd ps (fun _ _ _ _ => False) := ⟨fun _ _ _ _ h => h.elim, fun _ _ _ _ _ _ _ _ _ _ _ _ _ h => h.elim⟩
/-- the body, with what is known of the def itself one level down -/
theorem ok_fi {f : Addr} {fd : FuncData} (F : Fun K "format_item" "format_item" s_fi f fd) (b : L2.Binds K fd ["item"] []) (g : mg "format_item" = some (.ref f)) (T : Nm mg) : ∀ n : Nat, FnOk P w K mg base CX0 (2 + n) f fd ["item"] (spTxt n)
  | 0 => fi_body (sp := fun _ _ _ _ => False) 0 F b g fn_none T fun m e => by cases e
  | n + 1 => by
    have G := ok_fi F b g T n
    rw [show 2 + n = 1 + (n + 1) by omega] at G
    refine fi_body (n + 1) F b g G T fun m e x d H R hd hb hp hw hR => ?_
    obtain rfl : n = m := Nat.succ.inj e
    exact ⟨x, d, rfl, hd, hb, hp, hw, hR⟩
theorem text_body {f : Addr} {fd : FuncData} {sp : Sp} (n : Nat) (F : Fun K "_law_text" "_law_text" s_text f fd) (b : L2.Binds K fd ["_law_item_here"] []) (g : mg "_law_text" = some (.ref f)) (G : FnOk P w K mg base CX0 (1 + n) f fd ["_law_item_here"] sp) (T : Nm mg)
    (hn : ∀ m, n = m + 1 → ∀ (x : V) (d : PyData) (H : Hp) (R : VK), Dat H x d → itemB d = true → d.depth ≤ m → wt d ≤ 300 → (∀ H', Same H H' → R (.str (txt d)) H') → sp [x] H R E0) : FnOk P w K mg base CX0 (2 + n) f fd ["_law_item_here"] (spTxt n) := by
  rw [show 2 + n = (1 + n) + 1 by omega]
  refine F.ok sc_text (fun vs H Q E h => ?_) (fun cdv A outer s H vs Q E hr h => ?_)
  · obtain ⟨v, d, rfl, _⟩ := h
    rfl
  · obtain ⟨v, d, rfl, hd, hb, hn', hw, q⟩ := h
    refine ⟨_, (pss_cons (ps_if (pt_val (pe_callB call_isi (by rfl) T.isinstance boot_isinstance (pa_cons (pv 0) (pa_cons (pe_bltn (v := .ty "tuple") rfl T.tuple (by decide +kernel) rfl) pa_nil))))
        (pss_one (ps_ret (pe_op op_add_str (pe_op op_add_str pe_str (pe_join pe_str (pe_lc (own := [("_law_one", 1)]) (g := (gName 1)) (tt := tYes) rfl sc_text.nd (pi_tup (pv 0)) (blkOk_by (N := ["_law_item_here", "_law_one"]) (sc := defScope s_text) (by decide +kernel))
          (fun _ _ _ _ _ => (pg_name (i := 1) sc_text.nd rfl (Or.inl rfl))) (fun _ _ _ _ _ => pts_nil) (fun _ _ _ _ _ => (pe_call G hr rfl g F.kp b .nil pass0 (pa_cons (pv 1) pa_nil)))))) pe_str)))
        pss_nil)
      (pss_cons (ps_if (pt_val (pe_callB call_isi (by rfl) T.isinstance boot_isinstance (pa_cons (pv 0) (pa_cons (pe_bltn (v := .ty "bool") rfl T.bool (by decide +kernel) rfl) pa_nil))))
        (pss_one (ps_ret (pe_ix ix_list (pe_lst (pa_cons pe_str (pa_cons pe_str pa_nil))) (pe_callTy call_int1 (by rfl) T.int (by decide +kernel) (pa_cons (pv 0) pa_nil)) (fun _ _ => rfl))))
        pss_nil)
      (pss_one (ps_ret (pe_ifExp (pt_val (pe_callB call_isi (by rfl) T.isinstance boot_isinstance (pa_cons (pv 0) (pa_cons (pe_bltn (v := .ty "str") rfl T.str (by decide +kernel) rfl) pa_nil)))) (pv 0) (pe_callTy call_str_int (by rfl) T.str (by decide +kernel) (pa_cons (pv 0) pa_nil))))))), ?_⟩
    refine ⟨_, rfl, v, .ty "tuple", _, _, _, rfl, .ty _, hd.ty, kit_tuple _ d, _, rfl, ?_⟩
    have q0 := q H (Same.refl H)
    cases hd with
    | bl c =>
      refine if_f rfl ⟨_, rfl, _, .ty "bool", _, _, _, rfl, .ty _, (Dat.bl c).ty, kit_bool _ (.bool c), _, rfl, if_t rfl ?_⟩
      rw [txt] at q0
      refine ⟨(by show 2 ≤ sizeLine; decide), fun l nl => ⟨_, rfl, .inr ⟨c, rfl, l, _, _, .str (if c = true then "yes" else "no"), rfl, rfl, SqL.of upd_same, by cases c <;> rfl, ?_⟩⟩⟩
      have z := q _ (same_new (o := HO.lst [.str "no", .str "yes"]) nl)
      rw [txt] at z
      exact z
    | int i =>
      refine if_f rfl ⟨_, rfl, _, .ty "bool", _, _, _, rfl, .ty _, (Dat.int i).ty, kit_bool _ (.int i), _, rfl, if_f rfl ?_⟩
      refine ⟨_, rfl, _, .ty "str", _, _, _, rfl, .ty _, (Dat.int i).ty, kit_str _ (.int i), _, rfl, if_f rfl ?_⟩
      rw [txt] at q0
      exact ⟨_, rfl, i, rfl, int_log hb, q0⟩
    | str x hx =>
      refine if_f rfl ⟨_, rfl, _, .ty "bool", _, _, _, rfl, .ty _, (Dat.str x hx).ty, kit_bool _ (.str x), _, rfl, if_f rfl ?_⟩
      refine ⟨_, rfl, _, .ty "str", _, _, _, rfl, .ty _, (Dat.str x hx).ty, kit_str _ (.str x), _, rfl, if_t rfl ?_⟩
      rw [txt] at q0
      exact ⟨_, rfl, q0⟩
    | non => cases hb
    | lst _ _ => cases hb
    | d0 _ => cases hb
    | @tup a xs ds ha hx =>
      refine if_t rfl ?_
      obtain ⟨hb', hw', hj⟩ := tup_parts hb hw
      have dep : PyData.depthAll ds + 1 ≤ n := by simpa [PyData.depth] using hn'
      obtain ⟨m, rfl⟩ : ∃ m, n = m + 1 := ⟨n - 1, by omega⟩
      have hl := wts_len ds
      have one1 : ("[" : Str).length = 1 := by decide +kernel
      have one2 : ("]" : Str).length = 1 := by decide +kernel
      refine ⟨⟨_, rfl⟩, _, rfl, a, rfl, ⟨_, SqT.of ha⟩, fun D nD => lc_map (K := K) (fun d => .str (txt d)) ha hx (by rw [hx.len]; omega) nD (fun i x d Hx hi hdi td S R hR => ?_) mono_name fun Hx S hD => ?_⟩
      · have hm := List.mem_of_getElem? hdi
        refine ⟨rfl, _, rfl, hn m rfl x d Hx R td (inn_item (innBs_mem hb' hm)) (Nat.le_trans (depth_mem hm) (by omega)) (Nat.le_trans (wts_mem hm) (by omega)) hR⟩
      · refine ⟨" ", D, txts ds, rfl, rfl, .inl (SqL.of (by rw [txts_map]; exact hD)), Nat.le_trans (sum_len ds hb') (by omega), ?_⟩
        refine ⟨"[", Txt.join " " (txts ds), rfl, rfl, by rw [one1, sizeLine_eq]; omega, ?_⟩
        have l2 : (("[" : Str) ++ Txt.join " " (txts ds)).length = 1 + (Txt.join " " (txts ds)).length := by rw [Str.length_append, one1]
        refine ⟨_, "]", rfl, rfl, by rw [l2, one2, sizeLine_eq]; omega, ?_⟩
        have z := q Hx S
        rw [txt] at z
        exact z
theorem ok_text {f : Addr} {fd : FuncData} (F : Fun K "_law_text" "_law_text" s_text f fd) (b : L2.Binds K fd ["_law_item_here"] []) (g : mg "_law_text" = some (.ref f)) (T : Nm mg) : ∀ n : Nat, FnOk P w K mg base CX0 (2 + n) f fd ["_law_item_here"] (spTxt n)
  | 0 => text_body (sp := fun _ _ _ _ => False) 0 F b g fn_none T fun m e => by cases e
  | n + 1 => by
    have G := ok_text F b g T n
    rw [show 2 + n = 1 + (n + 1) by omega] at G
    refine text_body (n + 1) F b g G T fun m e x d H R hd hb hp hw hR => ?_
    obtain rfl : n = m := Nat.succ.inj e
    exact ⟨x, d, rfl, hd, hb, hp, hw, hR⟩
/-- format_answer: an item, or none behind other selections -/
def spFa : Sp := fun vs H Q _ => ∃ (a s r : Addr) (sel : List V), vs = [.ref a] ∧ H a = some (.tup [.ref s, .ref r]) ∧ H s = some (.tup sel) ∧
  ((∃ x d, H r = some (.tup [x]) ∧ Dat H x d ∧ Item d ∧ ∀ H', Same H H' → Q (.str (txt d)) H') ∨
   (∃ k : Int, H r = some (.tup []) ∧ atI sel (-1) = some (.int k) ∧ k.natAbs ≤ 1000 ∧ Q (.str (("other " : Str) ++ intT k)) H))
theorem sc_fa : FnScope ["answer", "selections", "result"] ["answer"] (defScope s_fa) := ⟨rfl, rfl, rfl, by decide +kernel, rfl, by decide +kernel, by decide +kernel⟩
theorem int_len {k : Int} (h : k.natAbs ≤ 1000) : (intT k).length ≤ 100 := by
  have z := int_text_length_le10 (a := k) (k := 40) (by decide) (Nat.lt_of_le_of_lt h (by decide +kernel))
  have e : (intT k).length = (toString k).length := PySem.ofString_length _
  omega
theorem ok_fa {f fI : Addr} {fd fdI : FuncData} (F : Fun K "format_answer" "format_answer" s_fa f fd) (T : Nm mg) (I : DefOk K mg "format_item" s_fi ["item"] fI fdI) : FnOk P w K mg base CX0 9 f fd ["answer"] spFa := by
  have G : FnOk P w K mg base CX0 8 fI fdI ["item"] (spTxt 6) := ok_fi I.F I.b I.g T 6
  refine F.ok sc_fa (fun vs H Q E h => ?_) (fun cdv A outer s H vs Q E hr h => ?_)
  · obtain ⟨a, s, r, sel, rfl, _⟩ := h
    rfl
  · obtain ⟨a, sA, r, sel, rfl, ha, hsel, h⟩ := h
    refine ⟨_, (pss_cons (ps_asg (pv 0) (pg_tup rfl (pgs_cons (pg_name (i := 1) sc_fa.nd rfl (Or.inl rfl)) (pgs_cons (pg_name (i := 2) sc_fa.nd rfl (Or.inl rfl)) pgs_nil))))
      (pss_cons (ps_if (pt_cmpR op_eq (pe_callB call_len_seq (by rfl) T.len PySem.boot_len (pa_cons (pv 2) pa_nil)) pe_int (nomark _))
        (pss_one (ps_ret (pe_joined (.cons pe_str (.cons (pe_fmt (pe_ix ix_tup (pv 1) (pe_un un_neg pe_int) (fun _ _ => rfl))) .nil)))))
        pss_nil)
      (pss_one (ps_ret (pe_call G hr rfl I.g I.F.kp I.b .nil pass0 (pa_cons (pe_ix ix_tup (pv 2) pe_int (fun _ _ => rfl)) pa_nil)))))), ?_⟩
    refine ⟨_, rfl, a, _, rfl, SqT.of ha, rfl, _, _, rfl, _, _, rfl, rfl, ?_⟩
    rcases h with ⟨x, d, hr1, dx, it, q⟩ | ⟨k, hr0, hk, hb, q⟩
    · refine ⟨_, rfl, r, _, rfl, .inr (SqT.of hr1), rfl, _, rfl, if_f rfl ?_⟩
      exact ⟨_, rfl, r, _, _, x, rfl, rfl, SqT.of hr1, atI_nat (j := 0) rfl, x, d, rfl, dx, it.b, it.n, it.w, q⟩
    · refine ⟨_, rfl, r, _, rfl, .inr (SqT.of hr0), rfl, _, rfl, if_t rfl ?_⟩
      have lk := int_len hb
      have lo : ("other " : Str).length = 6 := by decide +kernel
      have e0 : (Str.empty ++ ("other " : Str)) = "other " := by decide +kernel
      refine ⟨"other ", rfl, by rw [e0, lo]; decide, _, rfl, 1, rfl, sA, sel, _, _, rfl, rfl, SqT.of hsel, hk, .inr ⟨k, rfl, Nat.lt_of_le_of_lt (Nat.log2_le_self _) (by omega), intT k, rfl, ?_, ?_⟩⟩
      · rw [e0, Str.length_append, lo, sizeLine_eq]
        omega
      · rw [e0]
        exact q
end
end K7
set_option maxRecDepth 100000
set_option maxHeartbeats 8000000
namespace K7
open PySem PySem.Spec PyProof.Rows L2 TL
/-! ### the makers -/
abbrev s_name : Stmt := top 7
abbrev s_number : Stmt := top 8
abbrev s_prefix : Stmt := top 9
abbrev s_item : Stmt := top 10
def spName : Sp := fun vs H Q _ => ∃ (p q : Addr) (b : Nat), vs = [.ref p] ∧ Dk H p q b ∧ b + 10 ≤ 100000000 ∧ ∀ (x : Str) (H' : Hp), x ∈ names9 → Off p q H H' → Dk H' p q (b + 1) → Q (.str x) H'
def spNumber : Sp := fun vs H Q _ => ∃ (p q : Addr) (b : Nat), vs = [.ref p] ∧ Dk H p q b ∧ b + 10 ≤ 100000000 ∧ ∀ (i : Int) (H' : Hp), innB (.int i) = true → Off p q H H' → Dk H' p q (b + 3) → Q (.int i) H'
def spPrefix : Sp := fun vs H Q _ => ∃ (p q : Addr) (b : Nat), vs = [.ref p] ∧ Dk H p q b ∧ b + 10 ≤ 100000000 ∧ ∀ (v : V) (d : PyData) (H' : Hp), Off p q H H' → Dk H' p q (b + 7) → Dat (hide p q H') v d → Inn 51 1 d → Q v H'
def spItem : Sp := fun vs H Q _ => ∃ (p q : Addr) (b : Nat), vs = [.ref p] ∧ Dk H p q b ∧ b + 100 ≤ 100000000 ∧ ∀ (v : V) (d : PyData) (H' : Hp), Off p q H H' → Dk H' p q (b + 50) → Dat (hide p q H') v d → Item d → Q v H'
theorem inn_int {i : Int} (h1 : -100 ≤ i) (h2 : i ≤ 500) : innB (.int i) = true := by
  rw [innB, decide_eq_true h1, decide_eq_true h2]
  rfl
theorem inn_name {x : Str} (h : x ∈ names9) : innB (.str x) = true := by
  rw [innB]
  exact decide_eq_true h
theorem Inn.int {i : Int} (h : innB (.int i) = true) : Inn 8 0 (.int i) := ⟨h, by simp [PyData.depth], by simp [wt]⟩
theorem Inn.name {x : Str} (h : x ∈ names9) : Inn 8 0 (.str x) := ⟨inn_name h, by simp [PyData.depth], by simp [wt]⟩
theorem wts_le {w : Nat} : ∀ {ds : List PyData}, (∀ d ∈ ds, wt d ≤ w) → wts ds ≤ w * ds.length
  | [], _ => Nat.zero_le _
  | d :: ds, h => by
    have z := wts_le (w := w) (ds := ds) fun e he => h e (List.mem_cons_of_mem _ he)
    have y := h d (List.mem_cons_self ..)
    rw [wts, List.length_cons, Nat.mul_succ]
    omega
theorem depth_le {n : Nat} : ∀ {ds : List PyData}, (∀ d ∈ ds, d.depth ≤ n) → PyData.depthAll ds ≤ n
  | [], _ => by simp [PyData.depthAll]
  | d :: ds, h => by
    have z := depth_le (n := n) (ds := ds) fun e he => h e (List.mem_cons_of_mem _ he)
    have y := h d (List.mem_cons_self ..)
    simp only [PyData.depthAll]
    omega
theorem Inn.tup {w n k m : Nat} {ds : List PyData} (hb : innBs ds = true) (h : ∀ d ∈ ds, wt d ≤ w ∧ d.depth ≤ n) (hl : ds.length ≤ m) (hk : 3 + w * m ≤ k) : Inn k (n + 1) (.tuple ds) := by
  refine ⟨by rw [innB]; exact hb, ?_, ?_⟩
  · have z := depth_le fun d hd => (h d hd).2
    simp only [PyData.depth]
    omega
  · have z := wts_le fun d hd => (h d hd).1
    have y : w * ds.length ≤ w * m := Nat.mul_le_mul_left _ hl
    rw [wt]
    omega
theorem Inn.two {w1 w2 n m : Nat} {d e : PyData} (hd : Inn w1 n d) (he : Inn w2 n e) (hk : 3 + w1 + w2 ≤ m) : Inn m (n + 1) (.tuple [d, e]) := by
  refine ⟨?_, ?_, ?_⟩
  · rw [innB, innBs, innBs, innBs, hd.b, he.b]
    rfl
  · have a := hd.n
    have b := he.n
    simp only [PyData.depth, PyData.depthAll]
    omega
  · have a := hd.w
    have b := he.w
    simp only [wt, wts]
    omega
theorem Inn.mono {w n w' n' : Nat} {d : PyData} (h : Inn w n d) (hw : w ≤ w') (hn : n ≤ n') : Inn w' n' d := ⟨h.b, Nat.le_trans h.n hn, Nat.le_trans h.w hw⟩
section
variable {P : Program} {w : World} {K : PySem.W.Frag} {mg : Str → Option Value} {base : Heap}
theorem sc_name : FnScope ["_law_deck_here"] ["_law_deck_here"] (defScope s_name) := ⟨rfl, rfl, rfl, by decide +kernel, rfl, by decide +kernel, by decide +kernel⟩
theorem sc_number : FnScope ["_law_deck_here"] ["_law_deck_here"] (defScope s_number) := ⟨rfl, rfl, rfl, by decide +kernel, rfl, by decide +kernel, by decide +kernel⟩
theorem sc_prefix : FnScope ["_law_deck_here", "_law_k"] ["_law_deck_here"] (defScope s_prefix) := ⟨rfl, rfl, rfl, by decide +kernel, rfl, by decide +kernel, by decide +kernel⟩
theorem sc_item : FnScope ["_law_deck_here", "_law_way", "_law_steps", "_law_k"] ["_law_deck_here"] (defScope s_item) := ⟨rfl, rfl, rfl, by decide +kernel, rfl, by decide +kernel, by decide +kernel⟩
theorem ok_name {f fP : Addr} {fd fdP : FuncData} (F : Fun K "_law_name" "_law_name" s_name f fd) (D_pick : DefOk K mg "_law_pick" sPick ["_law_deck_here", "_law_items"] fP fdP) (G_pick : FnOk P w K mg base CX0 2 fP fdP ["_law_deck_here", "_law_items"] spPick) : FnOk P w K mg base CX0 3 f fd ["_law_deck_here"] spName := by
  refine F.ok sc_name (fun vs H Q E h => ?_) (fun cdv A outer s H vs Q E hr h => ?_)
  · obtain ⟨p, q, b, rfl, _⟩ := h
    rfl
  · obtain ⟨p, q, b, rfl, D, hb, k⟩ := h
    refine ⟨_, (pss_one (ps_ret (pe_call G_pick hr rfl D_pick.g D_pick.F.kp D_pick.b .nil pass0 (pa_cons (pv 0) (pa_cons (pe_lst (pa_cons pe_str (pa_cons pe_str (pa_cons pe_str (pa_cons pe_str (pa_cons pe_str (pa_cons pe_str (pa_cons pe_str (pa_cons pe_str (pa_cons pe_str pa_nil)))))))))) pa_nil))))), ?_⟩
    refine ⟨_, rfl, (by show 9 ≤ sizeLine; decide), fun l nl => pick_of (E := E0) (D.same (same_new nl)) upd_same (D.new nl).1 (D.new nl).2 (by decide) (by decide) (by omega) fun j x H' hx off D' => ?_⟩
    have hx' : (names9.map V.str)[j]? = some x := hx
    obtain ⟨y, hy, rfl⟩ := List.mem_map.mp (List.mem_of_getElem? hx')
    exact k y H' hy (.trans (.of_same (same_new nl)) off) D'
theorem ok_number {f fD fP : Addr} {fd fdD fdP : FuncData} (F : Fun K "_law_number" "_law_number" s_number f fd) (D_draw : DefOk K mg "_law_draw" sDraw ["_law_deck_here", "_law_bound"] fD fdD) (D_pick : DefOk K mg "_law_pick" sPick ["_law_deck_here", "_law_items"] fP fdP) (G_pick : FnOk P w K mg base CX0 2 fP fdP ["_law_deck_here", "_law_items"] spPick) : FnOk P w K mg base CX0 3 f fd ["_law_deck_here"] spNumber := by
  have G_draw : FnOk P w K mg base CX0 1 fD fdD ["_law_deck_here", "_law_bound"] spDraw := ok_draw D_draw.F
  refine F.ok sc_number (fun vs H Q E h => ?_) (fun cdv A outer s H vs Q E hr h => ?_)
  · obtain ⟨p, q, b, rfl, _⟩ := h
    rfl
  · obtain ⟨p, q, b, rfl, D, hb, k⟩ := h
    have hr1 : Room 1 _ := hr.mono (by decide)
    refine ⟨_, (pss_one (ps_ret (pe_call G_pick hr rfl D_pick.g D_pick.F.kp D_pick.b .nil pass0 (pa_cons (pv 0) (pa_cons (pe_lst (pa_cons pe_int (pa_cons pe_int (pa_cons (pe_un un_neg pe_int) (pa_cons (pe_un un_neg pe_int) (pa_cons pe_int (pa_cons pe_int (pa_cons (pe_op op_sub pe_int (pe_op op_mulN pe_int (pe_call G_draw hr1 rfl D_draw.g D_draw.F.kp D_draw.b .nil pass0 (pa_cons (pv 0) (pa_cons pe_int pa_nil))))) (pa_cons (pe_call G_draw hr1 rfl D_draw.g D_draw.F.kp D_draw.b .nil pass0 (pa_cons (pv 0) (pa_cons pe_int pa_nil))) pa_nil))))))))) pa_nil))))), ?_⟩
    obtain ⟨ds, mx, c0, D0, hc0⟩ := D
    refine ⟨_, rfl, 1, rfl, 60, rfl, _, rfl, p, q, ds, mx, c0, 2, rfl, by decide, by decide, D0, by omega, fun i ds1 H1 i0 hi O1 D1 => ?_⟩
    obtain ⟨i, rfl⟩ := nat_of i0
    refine ⟨60, i, rfl, rfl, by decide, _, _, rfl, rfl, _, rfl, p, q, ds1, mx, c0 + 1, 100, rfl, by decide, by decide, D1, by omega, fun m ds2 H2 m0 hm O2 D2' => ?_⟩
    obtain ⟨m, rfl⟩ := nat_of m0
    have D2 : Dk H2 p q (b + 2) := ⟨_, mx, _, D2', by omega⟩
    refine ⟨(by show 8 ≤ sizeLine; decide), fun l nl => pick_of (E := E0) (D2.same (same_new nl)) upd_same (D2.new nl).1 (D2.new nl).2 (by show 0 < 8; decide) (by show 8 ≤ 1000; decide) (by omega) fun j x H' hx off D' => ?_⟩
    have hx' : (([0, 1, -1, -60, 60, 399, 59 - ((60 * i : Nat) : Int), (m : Int)] : List Int).map V.int)[j]? = some x := hx
    obtain ⟨y, hy, rfl⟩ := List.mem_map.mp (List.mem_of_getElem? hx')
    have hy' : -100 ≤ y ∧ y ≤ 500 := by
      simp only [List.mem_cons, List.not_mem_nil, or_false] at hy
      omega
    exact k y H' (inn_int hy'.1 hy'.2) ((O1.trans O2).trans (.trans (.of_same (same_new nl)) off)) D'
theorem ok_prefix {f fD : Addr} {fd fdD : FuncData} (F : Fun K "_law_prefix" "_law_prefix" s_prefix f fd) (T : Nm mg) (D_draw : DefOk K mg "_law_draw" sDraw ["_law_deck_here", "_law_bound"] fD fdD) : FnOk P w K mg base CX0 3 f fd ["_law_deck_here"] spPrefix := by
  have G_draw : FnOk P w K mg base CX0 1 fD fdD ["_law_deck_here", "_law_bound"] spDraw := ok_draw D_draw.F
  refine F.ok sc_prefix (fun vs H Q E h => ?_) (fun cdv A outer s H vs Q E hr h => ?_)
  · obtain ⟨p, q, b, rfl, _⟩ := h
    rfl
  · obtain ⟨p, q, b, rfl, D, hb, k⟩ := h
    have hr1 : Room 1 _ := hr.mono (by decide)
    refine ⟨_, (pss_one (ps_ret (pe_callTy call_tuple_of (by rfl) T.tuple (by decide +kernel) (pa_cons (pe_lc (own := [("_law_k", 1)]) (g := (gName 1)) (tt := tYes) rfl sc_prefix.nd (pi_range1 rfl T.range (pa_cons (pe_op op_addN pe_int (pe_call G_draw hr1 rfl D_draw.g D_draw.F.kp D_draw.b .nil pass0 (pa_cons (pv 0) (pa_cons pe_int pa_nil)))) pa_nil)) (blkOk_by (N := ["_law_deck_here", "_law_k"]) (sc := defScope s_prefix) (by decide +kernel))
          (fun _ _ _ _ _ => (pg_name (i := 1) sc_prefix.nd rfl (Or.inl rfl))) (fun _ _ _ _ _ => pts_nil) (fun _ _ _ _ _ => (pe_call G_draw hr1 rfl D_draw.g D_draw.F.kp D_draw.b .nil pass0 (pa_cons (pv 0) (pa_cons pe_int pa_nil))))) pa_nil)))), ?_⟩
    obtain ⟨ds, mx, c0, D0, hc0⟩ := D
    refine ⟨_, rfl, p, q, ds, mx, c0, 6, rfl, by decide, by decide, D0, by omega, fun i ds1 H1 i0 hi O1 D1' => ?_⟩
    obtain ⟨i, rfl⟩ := nat_of i0
    have D1 : Dk H1 p q (b + 1) := ⟨_, mx, _, D1', by omega⟩
    refine ⟨1, i, rfl, rfl, 1 + i, rfl, by omega, by omega, fun L nL => lc_dk (c := 1) (fun d => wt d ≤ 8 ∧ d.depth ≤ 0) (by omega) D1 nL (fun j Hx R hj Dj Oj kk => ?_) mono_name fun Hx acc ds O2 D2 hL hl hbs hp hx => ?_⟩
    · obtain ⟨dsj, mj, cj, Dj0, hcj⟩ := Dj
      refine ⟨rfl, _, rfl, p, q, dsj, mj, cj, 40, rfl, by decide, by decide, Dj0, by omega, fun m ds3 H3 m0 hm O3 D3 => ?_⟩
      exact kk _ (.int m) H3 O3 ⟨_, mj, _, D3, by omega⟩ (.int _) (inn_int (by omega) (by omega)) ⟨by simp [wt], by simp [PyData.depth]⟩
    · refine ⟨L, acc, rfl, .inl ⟨SqL.of hL, fun a na => ?_⟩⟩
      have S := same_new (o := HO.tup acc) na
      exact k _ (.tuple ds) _ ((O1.trans O2).trans (.of_same S)) ((D2.same S).mono (by omega)) (.tup (hide_new D2 na) (hx.same (hide_same S))) (Inn.tup (m := 6) hbs hp (by omega) (by decide))
end
end K7
set_option maxRecDepth 100000
set_option maxHeartbeats 8000000
namespace K7
open PySem PySem.Spec PyProof.Rows L2 TL
/-! ### the law's item -/
theorem in12 : ∀ so : Fin 9, inV (.int ((so.val : Nat) : Int)) [.int 1, .int 2] = decide (so.val = 1 ∨ so.val = 2) := by decide +kernel
theorem nm_len {x : Str} (h : x ∈ names9) : x.length ≤ 1000 := Nat.le_trans (name_tab x h).2.2 (by decide)
section
variable {P : Program} {w : World} {K : PySem.W.Frag} {mg : Str → Option Value} {base : Heap}
theorem ok_item {f fD fN fM fP : Addr} {fd fdD fdN fdM fdP : FuncData} (F : Fun K "_law_item" "_law_item" s_item f fd) (T : Nm mg) (D_draw : DefOk K mg "_law_draw" sDraw ["_law_deck_here", "_law_bound"] fD fdD)
    (D_number : DefOk K mg "_law_number" s_number ["_law_deck_here"] fN fdN) (G_number : FnOk P w K mg base CX0 3 fN fdN ["_law_deck_here"] spNumber)
    (D_name : DefOk K mg "_law_name" s_name ["_law_deck_here"] fM fdM) (G_name : FnOk P w K mg base CX0 3 fM fdM ["_law_deck_here"] spName)
    (D_prefix : DefOk K mg "_law_prefix" s_prefix ["_law_deck_here"] fP fdP) (G_prefix : FnOk P w K mg base CX0 3 fP fdP ["_law_deck_here"] spPrefix) : FnOk P w K mg base CX0 4 f fd ["_law_deck_here"] spItem := by
  have G_draw : FnOk P w K mg base CX0 1 fD fdD ["_law_deck_here", "_law_bound"] spDraw := ok_draw D_draw.F
  refine F.ok sc_item (fun vs H Q E h => ?_) (fun cdv A outer s H vs Q E hr h => ?_)
  · obtain ⟨p, q, b, rfl, _⟩ := h
    rfl
  · obtain ⟨p, q, b, rfl, D, hb, k⟩ := h
    have hr1 : Room 1 _ := hr.mono (by decide)
    refine ⟨_, (pss_cons (ps_set (i := 1) sc_item.nd rfl (Or.inl rfl) (pe_call G_draw hr1 rfl D_draw.g D_draw.F.kp D_draw.b .nil pass0 (pa_cons (pv 0) (pa_cons pe_int pa_nil))))
      (pss_cons (ps_if (pt_cmpR op_eq (pv 1) pe_int (nomark _))
        (pss_one (ps_ret (pe_cmpR op_eq (pe_call G_draw hr1 rfl D_draw.g D_draw.F.kp D_draw.b .nil pass0 (pa_cons (pv 0) (pa_cons pe_int pa_nil))) pe_int (nomark _))))
        pss_nil)
      (pss_cons (ps_if (pt_cmpR op_in_seq (pv 1) (pe_tup (pa_cons pe_int (pa_cons pe_int pa_nil))) rfl)
        (pss_one (ps_ret (pe_ix ix_list (pe_lst (pa_cons (pe_call G_number hr rfl D_number.g D_number.F.kp D_number.b .nil pass0 (pa_cons (pv 0) pa_nil)) (pa_cons (pe_call G_name hr rfl D_name.g D_name.F.kp D_name.b .nil pass0 (pa_cons (pv 0) pa_nil)) pa_nil))) (pe_op op_sub (pv 1) pe_int) (fun _ _ => rfl))))
        pss_nil)
      (pss_cons (ps_if (pt_cmpR op_eq (pv 1) pe_int (nomark _))
        (pss_one (ps_ret (pe_call G_prefix hr rfl D_prefix.g D_prefix.F.kp D_prefix.b .nil pass0 (pa_cons (pv 0) pa_nil))))
        pss_nil)
      (pss_cons (ps_if (pt_cmpR op_eq (pv 1) pe_int (nomark _))
        (pss_one (ps_ret (pe_tup (pa_cons (pe_call G_prefix hr rfl D_prefix.g D_prefix.F.kp D_prefix.b .nil pass0 (pa_cons (pv 0) pa_nil)) (pa_cons (pe_call G_name hr rfl D_name.g D_name.F.kp D_name.b .nil pass0 (pa_cons (pv 0) pa_nil)) pa_nil)))))
        pss_nil)
      (pss_cons (ps_if (pt_cmpR op_eq (pv 1) pe_int (nomark _))
        (pss_one (ps_ret (pe_tup (pa_cons (pe_call G_draw hr1 rfl D_draw.g D_draw.F.kp D_draw.b .nil pass0 (pa_cons (pv 0) (pa_cons pe_int pa_nil))) (pa_cons (pe_call G_prefix hr rfl D_prefix.g D_prefix.F.kp D_prefix.b .nil pass0 (pa_cons (pv 0) pa_nil)) pa_nil)))))
        pss_nil)
      (pss_cons (ps_if (pt_cmpR op_eq (pv 1) pe_int (nomark _))
        (pss_one (ps_ret (pe_tup (pa_cons (pe_callTy call_tuple_of (by rfl) T.tuple (by decide +kernel) (pa_cons (pe_lc (own := [("_law_k", 3)]) (g := (gName 3)) (tt := tYes) rfl sc_item.nd (pi_range1 rfl T.range (pa_cons (pe_call G_draw hr1 rfl D_draw.g D_draw.F.kp D_draw.b .nil pass0 (pa_cons (pv 0) (pa_cons pe_int pa_nil))) pa_nil)) (blkOk_by (N := ["_law_deck_here", "_law_way", "_law_steps", "_law_k"]) (sc := defScope s_item) (by decide +kernel))
          (fun _ _ _ _ _ => (pg_name (i := 3) sc_item.nd rfl (Or.inl rfl))) (fun _ _ _ _ _ => pts_nil) (fun _ _ _ _ _ => (pe_tup (pa_cons (pe_call G_prefix hr rfl D_prefix.g D_prefix.F.kp D_prefix.b .nil pass0 (pa_cons (pv 0) pa_nil)) (pa_cons (pe_call G_draw hr1 rfl D_draw.g D_draw.F.kp D_draw.b .nil pass0 (pa_cons (pv 0) (pa_cons pe_int pa_nil))) pa_nil))))) pa_nil)) (pa_cons (pe_call G_name hr rfl D_name.g D_name.F.kp D_name.b .nil pass0 (pa_cons (pv 0) pa_nil)) pa_nil)))))
        pss_nil)
      (pss_cons (ps_if (pt_cmpR op_eq (pv 1) pe_int (nomark _))
        (pss_cons (ps_set (i := 2) sc_item.nd rfl (Or.inl rfl) (pe_callTy call_tuple_of (by rfl) T.tuple (by decide +kernel) (pa_cons (pe_lc (own := [("_law_k", 3)]) (g := (gName 3)) (tt := tYes) rfl sc_item.nd (pi_range1 rfl T.range (pa_cons (pe_call G_draw hr1 rfl D_draw.g D_draw.F.kp D_draw.b .nil pass0 (pa_cons (pv 0) (pa_cons pe_int pa_nil))) pa_nil)) (blkOk_by (N := ["_law_deck_here", "_law_way", "_law_steps", "_law_k"]) (sc := defScope s_item) (by decide +kernel))
          (fun _ _ _ _ _ => (pg_name (i := 3) sc_item.nd rfl (Or.inl rfl))) (fun _ _ _ _ _ => pts_nil) (fun _ _ _ _ _ => (pe_tup (pa_cons (pe_call G_draw hr1 rfl D_draw.g D_draw.F.kp D_draw.b .nil pass0 (pa_cons (pv 0) (pa_cons pe_int pa_nil))) (pa_cons (pe_call G_prefix hr rfl D_prefix.g D_prefix.F.kp D_prefix.b .nil pass0 (pa_cons (pv 0) pa_nil)) pa_nil))))) pa_nil)))
        (pss_one (ps_ret (pe_tup (pa_cons (pv 2) (pa_cons (pe_call G_draw hr1 rfl D_draw.g D_draw.F.kp D_draw.b .nil pass0 (pa_cons (pv 0) (pa_cons pe_int pa_nil))) pa_nil))))))
        pss_nil)
      (pss_one (ps_ret (pe_tup (pa_cons (pe_call G_number hr rfl D_number.g D_number.F.kp D_number.b .nil pass0 (pa_cons (pv 0) pa_nil)) (pa_cons (pe_op op_rep01 (pe_tup (pa_cons (pe_call G_draw hr1 rfl D_draw.g D_draw.F.kp D_draw.b .nil pass0 (pa_cons (pv 0) (pa_cons pe_int pa_nil))) pa_nil)) (pe_call G_draw hr1 rfl D_draw.g D_draw.F.kp D_draw.b .nil pass0 (pa_cons (pv 0) (pa_cons pe_int pa_nil)))) pa_nil))))))))))))), ?_⟩
    obtain ⟨ds, mx, c0, D0, hc0⟩ := D
    refine ⟨_, rfl, p, q, ds, mx, c0, 9, rfl, by decide, by decide, D0, by omega, fun wy ds1 H1 w0 w1 O1 D1' => ?_⟩
    obtain ⟨wy, rfl⟩ := nat_of w0
    have D1 : Dk H1 p q (b + 1) := ⟨_, mx, _, D1', by omega⟩
    refine ⟨_, rfl, rfl, _, rfl, ?_⟩
    by_cases z0 : wy = 0
    · refine if_t (decide_eq_true (by rw [z0]; rfl)) ?_
      refine ⟨_, rfl, p, q, ds1, mx, c0 + 1, 2, rfl, by decide, by decide, D1', by omega, fun i ds2 H2 i0 hi O2 D2' => ⟨rfl, ?_⟩⟩
      exact k _ (.bool _) H2 (O1.trans O2) ⟨_, mx, _, D2', by omega⟩ (.bl _) ⟨rfl, by simp [PyData.depth], by simp [wt]⟩
    refine if_f (decide_eq_false fun z => z0 (by have := V.int.inj z; omega)) ?_
    refine ⟨_, rfl, (by show 2 ≤ sizeLine; decide), fun tp ntp => ?_⟩
    have St := same_new (o := HO.tup [.int 1, .int 2]) ntp
    have et : upd H1 tp (.tup [.int 1, .int 2]) tp = some (.tup [.int 1, .int 2]) := upd_same
    have D4 := D1.same St
    have O4 := O1.trans (.of_same St)
    generalize upd H1 tp (.tup [.int 1, .int 2]) = H4 at St et D4 O4 ⊢
    refine ⟨tp, _, rfl, .inr (SqT.of et), rfl, rfl, _, rfl, ?_⟩
    have ein := in12 ⟨wy, by omega⟩
    by_cases z12 : wy = 1 ∨ wy = 2
    · refine if_t (ein.trans (decide_eq_true z12)) ?_
      refine ⟨_, rfl, p, q, b + 1, rfl, D4, by omega, fun i H5 hi O5 D5 => ⟨_, rfl, p, q, b + 4, rfl, D5, by omega, fun x H6 hx O6 D6 => ⟨(by show 2 ≤ sizeLine; decide), fun l nl => ?_⟩⟩⟩
      have S6 := same_new (o := HO.lst [.int i, .str x]) nl
      have O7 := ((O4.trans O5).trans O6).trans (.of_same S6)
      have D7 := (D6.same S6).mono (b' := b + 50) (by omega)
      rcases z12 with rfl | rfl
      · exact ⟨_, rfl, _, _, rfl, rfl, l, _, _, .int i, rfl, rfl, SqL.of upd_same, rfl, k _ (.int i) _ O7 D7 (.int i) ((Inn.int hi).item (by decide) (by decide))⟩
      · exact ⟨_, rfl, _, _, rfl, rfl, l, _, _, .str x, rfl, rfl, SqL.of upd_same, rfl, k _ (.str x) _ O7 D7 (.str x (nm_len hx)) ((Inn.name hx).item (by decide) (by decide))⟩
    refine if_f (ein.trans (decide_eq_false z12)) ?_
    refine ⟨_, rfl, rfl, _, rfl, ?_⟩
    by_cases z3 : wy = 3
    · refine if_t (decide_eq_true (by rw [z3]; rfl)) ?_
      exact ⟨_, rfl, p, q, b + 1, rfl, D4, by omega, fun v d H5 O5 D5 dd di => k v d H5 (O4.trans O5) (D5.mono (by omega)) dd (di.item (by decide) (by decide))⟩
    refine if_f (decide_eq_false fun z => z3 (by have := V.int.inj z; omega)) ?_
    refine ⟨_, rfl, rfl, _, rfl, ?_⟩
    by_cases z4 : wy = 4
    · refine if_t (decide_eq_true (by rw [z4]; rfl)) ?_
      refine ⟨_, rfl, p, q, b + 1, rfl, D4, by omega, fun v d H5 O5 D5 dd di => ⟨_, rfl, p, q, b + 8, rfl, D5, by omega, fun x H6 hx O6 D6 => ⟨(by show 2 ≤ sizeLine; decide), fun a na => ?_⟩⟩⟩
      have S6 := same_new (o := HO.tup [v, .str x]) na
      exact k _ (.tuple [d, .str x]) _ (((O4.trans O5).trans O6).trans (.of_same S6)) ((D6.same S6).mono (by omega)) (.tup (hide_new D6 na) (.cons ((dd.same (hide_off O6)).same (hide_same S6)) (.cons (.str x (nm_len hx)) .nil))) ((Inn.two (m := 62) di ((Inn.name hx).mono (Nat.le_refl _) (by decide)) (by decide)).item (by decide) (by decide))
    refine if_f (decide_eq_false fun z => z4 (by have := V.int.inj z; omega)) ?_
    refine ⟨_, rfl, rfl, _, rfl, ?_⟩
    by_cases z5 : wy = 5
    · refine if_t (decide_eq_true (by rw [z5]; rfl)) ?_
      obtain ⟨ds4, m4, c4, D4', hc4⟩ := D4
      refine ⟨_, rfl, p, q, ds4, m4, c4, 400, rfl, by decide, by decide, D4', by omega, fun i ds5 H5 i0 hi O5 D5' => ?_⟩
      have D5 : Dk H5 p q (b + 2) := ⟨_, m4, _, D5', by omega⟩
      refine ⟨_, rfl, p, q, b + 2, rfl, D5, by omega, fun v d H6 O6 D6 dd di => ⟨(by show 2 ≤ sizeLine; decide), fun a na => ?_⟩⟩
      have S6 := same_new (o := HO.tup [.int i, v]) na
      exact k _ (.tuple [.int i, d]) _ (((O4.trans O5).trans O6).trans (.of_same S6)) ((D6.same S6).mono (by omega)) (.tup (hide_new D6 na) (.cons (.int i) (.cons (dd.same (hide_same S6)) .nil))) ((Inn.two (m := 62) ((Inn.int (inn_int (by omega) (by omega))).mono (Nat.le_refl _) (by decide)) di (by decide)).item (by decide) (by decide))
    refine if_f (decide_eq_false fun z => z5 (by have := V.int.inj z; omega)) ?_
    refine ⟨_, rfl, rfl, _, rfl, ?_⟩
    by_cases z6 : wy = 6
    · refine if_t (decide_eq_true (by rw [z6]; rfl)) ?_
      obtain ⟨ds4, m4, c4, D4', hc4⟩ := D4
      refine ⟨_, rfl, p, q, ds4, m4, c4, 4, rfl, by decide, by decide, D4', by omega, fun n ds5 H5 n0 hn O5 D5' => ?_⟩
      obtain ⟨n, rfl⟩ := nat_of n0
      have D5 : Dk H5 p q (b + 2) := ⟨_, m4, _, D5', by omega⟩
      refine ⟨n, rfl, by omega, by omega, fun L nL => lc_dk (c := 8) (fun d => wt d ≤ 62 ∧ d.depth ≤ 2) (by omega) D5 nL (fun j Hx R hj Dj Oj kk => ?_) mono_name fun Hx acc ds O6 D6 hL hl hbs hp hx => ?_⟩
      · refine ⟨rfl, _, rfl, p, q, _, rfl, Dj, by omega, fun v d H7 O7 D7 dd di => ?_⟩
        obtain ⟨ds7, m7, c7, D7', hc7⟩ := D7
        refine ⟨_, rfl, p, q, ds7, m7, c7, 6, rfl, by decide, by decide, D7', by omega, fun i ds8 H8 i0 hi O8 D8' => ⟨(by show 2 ≤ sizeLine; decide), fun a na => ?_⟩⟩
        have D8 : Dk H8 p q (b + 2 + 8 * (j + 1)) := ⟨_, m7, _, D8', by omega⟩
        have S8 := same_new (o := HO.tup [v, .int i]) na
        have I2 : Inn 62 2 (.tuple [d, .int i]) := Inn.two di ((Inn.int (inn_int (by omega) (by omega))).mono (Nat.le_refl _) (by decide)) (by decide)
        exact kk _ (.tuple [d, .int i]) _ ((O7.trans O8).trans (.of_same S8)) (D8.same S8) (.tup (hide_new D8 na) (.cons ((dd.same (hide_off O8)).same (hide_same S8)) (.cons (.int i) .nil))) I2.b ⟨I2.w, I2.n⟩
      · refine ⟨L, acc, rfl, .inl ⟨SqL.of hL, fun a na => ?_⟩⟩
        have S7 := same_new (o := HO.tup acc) na
        have e7 := hide_new (o := .tup acc) D6 na
        have D7 := D6.same S7
        have hx7 := hx.same (hide_same (p := p) (q := q) S7)
        generalize upd Hx a (.tup acc) = H7 at S7 e7 D7 hx7 ⊢
        refine ⟨_, rfl, p, q, _, rfl, D7, by omega, fun x H8 hxn O8 D8 => ⟨(by show 2 ≤ sizeLine; decide), fun t nt => ?_⟩⟩
        have S8 := same_new (o := HO.tup [.ref a, .str x]) nt
        have It : Inn 189 3 (.tuple ds) := Inn.tup (m := 3) hbs hp (by omega) (by decide)
        exact k _ (.tuple [.tuple ds, .str x]) _ (((((O4.trans O5).trans O6).trans (.of_same S7)).trans O8).trans (.of_same S8)) ((D8.same S8).mono (by omega)) (.tup (hide_new D8 nt) (.cons (((Dat.tup e7 hx7).same (hide_off O8)).same (hide_same S8)) (.cons (.str x (nm_len hxn)) .nil))) ((Inn.two (m := 200) It ((Inn.name hxn).mono (Nat.le_refl _) (by decide)) (by decide)).item (by decide) (by decide))
    refine if_f (decide_eq_false fun z => z6 (by have := V.int.inj z; omega)) ?_
    refine ⟨_, rfl, rfl, _, rfl, ?_⟩
    by_cases z7 : wy = 7
    · refine if_t (decide_eq_true (by rw [z7]; rfl)) ?_
      obtain ⟨ds4, m4, c4, D4', hc4⟩ := D4
      refine ⟨_, rfl, p, q, ds4, m4, c4, 4, rfl, by decide, by decide, D4', by omega, fun n ds5 H5 n0 hn O5 D5' => ?_⟩
      obtain ⟨n, rfl⟩ := nat_of n0
      have D5 : Dk H5 p q (b + 2) := ⟨_, m4, _, D5', by omega⟩
      refine ⟨n, rfl, by omega, by omega, fun L nL => lc_dk (c := 8) (fun d => wt d ≤ 62 ∧ d.depth ≤ 2) (by omega) D5 nL (fun j Hx R hj Dj Oj kk => ?_) mono_name fun Hx acc ds O6 D6 hL hl hbs hp hx => ?_⟩
      · obtain ⟨ds7, m7, c7, D7', hc7⟩ := Dj
        refine ⟨rfl, _, rfl, p, q, ds7, m7, c7, 9, rfl, by decide, by decide, D7', by omega, fun i ds8 H8 i0 hi O8 D8' => ?_⟩
        have D8 : Dk H8 p q (b + 2 + 8 * j + 1) := ⟨_, m7, _, D8', by omega⟩
        refine ⟨_, rfl, p, q, _, rfl, D8, by omega, fun v d H7 O7 D7 dd di => ⟨(by show 2 ≤ sizeLine; decide), fun a na => ?_⟩⟩
        have S8 := same_new (o := HO.tup [.int i, v]) na
        have I2 : Inn 62 2 (.tuple [.int i, d]) := Inn.two ((Inn.int (inn_int (by omega) (by omega))).mono (Nat.le_refl _) (by decide)) di (by decide)
        exact kk _ (.tuple [.int i, d]) _ ((O8.trans O7).trans (.of_same S8)) ((D7.same S8).mono (by omega)) (.tup (hide_new D7 na) (.cons (.int i) (.cons (dd.same (hide_same S8)) .nil))) I2.b ⟨I2.w, I2.n⟩
      · refine ⟨L, acc, rfl, .inl ⟨SqL.of hL, fun a na => ?_⟩⟩
        have S7 := same_new (o := HO.tup acc) na
        have e7 := hide_new (o := .tup acc) D6 na
        have D7 := D6.same S7
        have hx7 := hx.same (hide_same (p := p) (q := q) S7)
        generalize upd Hx a (.tup acc) = H7 at S7 e7 D7 hx7 ⊢
        obtain ⟨ds9, m9, c9, D9', hc9⟩ := D7
        refine ⟨_, rfl, _, rfl, p, q, ds9, m9, c9, 400, rfl, by decide, by decide, D9', by omega, fun i ds8 H8 i0 hi O8 D8' => ⟨(by show 2 ≤ sizeLine; decide), fun t nt => ?_⟩⟩
        have D8 : Dk H8 p q (b + 2 + 8 * n + 1) := ⟨_, m9, _, D8', by omega⟩
        have S8 := same_new (o := HO.tup [.ref a, .int i]) nt
        have It : Inn 189 3 (.tuple ds) := Inn.tup (m := 3) hbs hp (by omega) (by decide)
        exact k _ (.tuple [.tuple ds, .int i]) _ (((((O4.trans O5).trans O6).trans (.of_same S7)).trans O8).trans (.of_same S8)) ((D8.same S8).mono (by omega)) (.tup (hide_new D8 nt) (.cons (((Dat.tup e7 hx7).same (hide_off O8)).same (hide_same S8)) (.cons (.int i) .nil))) ((Inn.two (m := 200) It ((Inn.int (inn_int (by omega) (by omega))).mono (Nat.le_refl _) (by decide)) (by decide)).item (by decide) (by decide))
    refine if_f (decide_eq_false fun z => z7 (by have := V.int.inj z; omega)) ?_
    refine ⟨_, rfl, p, q, b + 1, rfl, D4, by omega, fun i H5 hi O5 D5 => ?_⟩
    obtain ⟨ds5, m5, c5, D5', hc5⟩ := D5
    refine ⟨_, rfl, p, q, ds5, m5, c5, 61, rfl, by decide, by decide, D5', by omega, fun n ds6 H6 n0 hn O6 D6' => ⟨(by show 1 ≤ sizeLine; decide), fun t nt => ?_⟩⟩
    have D6 : DeckAt (upd H6 t (.tup [.int n])) p q ds6 m5 (c5 + 1) := D6'.same (same_new nt)
    have S6 := same_new (o := HO.tup [.int n]) nt
    have Dk6 : Dk H6 p q (b + 5) := ⟨_, m5, _, D6', by omega⟩
    have e6 := hide_new (o := .tup [.int n]) Dk6 nt
    have g6 : upd H6 t (.tup [.int n]) t = some (.tup [.int n]) := upd_same
    generalize upd H6 t (.tup [.int n]) = H7 at D6 S6 e6 g6 ⊢
    refine ⟨_, rfl, p, q, ds6, m5, c5 + 1, 2, rfl, by decide, by decide, D6, by omega, fun r ds8 H8 r0 hr8 O8 D8' => ?_⟩
    have D8 : Dk H8 p q (b + 6) := ⟨_, m5, _, D8', by omega⟩
    have nt7 : t ≠ p ∧ t ≠ q := Dk6.new nt
    have g8 := O8 _ _ g6 nt7.1 nt7.2
    have OO := (((O4.trans O5).trans O6).trans (.of_same S6)).trans O8
    have hi' := hi
    have In : Inn 8 0 (.int n) := Inn.int (inn_int (by omega) (by omega))
    have Ii : Inn 8 2 (.int i) := (Inn.int hi).mono (Nat.le_refl _) (by decide)
    by_cases zr : r = 1
    · refine ⟨t, r, [.int n], rfl, rfl, g8, by simp, .inl ⟨zr, (by show 2 ≤ sizeLine; decide), fun a na => ?_⟩⟩
      have S9 := same_new (o := HO.tup [.int i, .ref t]) na
      have It : Inn 11 1 (.tuple [.int n]) := Inn.tup (w := 8) (m := 1) (by rw [innBs, In.b]; rfl) (fun d hd => by rw [List.mem_singleton.mp hd]; exact ⟨In.w, In.n⟩) (Nat.le_refl _) (by decide)
      exact k _ (.tuple [.int i, .tuple [.int n]]) _ (OO.trans (.of_same S9)) ((D8.same S9).mono (by omega)) (.tup (hide_new D8 na) (.cons (.int i) (.cons (.tup (hide_same S9 _ _ (hide_at g8 nt7.1 nt7.2)) (.cons (.int n) .nil)) .nil))) ((Inn.two (m := 30) Ii (It.mono (Nat.le_refl _) (by decide)) (by decide)).item (by decide) (by decide))
    · refine ⟨t, r, [.int n], rfl, rfl, g8, by simp, .inr ⟨by omega, fun e ne => ⟨(by show 2 ≤ sizeLine; decide), fun a na => ?_⟩⟩⟩
      have S8 := same_new (o := HO.tup []) ne
      have e8 := hide_new (o := .tup []) D8 ne
      have S9 := same_new (o := HO.tup [.int i, .ref e]) na
      have It : Inn 3 1 (.tuple []) := Inn.tup (w := 0) (m := 0) rfl (fun d hd => by cases hd) (Nat.le_refl _) (by decide)
      exact k _ (.tuple [.int i, .tuple []]) _ ((OO.trans (.of_same S8)).trans (.of_same S9)) (((D8.same S8).same S9).mono (by omega)) (.tup (hide_new (D8.same S8) na) (.cons (.int i) (.cons (.tup (hide_same S9 _ _ e8) .nil) .nil))) ((Inn.two (m := 30) Ii (It.mono (Nat.le_refl _) (by decide)) (by decide)).item (by decide) (by decide))
end
end K7
set_option maxRecDepth 100000
set_option maxHeartbeats 8000000
namespace K7
open PySem PySem.Spec PyProof.Rows L2 TL
/-! ### what the law's reprs need; its dict of texts -/
theorem item_ok {d : PyData} (it : Item d) : Ok d := by
  obtain ⟨a, b⟩ := item_fine it.b
  have := it.w
  exact fine_ok (s := 1) (by decide) a (by omega) (Nat.le_trans it.n (by decide))
theorem ints_fine {ks : List Int} (hk : ∀ k ∈ ks, k.natAbs ≤ 10) : fineAll 1 (ks.map PyData.int) = true := fineAll_iff.mpr fun d hd => by
  obtain ⟨k, hk', rfl⟩ := List.mem_map.mp hd
  rw [fineB]
  exact decide_eq_true (Nat.lt_of_le_of_lt (hk k hk') (by decide +kernel))
theorem ints_mass : ∀ ks : List Int, massAll (ks.map PyData.int) = ks.length
  | [] => rfl
  | k :: ks => by
    rw [List.map_cons, massAll, ints_mass ks, List.length_cons, mass]
    omega
def pairD (ks : List Int) (d : PyData) : PyData := .tuple [.tuple [.tuple (ks.map PyData.int), .tuple [d]], .tuple [.tuple (.int 3 :: ks.map PyData.int), .tuple []]]
theorem pair_ok {ks : List Int} (hk : ∀ k ∈ ks, k.natAbs ≤ 10) (hl : ks.length ≤ 10) {d : PyData} (it : Item d) : Ok (pairD ks d) := by
  obtain ⟨a, b⟩ := item_fine it.b
  have hw := it.w
  have hn := it.n
  have f := ints_fine hk
  have f3 : fineB 1 (.int 3) = true := by
    rw [fineB]
    exact decide_eq_true (by decide +kernel)
  refine fine_ok (s := 1) (by decide) ?_ ?_ ?_
  · unfold pairD
    simp only [fineB, fineAll, f, a, Bool.and_true, Bool.true_and]
    simpa only [fineB] using f3
  · unfold pairD
    simp only [mass, massAll, ints_mass]
    omega
  · unfold pairD
    simp only [PyData.depth, PyData.depthAll, depth_ints]
    omega
theorem str_fine {x : Str} (h : (tl x).all ascB = true) (hl : x.length ≤ 400) : fineB 1 (.str x) = true := by
  rw [fineB, Bool.and_eq_true]
  exact ⟨h, decide_eq_true hl⟩
theorem item_str {d : PyData} (it : Item d) : fineB 1 (.str (txt d)) = true ∧ (txt d).length ≤ 300 := by
  obtain ⟨a, b⟩ := item_len it.b
  have := it.w
  exact ⟨str_fine b (by omega), by omega⟩
theorem other_str {k : Int} (hk : k.natAbs ≤ 10) : fineB 1 (.str (("other " : Str) ++ intT k)) = true ∧ (("other " : Str) ++ intT k).length ≤ 300 := by
  have hi : innB (.int k) = true := inn_int (by omega) (by omega)
  obtain ⟨_, a, _, l⟩ := int_of hi
  have lo : ("other " : Str).length = 6 := by decide +kernel
  have e : (("other " : Str) ++ intT k).length = 6 + (intT k).length := by rw [Str.length_append, lo]
  refine ⟨str_fine ?_ (by omega), by omega⟩
  rw [tl_append, List.all_append, all_imp dig_asc a, Bool.and_true]
  decide +kernel
def toldD (d : PyData) (k : Int) : PyData := .list [.str (txt d), .str (txt d), .str (("other " : Str) ++ intT k), .str (("other " : Str) ++ intT 4)]
theorem told_ok {d : PyData} (it : Item d) {k : Int} (hk : k.natAbs ≤ 10) : Ok (toldD d k) := by
  obtain ⟨a, b⟩ := item_str it
  obtain ⟨a2, b2⟩ := other_str hk
  obtain ⟨a3, b3⟩ := other_str (k := 4) (by decide)
  have sz : ∀ x : Str, x.cps.size = x.length := fun _ => rfl
  refine fine_ok (s := 1) (by decide) ?_ ?_ ?_
  · unfold toldD
    rw [fineB, fineAll, fineAll, fineAll, fineAll, fineAll, a, a2, a3]
    rfl
  · unfold toldD
    simp only [mass, massAll, sz]
    omega
  · unfold toldD
    simp only [PyData.depth, PyData.depthAll]
    decide
theorem told_dat {H : Hp} {l : Addr} {d : PyData} (it : Item d) {k : Int} (hk : k.natAbs ≤ 10) (h : H l = some (.lst [.str (txt d), .str (txt d), .str (("other " : Str) ++ intT k), .str (("other " : Str) ++ intT 4)])) : Dat H (.ref l) (toldD d k) := by
  obtain ⟨_, b⟩ := item_str it
  obtain ⟨_, b2⟩ := other_str hk
  obtain ⟨_, b3⟩ := other_str (k := 4) (by decide)
  exact .lst h (.cons (.str _ (by omega)) (.cons (.str _ (by omega)) (.cons (.str _ (by omega)) (.cons (.str _ (by omega)) .nil))))
/-- the dict: texts of items, with their reprs -/
def TxOk (kvs : List (Key × V)) : Prop := ∀ kv ∈ kvs, ∃ e : PyData, itemB e = true ∧ kv.1 = .inr (txt e) ∧ kv.2 = .str e.shown
theorem tx_get {kvs : List (Key × V)} (h : TxOk kvs) {d : PyData} (hd : innB d = true) (td : isTup d = true) : (valV kvs (.inr (txt d))).getD (.str d.shown) = .str d.shown := by
  unfold valV
  cases e : kvs.find? fun kv => decide (kv.1 = (.inr (txt d) : Key)) with
  | none => rfl
  | some kv =>
    have hm := List.mem_of_find?_eq_some e
    have hp := List.find?_some e
    have hk : kv.1 = (.inr (txt d) : Key) := of_decide_eq_true hp
    obtain ⟨x, hx, h1, h2⟩ := h kv hm
    have e2 : txt d = txt x := by
      have z := hk.symm.trans h1
      injection z
    have e3 := tup_inj hd td hx e2
    subst e3
    show (some kv.2).getD _ = _
    rw [h2]
    rfl
theorem tx_put {kvs : List (Key × V)} (h : TxOk kvs) {d : PyData} (hd : itemB d = true) : TxOk (putK kvs (.inr (txt d)) (.str d.shown)) := by
  intro kv hkv
  unfold putK at hkv
  split at hkv
  · obtain ⟨kv0, h0, rfl⟩ := List.mem_map.mp hkv
    split
    · rename_i e
      exact ⟨d, hd, e, rfl⟩
    · exact h kv0 h0
  · rcases List.mem_append.mp hkv with h0 | h0
    · exact h kv h0
    · rw [List.mem_singleton.mp h0]
      exact ⟨d, hd, rfl, rfl⟩
theorem put_len {kvs : List (Key × V)} {k : Key} {v : V} : (putK kvs k v).length ≤ kvs.length + 1 := by
  unfold putK
  split
  · rw [List.length_map]
    omega
  · rw [List.length_append, List.length_singleton]
    omega
theorem ints_of {H : Hp} : ∀ {acc : List V} {ds : List PyData}, DatAll H acc ds → (∀ d ∈ ds, ∃ k : Int, d = .int k ∧ k.natAbs ≤ 10) → ∃ ks : List Int, acc = ks.map V.int ∧ ds = ks.map PyData.int ∧ ∀ k ∈ ks, k.natAbs ≤ 10
  | _, _, .nil, _ => ⟨[], rfl, rfl, fun k h => by cases h⟩
  | _, _, .cons (d := d) (ds := ds) a t, h => by
    obtain ⟨ks, h1, h2, h3⟩ := ints_of t fun e he => h e (List.mem_cons_of_mem _ he)
    obtain ⟨k, rfl, hk⟩ := h _ (List.mem_cons_self ..)
    cases a
    refine ⟨k :: ks, by rw [h1]; rfl, by rw [h2]; rfl, fun j hj => ?_⟩
    rcases List.mem_cons.mp hj with rfl | hj
    · exact hk
    · exact h3 j hj
theorem ints_dat (H : Hp) : ∀ ks : List Int, DatAll H (ks.map V.int) (ks.map PyData.int)
  | [] => .nil
  | k :: ks => .cons (.int k) (ints_dat H ks)
theorem last_of (ks : List Int) (h : ∀ k ∈ ks, k.natAbs ≤ 10) : ∃ k : Int, atI (V.int 3 :: ks.map V.int) (-1) = some (.int k) ∧ k.natAbs ≤ 10 := by
  have hne : (3 :: ks) ≠ [] := by simp
  refine ⟨(3 :: ks).getLast hne, ?_, ?_⟩
  · have e : V.int 3 :: ks.map V.int = (3 :: ks).dropLast.map V.int ++ [V.int ((3 :: ks).getLast hne)] := by
      have z : (3 :: ks : List Int) = (3 :: ks).dropLast ++ [(3 :: ks).getLast hne] := (List.dropLast_concat_getLast hne).symm
      have y := congrArg (List.map V.int) z
      rw [List.map_append] at y
      exact y
    rw [e]
    exact atI_last _ _
  · have hm := List.getLast_mem hne
    rcases List.mem_cons.mp hm with e | hm
    · rw [e]
      decide
    · exact h _ hm
/-- two tuples, one behind the other -/
theorem catA_of {K : PySem.W.Frag} {H : Hp} {a b : Addr} {xs ys : List V} {Q : VK} (ha : H a = some (.tup xs)) (hb : H b = some (.tup ys)) (hz : xs.length + ys.length ≤ sizeLine) (hq : ∀ (c : Addr) (Hc : Hp), Same H Hc → Hc c = some (.tup (xs ++ ys)) → Q (.ref c) Hc) : rCatA K (.ref a) (.ref b) H Q := by
  refine ⟨a, b, xs, ys, rfl, rfl, SqT.of ha, SqT.of hb, hz, fun e => hq b H (Same.refl H) ?_, fun _ e => hq a H (Same.refl H) ?_, fun _ _ p np => hq p _ (same_new np) upd_same⟩
  · rw [hb, e, List.nil_append]
  · rw [ha, e, List.append_nil]
end K7
set_option maxRecDepth 100000
set_option maxHeartbeats 1000000
namespace K7
open PySem PySem.Spec PyProof.Rows L2 TL
/-! ### the law -/
abbrev s_law : Stmt := top 12
def spLaw (K : PySem.W.Frag) : Sp := fun vs H Q _ => ∃ (a : Addr) (ns : List Int), vs = [.ref a] ∧ SqL K H a (ns.map V.int) ∧ ns.length ≤ 63 ∧ ∀ H', Q (.bl true) H'
abbrev NL : List Str := ["_law_script", "_law_deck_here", "_law_texts", "_law_turn", "_law_selections", "_law_item_here", "_law_own", "_law_without", "_law_kept", "_law_due", "_law_told", "_law_k"]
section
variable {P : Program} {w : World} {K : PySem.W.Frag} {mg : Str → Option Value} {base : Heap}
theorem sc_law : FnScope NL ["_law_script"] (defScope s_law) := ⟨rfl, rfl, rfl, by decide +kernel, rfl, by decide +kernel, by decide +kernel⟩
theorem ok_law {f fK fD fI fX fA : Addr} {fd fdK fdD fdI fdX fdA : FuncData} (F : Fun K "law" "law" s_law f fd) (T : Nm mg) (eS : PySem.W.nsIn K cStatics "sys.int_max_str_digits" = some none)
    (D_deck : DefOk K mg "_law_deck" sDeck ["_law_script"] fK fdK) (D_draw : DefOk K mg "_law_draw" sDraw ["_law_deck_here", "_law_bound"] fD fdD) (D_item : DefOk K mg "_law_item" s_item ["_law_deck_here"] fI fdI) (G_item : FnOk P w K mg base CX0 4 fI fdI ["_law_deck_here"] spItem)
    (D_text : DefOk K mg "_law_text" s_text ["_law_item_here"] fX fdX) (G_text : FnOk P w K mg base CX0 8 fX fdX ["_law_item_here"] (spTxt 6)) (D_fa : DefOk K mg "format_answer" s_fa ["answer"] fA fdA) (G_fa : FnOk P w K mg base CX0 9 fA fdA ["answer"] spFa)
    (kb : KBinds K fdA ["answer"] ["answer"] (fun us ws => us ++ ws) (fun vs zs => vs ++ zs)) : FnG P w K mg base 10 f fd ["_law_script"] (spLaw K) := by
  have G_deck : FnOk P w K mg base CX0 1 fK fdK ["_law_script"] (spDeck K) := ok_deck D_deck.F T T.list
  have G_draw : FnOk P w K mg base CX0 1 fD fdD ["_law_deck_here", "_law_bound"] spDraw := ok_draw D_draw.F
  refine F.okG sc_law (fun vs H Q E h => ?_) (fun cdv A outer s H vs Q E hg hr h => ?_)
  · obtain ⟨a, ns, rfl, _⟩ := h
    rfl
  · obtain ⟨a, ns0, rfl, hS, hlen, fin⟩ := h
    have hu : (A.deeper (envOfC "law" (defScope s_law) s.heap.objs.size f cdv)).units + 128 < cLine := by
      have := hr.un
      omega
    have hu1 := hu_of hr
    have hr1 : Room 1 _ := hr.mono (by decide)
    have hr4 : Room 4 _ := hr.mono (by decide)
    have hr8 : Room 8 _ := hr.mono (by decide)
    refine ⟨_, (pss_cons (ps_asg (pe_tup (pa_cons (pe_call G_deck hr1 rfl D_deck.g D_deck.F.kp D_deck.b .nil pass0 (pa_cons (pv 0) pa_nil)) (pa_cons pe_dnewK pa_nil))) (pg_tup rfl (pgs_cons (pg_name (i := 1) sc_law.nd rfl (Or.inr rfl)) (pgs_cons (pg_name (i := 2) sc_law.nd rfl (Or.inl rfl)) pgs_nil))))
      (pss_cons (ps_for PassesOwn.never rfl (pi_range1 rfl T.range (pa_cons pe_int pa_nil)) (pg_name (i := 3) sc_law.nd rfl (Or.inl rfl))
        (pss_cons (ps_set (i := 4) sc_law.nd rfl (Or.inl rfl) (pe_callTy call_tuple_of (by rfl) T.tuple (by decide +kernel) (pa_cons (pe_lc (own := [("_law_k", 11)]) (g := (gName 11)) (tt := tYes) rfl sc_law.nd (pi_range1 rfl T.range (pa_cons (pe_call G_draw hr1 rfl D_draw.g D_draw.F.kp D_draw.b .nil pass0 (pa_cons (pv 1) (pa_cons pe_int pa_nil))) pa_nil)) (blkOk_by (N := NL) (sc := defScope s_law) (by decide +kernel))
          (fun _ _ _ _ _ => (pg_name (i := 11) sc_law.nd rfl (Or.inl rfl))) (fun _ _ _ _ _ => pts_nil) (fun _ _ _ _ _ => (pe_call G_draw hr1 rfl D_draw.g D_draw.F.kp D_draw.b .nil pass0 (pa_cons (pv 1) (pa_cons pe_int pa_nil))))) pa_nil)))
        (pss_cons (ps_set (i := 5) sc_law.nd rfl (Or.inl rfl) (pe_call G_item hr4 rfl D_item.g D_item.F.kp D_item.b .nil pass0 (pa_cons (pv 1) pa_nil)))
        (pss_cons (ps_par (i := 6) (j := 7) rfl sc_law.nd rfl rfl (by decide) rfl rfl (pa_cons (pe_tup (pa_cons (pv 4) (pa_cons (pe_tup (pa_cons (pv 5) pa_nil)) pa_nil))) (pa_cons (pe_tup (pa_cons (pe_op op_catA (pe_tup (pa_cons pe_int pa_nil)) (pv 4)) (pa_cons (pe_tup pa_nil) pa_nil))) pa_nil)) (by rfl))
        (pss_cons (ps_par (i := 8) (j := 9) rfl sc_law.nd rfl rfl (by decide) rfl rfl (pa_cons (pe_callB (call_reprD hg hu eS) (by rfl) T.repr (by decide +kernel) (pa_cons (pe_tup (pa_cons (pv 6) (pa_cons (pv 7) pa_nil))) pa_nil)) (pa_cons (pe_call G_text hr8 rfl D_text.g D_text.F.kp D_text.b .nil pass0 (pa_cons (pv 5) pa_nil)) pa_nil)) (by rfl))
        (pss_cons (ps_set (i := 10) sc_law.nd rfl (Or.inl rfl) (pe_lst (pa_cons (pe_call G_fa hr rfl D_fa.g D_fa.F.kp D_fa.b .nil pass0 (pa_cons (pv 6) pa_nil)) (pa_cons (pe_callKw G_fa hr rfl D_fa.g D_fa.F.kp kb pass0 (pk_cons (pv 6) pk_nil)) (pa_cons (pe_call G_fa hr rfl D_fa.g D_fa.F.kp D_fa.b .nil pass0 (pa_cons (pv 7) pa_nil)) (pa_cons (pe_call G_fa hr rfl D_fa.g D_fa.F.kp D_fa.b .nil pass0 (pa_cons (pe_tup (pa_cons (pe_tup (pa_cons pe_int (pa_cons pe_int pa_nil))) (pa_cons (pe_tup pa_nil) pa_nil))) pa_nil)) pa_nil))))))
        (pss_cons (ps_if (PW.pt (pw_or (pt_cmpR op_ne (pe_callB (call_reprD hg hu eS) (by rfl) T.repr (by decide +kernel) (pa_cons (pv 10) pa_nil)) (pe_callB (call_reprD hg hu eS) (by rfl) T.repr (by decide +kernel) (pa_cons (pe_lst (pa_cons (pv 9) (pa_cons (pv 9) (pa_cons (pe_op op_add_str pe_str (pe_callTy call_str_int (by rfl) T.str (by decide +kernel) (pa_cons (pe_ix ix_tup (pe_ix ix_tup (pv 7) pe_int (fun _ _ => rfl)) (pe_un un_neg pe_int) (fun _ _ => rfl)) pa_nil))) (pa_cons pe_str pa_nil))))) pa_nil)) (nomark _)) (pw_or1 (pt_cmpR op_ne (pe_callB (call_reprD hg hu eS) (by rfl) T.repr (by decide +kernel) (pa_cons (pe_tup (pa_cons (pv 6) (pa_cons (pv 7) pa_nil))) pa_nil)) (pv 8) (nomark _)))))
          (pss_one (ps_ret pe_bl))
          pss_nil)
        (pss_cons (ps_if (PW.pt (pw_and (pt_val (pe_callB call_isi (by rfl) T.isinstance boot_isinstance (pa_cons (pv 5) (pa_cons (pe_bltn (v := .ty "tuple") rfl T.tuple (by decide +kernel) rfl) pa_nil)))) (pw_and1 (pt_cmpR op_ne (pe_dget2 hu1 (pv 2) (pv 9) (pe_callB (call_reprD hg hu eS) (by rfl) T.repr (by decide +kernel) (pa_cons (pv 5) pa_nil)) ⟨rfl, rfl, rfl, rfl⟩) (pe_callB (call_reprD hg hu eS) (by rfl) T.repr (by decide +kernel) (pa_cons (pv 5) pa_nil)) (nomark _)))))
          (pss_one (ps_ret pe_bl))
          pss_nil)
        (pss_one (ps_dput hu1 (pv 2) (pv 9) (pe_callB (call_reprD hg hu eS) (by rfl) T.repr (by decide +kernel) (pa_cons (pv 5) pa_nil)) rfl))))))))))
      (pss_one (ps_ret pe_bl)))), ?_⟩
    refine ⟨_, rfl, a, ns0, rfl, hS, hlen, fun p q ms m H1 s1 np nq D1 => fun r nr => ⟨(by show 2 ≤ sizeLine; decide), fun t nt => ⟨t, _, rfl, SqT.of upd_same, rfl, _, _, rfl, _, _, rfl, rfl, ?_⟩⟩⟩
    have K1 : Dk H1 p q 0 := ⟨ms, m, 0, D1, by decide⟩
    obtain ⟨rp, rq⟩ := K1.new nr
    have K2' : Dk (upd H1 r (.dK [])) p q 0 := dk_upd K1 rp rq
    have S2 := same_new (o := HO.tup [.ref p, .ref r]) nt
    have K2 := K2'.same S2
    have hr2 := S2 _ _ (upd_same (H := H1) (a := r) (o := .dK []))
    generalize upd (upd H1 r (.dK [])) t (.tup [.ref p, .ref r]) = H2 at K2 hr2 ⊢
    refine ⟨40, rfl, by decide, by decide, for_range (n := 40) (fun i σ Hx => ∃ (x3 x4 x5 x6 x7 x8 x9 x10 : Option V) (kvs : List (Key × V)), σ = [some (.ref a), some (.ref p), some (.ref r), x3, x4, x5, x6, x7, x8, x9, x10, none] ∧ Dk Hx p q (100 * i) ∧ Hx r = some (.dK kvs) ∧ kvs.length ≤ i ∧ TxOk kvs)
      ⟨none, none, none, none, none, none, none, none, [], rfl, K2, hr2, Nat.le_refl _, fun kv h => by cases h⟩ ?_ ?_⟩
    · rintro i σ H3 hi ⟨x3, x4, x5, x6, x7, x8, x9, x10, kvs, rfl, K3, hr3, hkl, tx⟩
      obtain ⟨ds3, m3, c3, D3, hc3⟩ := K3
      -- selections
      refine ⟨_, rfl, p, q, ds3, m3, c3, 5, rfl, by decide, by decide, D3, by omega, fun n ds4 H4 n0 hn O4 D4' => ?_⟩
      obtain ⟨n, rfl⟩ := nat_of n0
      have D4 : Dk H4 p q (100 * i + 1) := ⟨_, m3, _, D4', by omega⟩
      refine ⟨n, rfl, by omega, by omega, fun L nL => lc_dk (c := 1) (fun d => ∃ k : Int, d = .int k ∧ k.natAbs ≤ 10) (by omega) D4 nL (fun j Hx R hj Dj Oj kk => ?_) mono_name fun H5 acc ds O5 D5 hL hl hbs hp hx => ?_⟩
      · obtain ⟨dsj, mj, cj, Dj0, hcj⟩ := Dj
        refine ⟨rfl, _, rfl, p, q, dsj, mj, cj, 6, rfl, by decide, by decide, Dj0, by omega, fun k ds6 H6 k0 hk O6 D6 => ?_⟩
        exact kk _ (.int k) H6 O6 ⟨_, mj, _, D6, by omega⟩ (.int _) (inn_int (by omega) (by omega)) ⟨k, rfl, by omega⟩
      obtain ⟨ks, hacc, hds, hks⟩ := ints_of hx hp
      have kl : ks.length ≤ 10 := by
        rw [hds, List.length_map] at hl
        omega
      subst hacc
      clear hx hds hbs hp hl
      refine ⟨L, _, rfl, .inl ⟨SqL.of hL, fun sA ns => ?_⟩⟩
      have S6 := same_new (o := HO.tup (ks.map V.int)) ns
      have e6 := hide_new (o := .tup (ks.map V.int)) D5 ns
      have D6 := D5.same S6
      have O36 := (O4.trans O5).trans (.of_same S6)
      generalize upd H5 sA (.tup (ks.map V.int)) = H6 at S6 e6 D6 O36 ⊢
      -- the item
      refine ⟨_, rfl, p, q, _, rfl, D6, by omega, fun v d H7 O7 D7 dd0 it => ?_⟩
      have dd := dd0.same (hide_sub p q H7)
      have e7 := hide_sub p q H7 _ _ (hide_off O7 _ _ e6)
      have hr7 := (O36.trans O7) _ _ hr3 rp rq
      have D7' : Dk H7 p q (100 * i + 70) := D7.mono (by omega)
      clear dd0 O36 O7 D7 e6 S6 D6
      -- own, without
      refine ⟨_, rfl, _, rfl, (by show 1 ≤ sizeLine; decide), fun a1 n1 => ⟨(by show 2 ≤ sizeLine; decide), fun a2 n2 => ⟨(by show 1 ≤ sizeLine; decide), fun a3 n3 => ⟨_, rfl, ?_⟩⟩⟩⟩
      have y1 := same_new (o := HO.tup [v]) n1
      have y2 := same_new (o := HO.tup [.ref sA, .ref a1]) n2
      have y3 := same_new (o := HO.tup [.int 3]) n3
      have g1 : upd H7 a1 (.tup [v]) a1 = some (.tup [v]) := upd_same
      have g2 : upd (upd H7 a1 (.tup [v])) a2 (.tup [.ref sA, .ref a1]) a2 = some (.tup [.ref sA, .ref a1]) := upd_same
      have g3 : upd (upd (upd H7 a1 (.tup [v])) a2 (.tup [.ref sA, .ref a1])) a3 (.tup [.int 3]) a3 = some (.tup [.int 3]) := upd_same
      have S8 := (y1.trans y2).trans y3
      have h1 := y3 _ _ (y2 _ _ g1)
      have h2 := y3 _ _ g2
      generalize upd (upd (upd H7 a1 (.tup [v])) a2 (.tup [.ref sA, .ref a1])) a3 (.tup [.int 3]) = H8 at S8 h1 h2 g3 ⊢
      clear y1 y2 y3 g1 g2 n1 n2 n3
      refine catA_of g3 (S8 _ _ e7) (by rw [List.length_map, sizeLine_eq]; show 1 + ks.length ≤ _; omega) fun a4 H9 S9 g4 => ⟨(by show 0 ≤ sizeLine; decide), fun a5 n5 => ⟨(by show 2 ≤ sizeLine; decide), fun a6 n6 => ⟨_, _, rfl, ?_⟩⟩⟩
      have y5 := same_new (o := HO.tup []) n5
      have y6 := same_new (o := HO.tup [.ref a4, .ref a5]) n6
      have g5 : upd H9 a5 (.tup []) a5 = some (.tup []) := upd_same
      have g6 : upd (upd H9 a5 (.tup [])) a6 (.tup [.ref a4, .ref a5]) a6 = some (.tup [.ref a4, .ref a5]) := upd_same
      have S10 := (S8.trans S9).trans (y5.trans y6)
      have f1 := (y5.trans y6) _ _ (S9 _ _ h1)
      have f2 := (y5.trans y6) _ _ (S9 _ _ h2)
      have f4 := (y5.trans y6) _ _ g4
      have f5 := y6 _ _ g5
      generalize upd (upd H9 a5 (.tup [])) a6 (.tup [.ref a4, .ref a5]) = HA at S10 f1 f2 f4 f5 g6 ⊢
      clear y5 y6 g5 n5 n6 h1 h2 g3 g4 S8 S9
      have fs := S10 _ _ e7
      have ddA := dd.same S10
      have pA : ∀ {G : Hp} {z : Addr}, Same HA G → G z = some (.tup [.ref a2, .ref a6]) → Dat G (.ref z) (pairD ks d) := fun {G z} S hz =>
        .tup hz (.cons (.tup (S _ _ f2) (.cons (.tup (S _ _ fs) (ints_dat G ks)) (.cons (.tup (S _ _ f1) (.cons (ddA.same S) .nil)) .nil))) (.cons (.tup (S _ _ g6) (.cons (.tup (S _ _ f4) (.cons (.int 3) (ints_dat G ks))) (.cons (.tup (S _ _ f5) .nil) .nil))) .nil))
      have OP := pair_ok hks kl it
      have OI := item_ok it
      -- kept, due
      refine ⟨_, rfl, _, rfl, (by show 2 ≤ sizeLine; decide), fun a7 n7 => ?_⟩
      have y7 := same_new (o := HO.tup [.ref a2, .ref a6]) n7
      refine ⟨_, _, rfl, pA y7 upd_same, OP.oki, OP.dep, OP.len, ?_⟩
      obtain ⟨PS, hPS⟩ : ∃ PS : Str, (pairD ks d).shown = PS := ⟨_, rfl⟩
      rw [hPS]
      refine ⟨_, rfl, v, d, rfl, ddA.same y7, it.b, it.n, it.w, fun HB SB => ⟨_, _, rfl, ?_⟩⟩
      have T1 := y7.trans SB
      -- told
      obtain ⟨k, hk, hk10⟩ := last_of ks hks
      refine ⟨_, rfl, a2, sA, a1, _, rfl, T1 _ _ f2, T1 _ _ fs, .inl ⟨v, d, T1 _ _ f1, ddA.same T1, it, fun HC SC => ?_⟩⟩
      have T2 := T1.trans SC
      refine ⟨_, rfl, a2, sA, a1, _, rfl, T2 _ _ f2, T2 _ _ fs, .inl ⟨v, d, T2 _ _ f1, ddA.same T2, it, fun HD SD => ?_⟩⟩
      have T3 := T2.trans SD
      refine ⟨_, rfl, a6, a4, a5, _, rfl, T3 _ _ g6, T3 _ _ f4, .inr ⟨k, T3 _ _ f5, hk, by omega, ?_⟩⟩
      refine ⟨(by show 2 ≤ sizeLine; decide), fun b1 m1 => ⟨(by show 0 ≤ sizeLine; decide), fun b2 m2 => ⟨(by show 2 ≤ sizeLine; decide), fun b3 m3 => ?_⟩⟩⟩
      have w1 := same_new (o := HO.tup [.int 0, .int 4]) m1
      have w2 := same_new (o := HO.tup []) m2
      have w3 := same_new (o := HO.tup [.ref b1, .ref b2]) m3
      have T4 := T3.trans ((w1.trans w2).trans w3)
      refine ⟨b3, b1, b2, [.int 0, .int 4], rfl, upd_same, w3 _ _ (w2 _ _ upd_same), .inr ⟨4, w3 _ _ upd_same, rfl, by decide, ⟨(by show 4 ≤ sizeLine; decide), fun l nl => ?_⟩⟩⟩
      have w4 := same_new (o := HO.lst [.str (txt d), .str (txt d), .str (("other " : Str) ++ intT k), .str (("other " : Str) ++ intT 4)]) nl
      have T5 := T4.trans w4
      have dl := told_dat (H := upd (upd (upd (upd HD b1 (.tup [.int 0, .int 4])) b2 (.tup [])) b3 (.tup [.ref b1, .ref b2])) l (.lst [.str (txt d), .str (txt d), .str (("other " : Str) ++ intT k), .str (("other " : Str) ++ intT 4)])) it hk10 upd_same
      generalize upd (upd (upd (upd HD b1 (.tup [.int 0, .int 4])) b2 (.tup [])) b3 (.tup [.ref b1, .ref b2])) l (.lst [.str (txt d), .str (txt d), .str (("other " : Str) ++ intT k), .str (("other " : Str) ++ intT 4)]) = HE at T5 dl ⊢
      clear w1 w2 w3 w4 m1 m2 m3 nl
      have OT := told_ok it hk10
      -- what was told is what is due
      refine ⟨_, rfl, _, _, rfl, dl, OT.oki, OT.dep, OT.len, ?_⟩
      obtain ⟨TS, hTS⟩ : ∃ TS : Str, (toldD d k).shown = TS := ⟨_, rfl⟩
      rw [hTS]
      have lo : ("other " : Str).length = 6 := by decide +kernel
      have lk := int_len (k := k) (by omega)
      refine ⟨_, rfl, _, rfl, _, rfl, a6, _, _, _, rfl, rfl, SqT.of (T5 _ _ g6), atI_nat (j := 0) rfl, 1, rfl, a4, _, _, _, rfl, rfl, SqT.of (T5 _ _ f4), hk, k, rfl, Nat.lt_of_le_of_lt (Nat.log2_le_self _) (by omega), "other ", intT k, rfl, rfl, (by rw [lo, sizeLine_eq]; omega), (by show 4 ≤ sizeLine; decide), fun l2 nl2 => ?_⟩
      have o4 : ("other 4" : Str) = ("other " : Str) ++ intT 4 := by decide +kernel
      rw [o4]
      have w5 := same_new (o := HO.lst [.str (txt d), .str (txt d), .str (("other " : Str) ++ intT k), .str (("other " : Str) ++ intT 4)]) nl2
      have dl2 := told_dat (H := upd HE l2 (.lst [.str (txt d), .str (txt d), .str (("other " : Str) ++ intT k), .str (("other " : Str) ++ intT 4)])) it hk10 upd_same
      have T6 := T5.trans w5
      refine ⟨_, _, rfl, dl2, OT.oki, OT.dep, OT.len, ?_⟩
      rw [hTS]
      refine ⟨rfl, _, rfl, if_f (by rw [decide_eq_true rfl]; rfl) ?_⟩
      generalize upd HE l2 (.lst [.str (txt d), .str (txt d), .str (("other " : Str) ++ intT k), .str (("other " : Str) ++ intT 4)]) = HF at T6 ⊢
      -- nothing was modified
      refine ⟨_, rfl, _, rfl, (by show 2 ≤ sizeLine; decide), fun a8 n8 => ?_⟩
      have y8 := same_new (o := HO.tup [.ref a2, .ref a6]) n8
      have T7 := T6.trans y8
      refine ⟨_, _, rfl, pA T7 upd_same, OP.oki, OP.dep, OP.len, ?_⟩
      rw [hPS]
      refine ⟨_, rfl, rfl, _, rfl, if_f (by rw [decide_eq_true rfl]; rfl) ?_⟩
      generalize upd HF a8 (.tup [.ref a2, .ref a6]) = HG at T7 ⊢
      have ddG := ddA.same T7
      have hrG := T7 _ _ (S10 _ _ hr7)
      have DG := (D7'.same S10).same T7
      -- the texts tell the items apart
      have next : ∀ HZ, Same HG HZ → ∃ (x3 x4 x5 x6 x7 x8 x9 x10 : Option V) (kvs' : List (Key × V)), [some (.ref a), some (.ref p), some (.ref r), some (.int (0 + (i : Int))), some (.ref sA), some v, some (.ref a2), some (.ref a6), some (.str PS), some (.str (txt d)), some (.ref l), none] = [some (.ref a), some (.ref p), some (.ref r), x3, x4, x5, x6, x7, x8, x9, x10, none] ∧
          Dk (upd HZ r (.dK (putK kvs (.inr (txt d)) (.str d.shown)))) p q (100 * (i + 1)) ∧ upd HZ r (.dK (putK kvs (.inr (txt d)) (.str d.shown))) r = some (.dK kvs') ∧ kvs'.length ≤ i + 1 ∧ TxOk kvs' := fun HZ SZ =>
        ⟨_, _, _, _, _, _, _, _, putK kvs (.inr (txt d)) (.str d.shown), rfl, dk_upd ((DG.same SZ).mono (by omega)) rp rq, upd_same, Nat.le_trans put_len (by omega), tx_put tx it.b⟩
      refine ⟨_, rfl, v, .ty "tuple", _, _, _, rfl, .ty _, ddG.ty, kit_tuple _ d, _, rfl, ?_⟩
      cases ht : isTup d with
      | false =>
        refine if_f rfl (if_f rfl ?_)
        refine ⟨_, rfl, v, d, rfl, ddG, OI.oki, OI.dep, OI.len, _, rfl, _, rfl, r, _, rfl, DPut.k (k := .inr (txt d)) hrG (by rw [sizeLine_eq]; omega), next HG (Same.refl HG)⟩
      | true =>
        have hin : innB d = true := by
          have z := it.b
          cases d with
          | tuple l => exact z
          | _ => cases ht
        refine if_t rfl ?_
        refine ⟨_, rfl, r, rfl, .inl ⟨kvs, .inl hrG⟩, _, rfl, _, rfl, v, d, rfl, ddG, OI.oki, OI.dep, OI.len, _, DGet.k (k := .inr (txt d)) hrG, ?_⟩
        rw [tx_get tx hin ht]
        refine ⟨_, rfl, v, d, rfl, ddG, OI.oki, OI.dep, OI.len, rfl, _, rfl, if_f (by rw [decide_eq_true rfl]; rfl) ?_⟩
        refine ⟨_, rfl, v, d, rfl, ddG, OI.oki, OI.dep, OI.len, _, rfl, _, rfl, r, _, rfl, DPut.k (k := .inr (txt d)) hrG (by rw [sizeLine_eq]; omega), next HG (Same.refl HG)⟩
    · rintro σ Hx ⟨x3, x4, x5, x6, x7, x8, x9, x10, kvs, rfl, _⟩
      exact fin _
end
end K7
set_option maxRecDepth 100000
set_option maxHeartbeats 8000000
namespace K7
open PySem PySem.Spec PyProof.Rows L2
/-! ### everything put together -/
theorem def_mk {K : PySem.W.Frag} {h : Heap} {mg : Str → Option Value} {x : Str} {st : Stmt} {ps : List Str} {f : Addr} {oc : Value} {od an : Option Addr} {osl : Array (Option Value)} {kV doc pm cdv ct : Value} (X : K.In h) (G : h.Ns mainGlobals mg)
    (a : PySem.W.nsIn K mainGlobals x = some (some (.ref f))) (l : K.lookup f = some ⟨oc, od, .func (PySem.W.fnOf x x (defArgs st) (defBody st) (defScope st) .none kV doc pm an cdv ct), osl⟩) (c : PySem.W.codeIn K cdv x = true) (k : PySem.W.keepIn K (.ref f) = true)
    (hb : ∀ (kV doc pm : Value) (an : Option Addr) (cdv ct : Value) (us : List Value), us.length = ps.length → bindArgs (PySem.W.fnOf x x (defArgs st) (defBody st) (defScope st) .none kV doc pm an cdv ct) ⟨us, []⟩ = pure (ps.zip us)) :
    DefOk K mg x st ps f (PySem.W.fnOf x x (defArgs st) (defBody st) (defScope st) .none kV doc pm an cdv ct) := ⟨fun_mk l c k, (fun_mk l c k).binds hb, PySem.W.mg_of X G a⟩
theorem all_mk {l : PySem.W.OpenLaw} {w : World} {K : PySem.W.Frag} {h : Heap} {mg : Str → Option Value} {fa f_fa f_fi f_deck f_draw f_pick f_name f_number f_prefix f_item f_text f_law : Addr} {d_fa d_fi d_deck d_draw d_pick d_name d_number d_prefix d_item d_text d_law : FuncData} (X : K.In h) (G : h.Ns mainGlobals mg) (hfa : mg "law" = some (.ref fa))
    (n0 : PySem.W.nsIn K mainGlobals "isinstance" = some none)
    (n1 : PySem.W.nsIn K mainGlobals "int" = some none)
    (n2 : PySem.W.nsIn K mainGlobals "bool" = some none)
    (n3 : PySem.W.nsIn K mainGlobals "str" = some none)
    (n4 : PySem.W.nsIn K mainGlobals "tuple" = some none)
    (n5 : PySem.W.nsIn K mainGlobals "len" = some none)
    (n6 : PySem.W.nsIn K mainGlobals "list" = some none)
    (n7 : PySem.W.nsIn K mainGlobals "range" = some none)
    (n8 : PySem.W.nsIn K mainGlobals "repr" = some none)
    (eS : PySem.W.nsIn K cStatics "sys.int_max_str_digits" = some none)
    (o_fa : DefOk K mg "format_answer" s_fa ["answer"] f_fa d_fa)
    (o_fi : DefOk K mg "format_item" s_fi ["item"] f_fi d_fi)
    (o_deck : DefOk K mg "_law_deck" sDeck ["_law_script"] f_deck d_deck)
    (o_draw : DefOk K mg "_law_draw" sDraw ["_law_deck_here", "_law_bound"] f_draw d_draw)
    (o_pick : DefOk K mg "_law_pick" sPick ["_law_deck_here", "_law_items"] f_pick d_pick)
    (o_name : DefOk K mg "_law_name" s_name ["_law_deck_here"] f_name d_name)
    (o_number : DefOk K mg "_law_number" s_number ["_law_deck_here"] f_number d_number)
    (o_prefix : DefOk K mg "_law_prefix" s_prefix ["_law_deck_here"] f_prefix d_prefix)
    (o_item : DefOk K mg "_law_item" s_item ["_law_deck_here"] f_item d_item)
    (o_text : DefOk K mg "_law_text" s_text ["_law_item_here"] f_text d_text)
    (o_law : DefOk K mg "law" s_law ["_law_script"] f_law d_law)
    (kb1 : ∀ (s : Shared) (u : Value), BindsTo s d_fa ⟨[u], []⟩ [("answer", u)])
    (kb2 : ∀ (s : Shared) (u : Value), BindsTo s d_fa ⟨[], [("answer", u)]⟩ [("answer", u)])
    (hbind : ∀ (s : Shared) (u : Value), BindsTo s d_law ⟨[u], []⟩ [("_law_script", u)]) :
    ∃ fd : FuncData, (∀ (s : Shared) (u : Value), BindsTo s fd ⟨[u], []⟩ [("_law_script", u)]) ∧ ∀ base : Heap, K.In base → base.Ns mainGlobals mg → FnG l.prog w K mg base 10 fa fd ["_law_script"] (spLaw K) := by
  have e := hfa.symm.trans o_law.g
  cases e
  have T : Nm mg := ⟨PySem.W.mg_none_of X G n0, PySem.W.mg_none_of X G n1, PySem.W.mg_none_of X G n2, PySem.W.mg_none_of X G n3, PySem.W.mg_none_of X G n4, PySem.W.mg_none_of X G n5, PySem.W.mg_none_of X G n6, PySem.W.mg_none_of X G n7, PySem.W.mg_none_of X G n8⟩
  have kb : KBinds K d_fa ["answer"] ["answer"] (fun us ws => us ++ ws) (fun vs zs => vs ++ zs) := by
    refine ⟨fun s us ws _ hl => ?_, fun a b => a.append b⟩
    match us, ws, hl with
    | [u], [], _ => exact kb1 s u
    | [], [u], _ => exact kb2 s u
    | [], [], hl => cases hl
    | _ :: _ :: _, _, hl => simp at hl
    | [_], _ :: _, hl => simp at hl
    | [], _ :: _ :: _, hl => simp at hl
  refine ⟨d_law, hbind, fun base _ _ => ?_⟩
  have GP : FnOk l.prog w K mg base CX0 2 f_pick d_pick ["_law_deck_here", "_law_items"] spPick := ok_pick o_pick.F T o_draw.F o_draw.b o_draw.g
  have GN : FnOk l.prog w K mg base CX0 3 f_number d_number ["_law_deck_here"] spNumber := ok_number o_number.F o_draw o_pick GP
  have GM : FnOk l.prog w K mg base CX0 3 f_name d_name ["_law_deck_here"] spName := ok_name o_name.F o_pick GP
  have GX : FnOk l.prog w K mg base CX0 3 f_prefix d_prefix ["_law_deck_here"] spPrefix := ok_prefix o_prefix.F T o_draw
  have GI : FnOk l.prog w K mg base CX0 4 f_item d_item ["_law_deck_here"] spItem := ok_item o_item.F T o_draw o_number GN o_name GM o_prefix GX
  have GT : FnOk l.prog w K mg base CX0 8 f_text d_text ["_law_item_here"] (spTxt 6) := ok_text o_text.F o_text.b o_text.g T 6
  have GA : FnOk l.prog w K mg base CX0 9 f_fa d_fa ["answer"] spFa := ok_fa o_fa.F T o_fi
  exact ok_law o_law.F T eS o_deck o_draw o_item GI o_text GT o_fa GA kb
theorem law_sp (K : PySem.W.Frag) (H : Hp) (a : Addr) (ns : List Int) (hl : ns.length ≤ 63) (_ : Only H) (hS : SqL K H a (ns.map V.int)) : spLaw K [.ref a] H (fun v _ => v = .bl true) fun _ _ _ => False := ⟨a, ns, rfl, hS, hl, fun _ => rfl⟩
end K7
open PySem PySem.W PyProof.Rows
set_option maxRecDepth 100000 in
set_option maxHeartbeats 0 in
theorem PySem.Challenge.cw_undrawn_k71_answer_texts_holds : PySem.Challenge.rw_undrawn_k71_answer_texts.Holds := by
  w_on; o_law; k_head; (case hw => w_witness2)
  k_fill
  refine L2.walk_G (l := PySem.Challenge.rw_undrawn_k71_answer_texts) (n := 63) (k := 10) (x := "_law_script") (sp := K7.spLaw) rfl (by decide) rfl ⟨rfl, by decide, by decide⟩ (fun w h Y => PySem.W.kIn_of Y) ?F K7.law_sp
  case F =>
    intro w mg fa h KX G hmg
    refine' K7.all_mk KX G hmg ?n0 ?n1 ?n2 ?n3 ?n4 ?n5 ?n6 ?n7 ?n8 ?eS ?o_fa ?o_fi ?o_deck ?o_draw ?o_pick ?o_name ?o_number ?o_prefix ?o_item ?o_text ?o_law ?kb1 ?kb2 ?hbind
    (case n0 => k_is)
    (case n1 => k_is)
    (case n2 => k_is)
    (case n3 => k_is)
    (case n4 => k_is)
    (case n5 => k_is)
    (case n6 => k_is)
    (case n7 => k_is)
    (case n8 => k_is)
    (case eS => k_is)
    (case o_fa => refine' K7.def_mk KX G ?a ?l ?c ?k (fun _ _ _ _ _ _ us hl => match us, hl with | [_], _ => rfl); (case a => k_is); (case l => k_is); (case c => k_is); (case k => k_is))
    (case o_fi => refine' K7.def_mk KX G ?a ?l ?c ?k (fun _ _ _ _ _ _ us hl => match us, hl with | [_], _ => rfl); (case a => k_is); (case l => k_is); (case c => k_is); (case k => k_is))
    (case o_deck => refine' K7.def_mk KX G ?a ?l ?c ?k (fun _ _ _ _ _ _ us hl => match us, hl with | [_], _ => rfl); (case a => k_is); (case l => k_is); (case c => k_is); (case k => k_is))
    (case o_draw => refine' K7.def_mk KX G ?a ?l ?c ?k (fun _ _ _ _ _ _ us hl => match us, hl with | [_, _], _ => rfl); (case a => k_is); (case l => k_is); (case c => k_is); (case k => k_is))
    (case o_pick => refine' K7.def_mk KX G ?a ?l ?c ?k (fun _ _ _ _ _ _ us hl => match us, hl with | [_, _], _ => rfl); (case a => k_is); (case l => k_is); (case c => k_is); (case k => k_is))
    (case o_name => refine' K7.def_mk KX G ?a ?l ?c ?k (fun _ _ _ _ _ _ us hl => match us, hl with | [_], _ => rfl); (case a => k_is); (case l => k_is); (case c => k_is); (case k => k_is))
    (case o_number => refine' K7.def_mk KX G ?a ?l ?c ?k (fun _ _ _ _ _ _ us hl => match us, hl with | [_], _ => rfl); (case a => k_is); (case l => k_is); (case c => k_is); (case k => k_is))
    (case o_prefix => refine' K7.def_mk KX G ?a ?l ?c ?k (fun _ _ _ _ _ _ us hl => match us, hl with | [_], _ => rfl); (case a => k_is); (case l => k_is); (case c => k_is); (case k => k_is))
    (case o_item => refine' K7.def_mk KX G ?a ?l ?c ?k (fun _ _ _ _ _ _ us hl => match us, hl with | [_], _ => rfl); (case a => k_is); (case l => k_is); (case c => k_is); (case k => k_is))
    (case o_text => refine' K7.def_mk KX G ?a ?l ?c ?k (fun _ _ _ _ _ _ us hl => match us, hl with | [_], _ => rfl); (case a => k_is); (case l => k_is); (case c => k_is); (case k => k_is))
    (case o_law => refine' K7.def_mk KX G ?a ?l ?c ?k (fun _ _ _ _ _ _ us hl => match us, hl with | [_], _ => rfl); (case a => k_is); (case l => k_is); (case c => k_is); (case k => k_is))
    (case kb1 => exact fun s u => .of_eq rfl)
    (case kb2 => exact fun s u => .of_eq rfl)
    (case hbind => exact fun s u => .of_eq rfl)
