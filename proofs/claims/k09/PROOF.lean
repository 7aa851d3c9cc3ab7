import PyProof.Rows.All
import Wide.All
import OpenK.AllK
import Wide.FinOn
import HandS.ForMost
import HandS.Style
import HandS.Codes
import HandS.Comp
import HandS.Iter
import HandS.Walk
import HandS.Text
import HandS.Zip
import HandS.IsInst
import HandS.TupAny
import KE.DataCmp
import PyProof.EqKinds
import HandS.Strs
import HandS.More
import HandS.CallLocal
import HandS.Wide
import HandS.WideBits
import KE.KMathGC
import HandS.Gcd
import HandS.Defaults
import HandS.Conv
import KE.DatumOrd
import HandS.TupLen
import PyProof.Rows.Digits
import HandS.TryMany
import HandS.ExcOwn
import HandS.WordsExc
import PyProof.ReprBulk
import PyProof.Rows.IntBool
import PyProof.Rows.EqBoolInt
import KE.KIntText
import HandS.FStr
import HandS.RaiseMore
import HandS.Small
import HandS.Deep
import HandS.Dict
import PyProof.Rows.BitMore
import HandS.TupMul
import HandS.SetFor
import PyProof.Rows.SortShellAny
import KE.KDictPairs
import KE.KDictList
import KE.KDictZip
import KE.GoesEnum
import PyProof.ListNew
import HandS.ListItems
import PyProof.Rows.ReprOcc
import PySem.Challenge.RW_undrawn_k09_queries_of_any_value
set_option Elab.async false
set_option linter.all false
set_option maxRecDepth 100000
set_option maxHeartbeats 4000000
namespace K9
open PySem PySem.Spec PyProof.Rows L2
/-! ### the text by places -/
def top (i : Nat) : Stmt := PySem.Challenge.pw_undrawn_k09_queries_of_any_value.main.body.getD i (.Pass ⟨0, 0, 0, 0⟩)
/-- a tuple, perhaps with its object known (then: one without a dict of its own) -/
def TP (H : Hp) (a : Addr) (xs : List V) : Prop := ∀ C : Prop, (H a = some (.tup xs) → C) → (∀ o : Obj, H a = some (.frz o (.tup xs)) → o.dict = none → C) → C
theorem TP.of {H : Hp} {a : Addr} {xs : List V} (h : H a = some (.tup xs)) : TP H a xs := fun _ f _ => f h
theorem TP.rd {H : Hp} {a : Addr} {xs : List V} (h : TP H a xs) : H a = some (.tup xs) ∨ ∃ o : Obj, H a = some (.frz o (.tup xs)) ∧ o.dict = none := h _ .inl fun o e n => .inr ⟨o, e, n⟩
theorem upR {H H' : Hp} {a : Addr} {xs : List V} (h : TP H a xs) (S : Same H H') : TP H' a xs := fun C f g => h C (fun e => f (S _ _ e)) fun o e n => g o (S _ _ e) n
theorem TP.lk {H : Hp} {a : Addr} {xs : List V} (h : TP H a xs) : Rd H a (.tup xs) := h.rd.imp id fun ⟨o, e, _⟩ => ⟨o, e⟩
theorem TP.uniq {H : Hp} {a : Addr} {xs ys : List V} (h : TP H a xs) (h' : TP H a ys) : xs = ys := by
  rcases h.rd with e | ⟨o, e, _⟩ <;> rcases h'.rd with e' | ⟨o', e', _⟩ <;> rw [e] at e' <;> cases e' <;> rfl
theorem TP.noL {H : Hp} {a : Addr} {xs ys : List V} (h : TP H a xs) (h' : H a = some (.lst ys)) : False := by
  rcases h.rd with e | ⟨o, e, _⟩ <;> rw [e] at h' <;> cases h'
theorem sqT_rd {K : PySem.W.Frag} {H : Hp} {a : Addr} {xs : List V} (h : TP H a xs) : SqT K H a xs := .inl h.lk
/-! ### any value that is made of None, bools, ints, texts, tuples, lists, empty dicts -/
mutual
inductive Dat (H : Hp) : V → PyData → Prop
  | non : Dat H .non .none
  | bl (b : Bool) : Dat H (.bl b) (.bool b)
  | int (i : Int) : Dat H (.int i) (.int i)
  | str (x : Str) : x.length ≤ 1000 → Dat H (.str x) (.str x)
  | lst {a : Addr} {xs : List V} {ds : List PyData} : H a = some (.lst xs) → DatAll H xs ds → Dat H (.ref a) (.list ds)
  | tup {a : Addr} {xs : List V} {ds : List PyData} : TP H a xs → DatAll H xs ds → Dat H (.ref a) (.tuple ds)
  | d0 {a : Addr} : H a = some (.dK []) → Dat H (.ref a) (.dict [])
inductive DatAll (H : Hp) : List V → List PyData → Prop
  | nil : DatAll H [] []
  | cons {v : V} {vs : List V} {d : PyData} {ds : List PyData} : Dat H v d → DatAll H vs ds → DatAll H (v :: vs) (d :: ds)
end
mutual
theorem Dat.same {H H' : Hp} (S : Same H H') : ∀ {v : V} {d : PyData}, Dat H v d → Dat H' v d
  | _, _, .non => .non
  | _, _, .bl b => .bl b
  | _, _, .int i => .int i
  | _, _, .str x h => .str x h
  | _, _, .lst h t => .lst (S _ _ h) (DatAll.same S t)
  | _, _, .tup h t => .tup (upR h S) (DatAll.same S t)
  | _, _, .d0 h => .d0 (S _ _ h)
theorem DatAll.same {H H' : Hp} (S : Same H H') : ∀ {vs : List V} {ds : List PyData}, DatAll H vs ds → DatAll H' vs ds
  | _, _, .nil => .nil
  | _, _, .cons h t => .cons (Dat.same S h) (DatAll.same S t)
end
theorem DatAll.len {H : Hp} : ∀ {vs : List V} {ds : List PyData}, DatAll H vs ds → vs.length = ds.length
  | _, _, .nil => rfl
  | _, _, .cons _ t => congrArg (· + 1) (DatAll.len t)
theorem DatAll.get {H : Hp} : ∀ {xs : List V} {ds : List PyData} {j : Nat} {x : V}, DatAll H xs ds → xs[j]? = some x → ∃ d, ds[j]? = some d ∧ Dat H x d
  | _, _, _, _, .nil, e => by simp at e
  | _, _, 0, _, .cons t _, e => by
    simp at e
    subst e
    exact ⟨_, rfl, t⟩
  | _, _, j + 1, x, .cons _ ts, e => by
    obtain ⟨d, h1, h2⟩ := DatAll.get (j := j) (x := x) ts (by simpa using e)
    exact ⟨d, by simpa using h1, h2⟩
theorem DatAll.at {H : Hp} : ∀ {xs : List V} {ds : List PyData} {j : Nat} {d : PyData}, DatAll H xs ds → ds[j]? = some d → ∃ x, xs[j]? = some x ∧ Dat H x d
  | _, _, _, _, .nil, e => by simp at e
  | _, _, 0, _, .cons t _, e => by
    simp at e
    subst e
    exact ⟨_, rfl, t⟩
  | _, _, j + 1, x, .cons _ ts, e => by
    obtain ⟨d, h1, h2⟩ := DatAll.at (j := j) (d := x) ts (by simpa using e)
    exact ⟨d, by simpa using h1, h2⟩
/-- the type's name -/
def tyD : PyData → String
  | .none => "NoneType"
  | .bool _ => "bool"
  | .int _ => "int"
  | .str _ => "str"
  | .list _ => "list"
  | .tuple _ => "tuple"
  | .dict _ => "dict"
theorem Dat.ty {K : PySem.W.Frag} {H : Hp} {v : V} {d : PyData} (h : Dat H v d) : TyX K H v (.type (tyD d)) := by
  cases h with
  | non => exact .base .non
  | bl b => exact .base (.bl b)
  | int i => exact .base (.int i)
  | str x _ => exact .base (.str x)
  | lst h _ => exact .base (.lst h)
  | tup h _ =>
    rcases h.rd with h | ⟨o, h, _⟩
    · exact .base (.tup h)
    · exact .fTuple h
  | d0 h => exact .base (.dK h)
/-! ### what the small predicates say of such values -/
def isInt : PyData → Bool
  | .int _ => true
  | _ => false
def isBool : PyData → Bool
  | .bool _ => true
  | _ => false
def isStr : PyData → Bool
  | .str _ => true
  | _ => false
def isTup : PyData → Bool
  | .tuple _ => true
  | _ => false
/-- an int from lo to hi -/
def btw (lo hi : Int) : PyData → Bool
  | .int i => decide (lo ≤ i) && decide (i ≤ hi)
  | _ => false
theorem kit_int (K : PySem.W.Frag) (d : PyData) : PySem.W.kitOne K (.type (tyD d)) (.type "int") = some (isInt d || isBool d) := by
  cases d with
  | none => exact kit_ty (a := "NoneType") (b := "int") (r := false) (by decide +kernel)
  | bool b => exact kit_ty (a := "bool") (b := "int") (r := true) (by decide +kernel)
  | int i => exact kit_ty (a := "int") (b := "int") (r := true) (by decide +kernel)
  | str x => exact kit_ty (a := "str") (b := "int") (r := false) (by decide +kernel)
  | list l => exact kit_ty (a := "list") (b := "int") (r := false) (by decide +kernel)
  | tuple l => exact kit_ty (a := "tuple") (b := "int") (r := false) (by decide +kernel)
  | dict l => exact kit_ty (a := "dict") (b := "int") (r := false) (by decide +kernel)
theorem kit_bool (K : PySem.W.Frag) (d : PyData) : PySem.W.kitOne K (.type (tyD d)) (.type "bool") = some (isBool d) := by
  cases d with
  | none => exact kit_ty (a := "NoneType") (b := "bool") (r := false) (by decide +kernel)
  | bool b => exact kit_ty (a := "bool") (b := "bool") (r := true) (by decide +kernel)
  | int i => exact kit_ty (a := "int") (b := "bool") (r := false) (by decide +kernel)
  | str x => exact kit_ty (a := "str") (b := "bool") (r := false) (by decide +kernel)
  | list l => exact kit_ty (a := "list") (b := "bool") (r := false) (by decide +kernel)
  | tuple l => exact kit_ty (a := "tuple") (b := "bool") (r := false) (by decide +kernel)
  | dict l => exact kit_ty (a := "dict") (b := "bool") (r := false) (by decide +kernel)
theorem kit_str (K : PySem.W.Frag) (d : PyData) : PySem.W.kitOne K (.type (tyD d)) (.type "str") = some (isStr d) := by
  cases d with
  | none => exact kit_ty (a := "NoneType") (b := "str") (r := false) (by decide +kernel)
  | bool b => exact kit_ty (a := "bool") (b := "str") (r := false) (by decide +kernel)
  | int i => exact kit_ty (a := "int") (b := "str") (r := false) (by decide +kernel)
  | str x => exact kit_ty (a := "str") (b := "str") (r := true) (by decide +kernel)
  | list l => exact kit_ty (a := "list") (b := "str") (r := false) (by decide +kernel)
  | tuple l => exact kit_ty (a := "tuple") (b := "str") (r := false) (by decide +kernel)
  | dict l => exact kit_ty (a := "dict") (b := "str") (r := false) (by decide +kernel)
theorem kit_tuple (K : PySem.W.Frag) (d : PyData) : PySem.W.kitOne K (.type (tyD d)) (.type "tuple") = some (isTup d) := by
  cases d with
  | none => exact kit_ty (a := "NoneType") (b := "tuple") (r := false) (by decide +kernel)
  | bool b => exact kit_ty (a := "bool") (b := "tuple") (r := false) (by decide +kernel)
  | int i => exact kit_ty (a := "int") (b := "tuple") (r := false) (by decide +kernel)
  | str x => exact kit_ty (a := "str") (b := "tuple") (r := false) (by decide +kernel)
  | list l => exact kit_ty (a := "list") (b := "tuple") (r := false) (by decide +kernel)
  | tuple l => exact kit_ty (a := "tuple") (b := "tuple") (r := true) (by decide +kernel)
  | dict l => exact kit_ty (a := "dict") (b := "tuple") (r := false) (by decide +kernel)
structure Nm (mg : Str → Option Value) : Prop where
  isinstance : mg "isinstance" = none
  int : mg "int" = none
  bool : mg "bool" = none
  str : mg "str" = none
  tuple : mg "tuple" = none
  len : mg "len" = none
  list : mg "list" = none
  range : mg "range" = none
  repr : mg "repr" = none
  all : mg "all" = none
  any : mg "any" = none
  zip : mg "zip" = none
  sum : mg "sum" = none
  enumerate : mg "enumerate" = none
  dict : mg "dict" = none
structure DefOk (K : PySem.W.Frag) (mg : Str → Option Value) (x : Str) (st : Stmt) (ps : List Str) (f : Addr) (fd : FuncData) : Prop where
  F : Fun K x x st f fd
  b : L2.Binds K fd ps []
  g : mg x = some (.ref f)
theorem same_new {H : Hp} {p : Addr} {o : HO} (h : H p = none) : Same H (upd H p o) := fun b u e => by rw [upd_ne (ne_of_none e h)]; exact e
theorem if_t {c : Bool} {A B : Prop} (hc : c = true) (h : A) : if c = true then A else B := by
  rw [if_pos hc]
  exact h
theorem if_f {c : Bool} {A B : Prop} (hc : c = false) (h : B) : if c = true then A else B := by
  rw [hc, if_neg Bool.false_ne_true]
  exact h
theorem grow {H Hx : Hp} {D : Addr} {xs : List V} {y : V} (nD : H D = none) (S : Same H Hx) : Same H (upd Hx D (.lst (xs ++ [y]))) := fun b o e => by
  have bD : b ≠ D := fun z => by
    rw [z, nD] at e
    cases e
  rw [upd_ne bD]
  exact S _ _ e
theorem datAll_append {H : Hp} : ∀ {xs ys : List V} {ds es : List PyData}, DatAll H xs ds → DatAll H ys es → DatAll H (xs ++ ys) (ds ++ es)
  | _, _, _, _, .nil, t => t
  | _, _, _, _, .cons h t, u => .cons h (datAll_append t u)
theorem nat_of {i : Int} (h : 0 ≤ i) : ∃ j : Nat, i = j := ⟨i.toNat, by omega⟩
end K9
set_option maxRecDepth 100000
set_option maxHeartbeats 4000000
namespace K9
open PySem PySem.Spec PyProof.Rows L2
abbrev sDeck : Stmt := top 34
abbrev sDraw : Stmt := top 35
abbrev sPick : Stmt := top 36
/-! ### the deck of choices -/
/-- a deck at p: its cells at q, the mixed number m, the count c -/
structure DeckAt (H : Hp) (p q : Addr) (ns : List Int) (m c : Int) : Prop where
  ob : H p = some (.lst [.ref q, .int m, .int c])
  ce : H q = some (.lst (ns.map V.int))
  m0 : 0 ≤ m
  m1 : m < 2147483587
  c0 : 0 ≤ c
  c1 : c ≤ 1000000000
  ln : ns.length ≤ 63
theorem DeckAt.ne {H : Hp} {p q : Addr} {ns : List Int} {m c : Int} (D : DeckAt H p q ns m c) : p ≠ q := fun e => by
  have z := D.ce
  rw [← e, D.ob] at z
  have z' := Option.some.inj z
  injection z' with z''
  cases ns with
  | nil => cases z''
  | cons a l => injection z'' with y _; cases y
theorem DeckAt.same {H H' : Hp} {p q : Addr} {ns : List Int} {m c : Int} (D : DeckAt H p q ns m c) (S : Same H H') : DeckAt H' p q ns m c := ⟨S _ _ D.ob, S _ _ D.ce, D.m0, D.m1, D.c0, D.c1, D.ln⟩
/-- what was tracked, but at p and q -/
def Off (p q : Addr) (H H' : Hp) : Prop := ∀ b o, H b = some o → b ≠ p → b ≠ q → H' b = some o
theorem Off.of_same {p q : Addr} {H H' : Hp} (S : Same H H') : Off p q H H' := fun b o e _ _ => S b o e
theorem Off.trans {p q : Addr} {H H1 H2 : Hp} (a : Off p q H H1) (b : Off p q H1 H2) : Off p q H H2 := fun c o e h1 h2 => b c o (a c o e h1 h2) h1 h2
theorem Off.refl {p q : Addr} {H : Hp} : Off p q H H := fun _ _ e _ _ => e
theorem dp_ints {K : PySem.W.Frag} {H : Hp} : ∀ ns : List Int, DpAll K H (ns.map V.int) (ns.map PyData.int)
  | [] => .nil
  | a :: l => .cons (.int a) (dp_ints l)
theorem lay_ints : ∀ ns : List Int, PyData.canLayAll0 (ns.map PyData.int) = true
  | [] => by simp [PyData.canLayAll0]
  | a :: l => by simp [PyData.canLayAll0, PyData.canLay0, lay_ints l]
theorem depth_ints : ∀ ns : List Int, PyData.depthAll (ns.map PyData.int) = 0
  | [] => by simp [PyData.depthAll]
  | a :: l => by simp [PyData.depthAll, PyData.depth, depth_ints l]
theorem shaped_ints (ns : List Int) : SeqAt.shaped (.list (ns.map PyData.int)) = true := by
  have h2 : PyData.depth (.list (ns.map PyData.int)) ≤ 64 := by
    rw [PyData.depth, depth_ints]
    decide
  unfold SeqAt.shaped
  rw [Bool.and_eq_true, PyData.canLay0]
  exact ⟨lay_ints ns, decide_eq_true h2⟩
def spDeck (K : PySem.W.Frag) : Sp := fun vs H Q _ => ∃ (a : Addr) (ns : List Int), vs = [.ref a] ∧ SqL K H a (ns.map V.int) ∧ ns.length ≤ 63 ∧
  ∀ (p q : Addr) (ms : List Int) (m : Int) (H' : Hp), Same H H' → H p = none → H q = none → DeckAt H' p q ms m 0 → Q (.ref p) H'
def spDraw : Sp := fun vs H Q _ => ∃ (p q : Addr) (ns : List Int) (m c n : Int), vs = [.ref p, .int n] ∧ 0 < n ∧ n ≤ 1000000 ∧ DeckAt H p q ns m c ∧ c + 1 ≤ 1000000000 ∧
  ∀ (i : Int) (ns' : List Int) (H' : Hp), 0 ≤ i → i < n → Off p q H H' → DeckAt H' p q ns' m (c + 1) → Q (.int i) H'
section
variable {P : Program} {w : World} {K : PySem.W.Frag} {mg : Str → Option Value} {base : Heap}
theorem scDeck : FnScope ["_law_script", "_law_cells", "_law_mix", "_law_cell"] ["_law_script"] (defScope sDeck) := ⟨rfl, rfl, rfl, by decide +kernel, rfl, by decide +kernel, by decide +kernel⟩
theorem ok_deck {f : Addr} {fd : FuncData} (F : Fun K "_law_deck" "_law_deck" sDeck f fd) (T : Nm mg) (Tl : mg "list" = none) : FnOk P w K mg base CX0 1 f fd ["_law_script"] (spDeck K) := by
  refine F.ok scDeck (fun vs H Q E h => ?_) (fun cdv A outer s H vs Q E hr h => ?_)
  · obtain ⟨a, ns, rfl, _⟩ := h
    rfl
  · obtain ⟨a, ns, rfl, hS, hl, k⟩ := h
    refine ⟨_, pss_cons (ps_par (i := 1) (j := 2) rfl scDeck.nd rfl rfl (by decide) rfl rfl (pa_cons (pe_callTy call_list_of (by rfl) Tl (by decide +kernel) (pa_cons (pe_slice sl_list (pv 0) po_none (po_some pe_int)) pa_nil)) (pa_cons pe_int pa_nil)) (by rfl))
      (pss_cons (ps_for PassesOwn.never rfl (pi_list (pv 1)) (pg_name (i := 3) scDeck.nd rfl (Or.inl rfl))
        (pss_one (ps_set (i := 2) scDeck.nd rfl (Or.inl rfl) (pe_op op_mod (pe_op op_add (pe_op op_add (pe_op op_mul (pv 2) pe_int) (pe_op op_mod (pv 3) pe_int)) pe_int) pe_int))))
      (pss_one (ps_ret (pe_lst (pa_cons (pe_revL (pv 1)) (pa_cons (pv 2) (pa_cons pe_int pa_nil))))))), ?_⟩
    -- script[:63]; list(..)
    refine ⟨_, rfl, 63, rfl, a, _, rfl, hS, fun p1 np1 => ?_⟩
    have hcut : (cutV (ns.map V.int) none (some 63)).length ≤ 63 := by
      have z := cutV_length (ns.map V.int) none (some 63)
      rw [List.length_map] at z
      omega
    obtain ⟨cs, hcs, hcl⟩ : ∃ cs : List Int, cutV (ns.map V.int) none (some 63) = cs.map V.int ∧ cs.length ≤ 63 := by
      refine ⟨(ns.drop (HT.sIx ns.length 0 none)).take (HT.sIx ns.length ns.length (some 63) - HT.sIx ns.length 0 none), ?_, ?_⟩
      · unfold cutV
        rw [List.length_map, List.map_take, List.map_drop]
      · rw [List.length_take, List.length_drop]
        omega
    rw [hcs]
    refine ⟨p1, _, rfl, .inl (.inl (.inl upd_same)), fun q1 nq1 => ⟨_, _, rfl, ?_⟩⟩
    have s1 : Same H (upd (upd H p1 (.lst (cs.map V.int))) q1 (.lst (cs.map V.int))) := (same_new np1).trans (same_new nq1)
    -- the loop
    refine ⟨_, rfl, q1, rfl, ⟨_, .inl (.inl upd_same)⟩, for_list (K := K) (a := q1) (xs := cs.map V.int) (fun i σ H' => ∃ (m : Int) (v : Option V), σ = [some (.ref a), some (.ref q1), some (.int m), v] ∧ H' = upd (upd H p1 (.lst (cs.map V.int))) q1 (.lst (cs.map V.int)) ∧ 0 ≤ m ∧ m < 2147483587)
      ⟨50021, none, rfl, rfl, by decide, by decide⟩ (fun i σ H' _ ⟨_, _, _, e, _⟩ => by rw [e]; exact .inl (.inl upd_same)) ?_ ?_⟩
    · rintro i y σ H' hi ⟨m, v, rfl, rfl, h0, h1⟩
      obtain ⟨z, rfl⟩ : ∃ z, y = V.int z := by
        rw [List.getElem?_map] at hi
        cases e : cs[i]? with
        | none =>
          rw [e] at hi
          cases hi
        | some z =>
          rw [e] at hi
          exact ⟨z, (Option.some.inj hi).symm⟩
      refine ⟨_, rfl, _, _, rfl, rfl, .inl ⟨by omega, by omega⟩, ?_⟩
      refine ⟨_, rfl, _, _, rfl, rfl, (by show (0 : Int) < _; decide), _, _, rfl, rfl, _, _, rfl, rfl, _, _, rfl, rfl, (by show (0 : Int) < _; decide), ?_⟩
      exact ⟨_, _, rfl, rfl, Int.emod_nonneg _ (by decide), Int.emod_lt_of_pos _ (by decide)⟩
    · rintro σ H' ⟨m, v, rfl, rfl, h0, h1⟩
      refine ⟨_, rfl, q1, _, rfl, .inl (.inl upd_same), fun r1 nr1 => ⟨_, rfl, (by show 3 ≤ sizeLine; decide), fun d nd => ?_⟩⟩
      rw [← List.map_reverse] at nd ⊢
      refine k d r1 cs.reverse m _ ((s1.trans (same_new nr1)).trans (same_new nd)) ?_ ?_ ⟨upd_same, ?_, h0, h1, by decide, by decide, by rw [List.length_reverse]; exact hcl⟩
      · exact ((s1.trans (same_new nr1))).free nd
      · exact s1.free nr1
      · rw [upd_ne (ne_of_none upd_same nd), upd_same]
theorem scDraw : FnScope ["_law_deck_here", "_law_bound", "_law_cell", "_law_mixed"] ["_law_deck_here", "_law_bound"] (defScope sDraw) := ⟨rfl, rfl, rfl, by decide +kernel, rfl, by decide +kernel, by decide +kernel⟩
theorem ok_draw {f : Addr} {fd : FuncData} (F : Fun K "_law_draw" "_law_draw" sDraw f fd) : FnOk P w K mg base CX0 1 f fd ["_law_deck_here", "_law_bound"] spDraw := by
  refine F.ok scDraw (fun vs H Q E h => ?_) (fun cdv A outer s H vs Q E hr h => ?_)
  · obtain ⟨p, q, ns, m, c, n, rfl, _⟩ := h
    rfl
  · obtain ⟨p, q, ns, m, c, n, rfl, hn0, hn1, D, hc, k⟩ := h
    have hu := hr.units
    have hpq := D.ne
    refine ⟨_, pss_cons (ps_asg (pe_op op_add (pe_ix ix_list (pv 0) pe_int (fun _ _ => rfl)) pe_int) (pg_sub (pv 0) pe_int set_list (fun _ => rfl)))
      (pss_cons (ps_set (i := 2) scDraw.nd rfl (Or.inl rfl) (pe_ix ix_list (pv 0) pe_int (fun _ _ => rfl)))
      (C8.pss_cut (ps_if (pt_cmpR (op_neD hu) (pe_ix ix_list (pv 0) pe_int (fun _ _ => rfl)) (pe_lst pa_nil) (nomark _))
          (pss_cons (ps_set (i := 2) scDraw.nd rfl (Or.inl rfl) (pe_bm0 PySem.F.plainAttrs_list PySem.F.slot_list_pop PySem.F.type_list_pop mt_pop (pe_ix ix_list (pv 0) pe_int (fun _ _ => rfl))))
          (pss_cons (ps_if (pt_cmpR op_ge (pv 2) (pe_op op_pow pe_int pe_int) (nomark _))
              (pss_cons (ps_expr (pe_bm PySem.F.plainAttrs_list PySem.F.slot_list_append PySem.F.type_list_append mt_append (pe_ix ix_list (pv 0) pe_int (fun _ _ => rfl)) (pa_cons (pe_op op_fdivN (pv 2) (pv 1)) pa_nil)))
              (pss_one (ps_ret (pe_op op_mod (pv 2) (pv 1))))) pss_nil)
          (pss_one (ps_set (i := 2) scDraw.nd rfl (Or.inl rfl) (pe_op op_add (pv 2) (pe_ix ix_list (pv 0) pe_int (fun _ _ => rfl))))))) pss_nil)
      (pss_cons (ps_set (i := 3) scDraw.nd rfl (Or.inl rfl) (pe_op op_mod (pe_op op_mul (pe_op op_add (pe_op op_add (pe_op op_mod (pv 2) pe_int) (pe_op op_mul (pe_op op_mul pe_int (pe_ix ix_list (pv 0) pe_int (fun _ _ => rfl))) (pe_ix ix_list (pv 0) pe_int (fun _ _ => rfl)))) pe_int) pe_int) pe_int))
      (pss_cons (ps_set (i := 3) scDraw.nd rfl (Or.inl rfl) (pe_op op_mod (pe_op op_add (pe_op op_add (pe_op op_mul (pv 3) (pv 3)) (pe_op op_mul pe_int (pe_ix ix_list (pv 0) pe_int (fun _ _ => rfl)))) pe_int) pe_int))
      (pss_one (ps_ret (pe_op op_mod (pe_op op_fdiv (pe_op op_mod (pe_op op_mul (pv 3) pe_int) pe_int) pe_int) (pv 1)))))))), ?_⟩
    have c2 : ∀ {x y z : V}, atI [x, y, z] 2 = some z := fun {x y z} => atI_nat (xs := [x, y, z]) (j := 2) rfl
    have c1 : ∀ {x y z : V}, atI [x, y, z] 1 = some y := fun {x y z} => atI_nat (xs := [x, y, z]) (j := 1) rfl
    have c0 : ∀ {x y z : V}, atI [x, y, z] 0 = some x := fun {x y z} => atI_nat (xs := [x, y, z]) (j := 0) rfl
    -- deck[2] = deck[2] + 1
    refine ⟨_, rfl, p, _, _, _, rfl, rfl, SqL.of D.ob, c2, _, _, rfl, rfl, _, rfl, p, _, _, 2, rfl, rfl, D.ob, rfl, ?_⟩
    have eset : ([V.ref q, V.int m, V.int c].set 2 (V.int (c + 1))) = [V.ref q, V.int m, V.int (c + 1)] := rfl
    rw [eset]
    have D1 : DeckAt (upd H p (.lst [.ref q, .int m, .int (c + 1)])) p q ns m (c + 1) :=
      ⟨upd_same, by rw [upd_ne hpq.symm]; exact D.ce, D.m0, D.m1, by have := D.c0; omega, hc, D.ln⟩
    have off1 : Off p q H (upd H p (.lst [.ref q, .int m, .int (c + 1)])) := fun b o e h1 _ => by rw [upd_ne h1]; exact e
    -- cell = deck[1]
    refine ⟨_, rfl, p, _, _, _, rfl, rfl, SqL.of D1.ob, c1, ?_⟩
    -- if deck[0] != []: .. ; what follows holds for any cell
    refine ⟨fun σ H' => ∃ (z : Int) (ns' : List Int), σ = [some (.ref p), some (.int n), some (.int z), none] ∧ Off p q H H' ∧ DeckAt H' p q ns' m (c + 1), ?_, ?_⟩
    · refine ⟨_, rfl, p, _, _, _, rfl, rfl, SqL.of D1.ob, c0, (by show 0 ≤ sizeLine; decide), fun e ne => ?_⟩
      have D2 : DeckAt (upd (upd H p (.lst [.ref q, .int m, .int (c + 1)])) e (.lst [])) p q ns m (c + 1) := D1.same (same_new ne)
      have off2 : Off p q H (upd (upd H p (.lst [.ref q, .int m, .int (c + 1)])) e (.lst [])) := off1.trans (.of_same (same_new ne))
      refine ⟨.list (ns.map .int), .list [], .lst (SqL.of D2.ce) (dp_ints ns), .lst (SqL.of upd_same) .nil, shaped_ints ns, shaped_ints [], _, rfl, ?_⟩
      generalize hH2 : upd (upd H p (.lst [.ref q, .int m, .int (c + 1)])) e (.lst []) = H2 at D2 off2 ⊢
      cases hns : ns with
      | nil =>
        have e0 : PyData.eqv (.list (([] : List Int).map PyData.int)) (.list []) = true := by simp [PyData.eqv, PyData.eqvAll]
        rw [e0]
        refine iteF ?_
        exact ⟨m, [], rfl, off2, by rw [hns] at D2; exact D2⟩
      | cons a l =>
        have e0 : PyData.eqv (.list ((a :: l).map PyData.int)) (.list []) = false := by simp [PyData.eqv, PyData.eqvAll]
        rw [e0]
        refine iteT ?_
        rw [hns] at D2
        -- cell = deck[0].pop()
        obtain ⟨l', z, hz⟩ : ∃ (l' : List Int) (z : Int), a :: l = l' ++ [z] := ⟨(a :: l).dropLast, (a :: l).getLast (by simp), (List.dropLast_concat_getLast (by simp)).symm⟩
        rw [hz] at D2
        have hln : l'.length + 1 ≤ 63 := by
          have z1 := D2.ln
          rw [List.length_append] at z1
          exact z1
        have elast : ((l' ++ [z]).map V.int)[((l' ++ [z]).map V.int).length - 1]? = some (.int z) := by simp
        have edrop : ((l' ++ [z]).map V.int).dropLast = l'.map V.int := by simp
        refine ⟨_, rfl, p, _, _, _, rfl, rfl, SqL.of D2.ob, c0, .inl ⟨rfl, _, SqL.of D2.ce⟩, q, _, _, rfl, rfl, D2.ce, elast, ?_⟩
        rw [edrop]
        have D3 : DeckAt (upd H2 q (.lst (l'.map V.int))) p q l' m (c + 1) := ⟨by rw [upd_ne hpq]; exact D2.ob, upd_same, D2.m0, D2.m1, D2.c0, D2.c1, by omega⟩
        have off3 : Off p q H (upd H2 q (.lst (l'.map V.int))) := off2.trans fun b o e _ h2 => by rw [upd_ne h2]; exact e
        generalize upd H2 q (.lst (l'.map V.int)) = H3 at D3 off3 ⊢
        -- if cell >= 10 ** 18
        refine ⟨_, rfl, _, _, rfl, rfl, ⟨by decide, by decide, by decide⟩, _, _, rfl, rfl, _, rfl, ?_⟩
        refine ite2 (fun _ => ?_) (fun _ => ?_)
        · refine ⟨_, rfl, p, _, _, _, rfl, rfl, SqL.of D3.ob, c0, .inl ⟨rfl, _, SqL.of D3.ce⟩, _, rfl, _, rfl, _, _, rfl, rfl, ⟨by omega, by omega⟩, q, _, _, rfl, rfl, D3.ce, (by rw [List.length_map, sizeLine_eq]; omega), ?_⟩
          have eapp : l'.map V.int ++ [V.int (z.fdiv n)] = (l' ++ [z.fdiv n]).map V.int := by simp
          rw [eapp]
          have D4 : DeckAt (upd H3 q (.lst ((l' ++ [z.fdiv n]).map V.int))) p q (l' ++ [z.fdiv n]) m (c + 1) :=
            ⟨by rw [upd_ne hpq]; exact D3.ob, upd_same, D3.m0, D3.m1, D3.c0, D3.c1, by rw [List.length_append]; exact hln⟩
          refine ⟨_, rfl, _, rfl, _, _, rfl, rfl, hn0, ?_⟩
          exact k _ _ _ (Int.emod_nonneg _ (by omega)) (Int.emod_lt_of_pos _ hn0) (off3.trans fun b o e _ h2 => by rw [upd_ne h2]; exact e) D4
        · refine ⟨_, rfl, _, rfl, p, _, _, _, rfl, rfl, SqL.of D3.ob, c1, _, _, rfl, rfl, ?_⟩
          exact ⟨_, l', rfl, off3, D3⟩
    · rintro σ' H' ⟨z, ns', rfl, off', D'⟩
      have ix2 := fun (g : Hp → Prop) => g
      refine ⟨_, rfl, _, _, rfl, rfl, (by show (0 : Int) < _; decide), _, rfl, p, _, _, _, rfl, rfl, SqL.of D'.ob, c2, _, _, rfl, rfl, .inl ⟨by decide, by decide⟩, _, rfl, p, _, _, _, rfl, rfl, SqL.of D'.ob, c2, _, _, rfl, rfl, .inl ⟨by have := D'.c0; omega, by have := D'.c1; omega⟩,
        _, _, rfl, rfl, _, _, rfl, rfl, _, _, rfl, rfl, .inr ⟨by decide, by decide⟩, _, _, rfl, rfl, (by show (0 : Int) < _; decide), ?_⟩
      generalize hx : (z % 2147483629 + 65543 * (c + 1) * (c + 1) + 19) * 40692 % 2147483647 = x
      have x0 : 0 ≤ x := by rw [← hx]; exact Int.emod_nonneg _ (by decide)
      have x1 : x < 2147483647 := by rw [← hx]; exact Int.emod_lt_of_pos _ (by decide)
      refine ⟨_, rfl, _, rfl, _, _, rfl, rfl, .inl ⟨by omega, by omega⟩, _, rfl, p, _, _, _, rfl, rfl, SqL.of D'.ob, c2, _, _, rfl, rfl, .inl ⟨by decide, by decide⟩, _, _, rfl, rfl, _, _, rfl, rfl, _, _, rfl, rfl, (by show (0 : Int) < _; decide), ?_⟩
      refine ⟨_, rfl, _, _, rfl, rfl, .inr ⟨by decide, by decide⟩, _, _, rfl, rfl, (by show (0 : Int) < _; decide), _, _, rfl, rfl, ⟨by decide, by decide⟩, _, rfl, _, _, rfl, rfl, hn0, ?_⟩
      exact k _ ns' H' (Int.emod_nonneg _ (by omega)) (Int.emod_lt_of_pos _ hn0) off' D'
theorem scPick : FnScope ["_law_deck_here", "_law_items"] ["_law_deck_here", "_law_items"] (defScope sPick) := ⟨rfl, rfl, rfl, by decide +kernel, rfl, by decide +kernel, by decide +kernel⟩
/-- one of the items, at some place -/
def spPick : Sp := fun vs H Q _ => ∃ (p q t : Addr) (ns : List Int) (m c : Int) (xs : List V), vs = [.ref p, .ref t] ∧ H t = some (.lst xs) ∧ t ≠ p ∧ t ≠ q ∧ 0 < xs.length ∧ xs.length ≤ 1000 ∧ DeckAt H p q ns m c ∧ c + 1 ≤ 1000000000 ∧
  ∀ (j : Nat) (x : V) (ns' : List Int) (H' : Hp), xs[j]? = some x → Off p q H H' → DeckAt H' p q ns' m (c + 1) → Q x H'
theorem ok_pick {f fD : Addr} {fd fdD : FuncData} (F : Fun K "_law_pick" "_law_pick" sPick f fd) (T : Nm mg) (FD : Fun K "_law_draw" "_law_draw" sDraw fD fdD) (bD : Binds K fdD ["_law_deck_here", "_law_bound"] []) (gD : mg "_law_draw" = some (.ref fD)) :
    FnOk P w K mg base CX0 2 f fd ["_law_deck_here", "_law_items"] spPick := by
  have GD : FnOk P w K mg base CX0 1 fD fdD ["_law_deck_here", "_law_bound"] spDraw := ok_draw FD
  refine F.ok scPick (fun vs H Q E h => ?_) (fun cdv A outer s H vs Q E hr h => ?_)
  · obtain ⟨p, q, t, ns, m, c, xs, rfl, _⟩ := h
    rfl
  · obtain ⟨p, q, t, ns, m, c, xs, rfl, ht, tp, tq, hx0, hx1, D, hc, k⟩ := h
    refine ⟨_, pss_one (ps_ret (pe_ix ix_list (pv 1) (pe_call GD hr rfl gD FD.kp bD .nil pass0 (pa_cons (pv 0) (pa_cons (pe_callB call_len_seq (by rfl) T.len PySem.boot_len (pa_cons (pv 1) pa_nil)) pa_nil))) (fun _ _ => rfl))), ?_⟩
    refine ⟨_, rfl, _, rfl, _, rfl, t, _, rfl, .inl (SqL.of ht), p, q, ns, m, c, (xs.length : Int), rfl, by omega, by omega, D, hc, fun i ns' H' h0 h1 off D' => ?_⟩
    obtain ⟨j, rfl⟩ : ∃ j : Nat, i = (j : Int) := ⟨i.toNat, by omega⟩
    have hj : j < xs.length := by omega
    exact ⟨t, xs, _, xs[j], rfl, rfl, SqL.of (off _ _ ht tp tq), atI_nat (List.getElem?_eq_getElem hj), k j _ ns' H' (List.getElem?_eq_getElem hj) off D'⟩
end
/-! ### the deck stands apart -/
def hide (p q : Addr) (H : Hp) : Hp := fun b => if b = p ∨ b = q then none else H b
/-- a deck at p with its cells at q, at most b choices made -/
def Dk (H : Hp) (p q : Addr) (b : Nat) : Prop := ∃ ns m c, DeckAt H p q ns m c ∧ c ≤ (b : Int)
section
variable {H H' : Hp} {p q t : Addr} {b : Nat}
theorem hide_sub (p q : Addr) (H : Hp) : Same (hide p q H) H := fun c o e => by
  unfold hide at e
  split at e
  · cases e
  · exact e
theorem hide_at {c : Addr} {o : HO} (h : H c = some o) (hp : c ≠ p) (hq : c ≠ q) : hide p q H c = some o := by
  unfold hide
  rw [if_neg (fun z => z.elim hp hq)]
  exact h
theorem hide_same (S : Same H H') : Same (hide p q H) (hide p q H') := fun c o e => by
  unfold hide at e ⊢
  split at e
  · cases e
  · rename_i h
    rw [if_neg h]
    exact S _ _ e
theorem hide_off (O : Off p q H H') : Same (hide p q H) (hide p q H') := fun c o e => by
  unfold hide at e ⊢
  split at e
  · cases e
  · rename_i h
    rw [if_neg h]
    exact O _ _ e (fun z => h (.inl z)) (fun z => h (.inr z))
theorem Dk.same (D : Dk H p q b) (S : Same H H') : Dk H' p q b := by
  obtain ⟨ns, m, c, D, h⟩ := D
  exact ⟨ns, m, c, D.same S, h⟩
theorem Dk.mono {b' : Nat} (D : Dk H p q b) (h : b ≤ b') : Dk H p q b' := by
  obtain ⟨ns, m, c, D, hc⟩ := D
  exact ⟨ns, m, c, D, by omega⟩
theorem Dk.new (D : Dk H p q b) (n : H t = none) : t ≠ p ∧ t ≠ q := by
  obtain ⟨ns, m, c, D, hc⟩ := D
  refine ⟨fun e => ?_, fun e => ?_⟩
  · rw [e, D.ob] at n
    cases n
  · rw [e, D.ce] at n
    cases n
theorem hide_new {o : HO} (D : Dk H p q b) (n : H t = none) : hide p q (upd H t o) t = some o := hide_at upd_same (D.new n).1 (D.new n).2
theorem hide_none (h : hide p q H t = none) (hp : t ≠ p) (hq : t ≠ q) : H t = none := by
  unfold hide at h
  rw [if_neg (fun z => z.elim hp hq)] at h
  exact h
/-- a choice of n -/
theorem draw_of {n : Int} {Q : VK} {E : XK} (D : Dk H p q b) (h0 : 0 < n) (h1 : n ≤ 1000000) (hb : b < 100000000) (k : ∀ (i : Nat) (H' : Hp), (i : Int) < n → Off p q H H' → Dk H' p q (b + 1) → Q (.int (i : Nat)) H') : spDraw [.ref p, .int n] H Q E := by
  obtain ⟨ns, m, c, D, hc⟩ := D
  refine ⟨p, q, ns, m, c, n, rfl, h0, h1, D, by omega, fun i ns' H' i0 i1 off D' => ?_⟩
  obtain ⟨j, rfl⟩ : ∃ j : Nat, i = j := ⟨i.toNat, by omega⟩
  exact k j H' i1 off ⟨ns', m, c + 1, D', by omega⟩
/-- one of the items of a list -/
theorem pick_of {xs : List V} {Q : VK} {E : XK} (D : Dk H p q b) (ht : H t = some (.lst xs)) (tp : t ≠ p) (tq : t ≠ q) (h0 : 0 < xs.length) (h1 : xs.length ≤ 1000) (hb : b < 100000000) (k : ∀ (j : Nat) (x : V) (H' : Hp), xs[j]? = some x → Off p q H H' → Dk H' p q (b + 1) → Q x H') : spPick [.ref p, .ref t] H Q E := by
  obtain ⟨ns, m, c, D, hc⟩ := D
  exact ⟨p, q, t, ns, m, c, xs, rfl, ht, tp, tq, h0, h1, D, by omega, fun j x ns' H' hx off D' => k j x H' hx off ⟨ns', m, c + 1, D', by omega⟩⟩
end
theorem dk_upd {H : Hp} {p q r : Addr} {b : Nat} {o : HO} (D : Dk H p q b) (h1 : r ≠ p) (h2 : r ≠ q) : Dk (upd H r o) p q b := by
  obtain ⟨ns, m, c, D, hc⟩ := D
  exact ⟨ns, m, c, ⟨by rw [upd_ne h1.symm]; exact D.ob, by rw [upd_ne h2.symm]; exact D.ce, D.m0, D.m1, D.c0, D.c1, D.ln⟩, hc⟩
theorem dk_ne {H : Hp} {p q a : Addr} {b : Nat} {xs : List V} (D : Dk H p q b) (h : H a = some (.tup xs)) : a ≠ p ∧ a ≠ q := by
  obtain ⟨ns, m, c, D, hc⟩ := D
  refine ⟨fun e => ?_, fun e => ?_⟩
  · rw [e, D.ob] at h
    cases h
  · rw [e, D.ce] at h
    cases h
end K9
set_option maxRecDepth 100000
set_option maxHeartbeats 4000000
namespace L2
open PySem PySem.Spec PyProof.Rows
section
variable {X : Cx}
/-- a list beside an empty list, a tuple beside an empty tuple -/
def rEmpty (neg : Bool) : R2 := fun x y H Q => ∃ (a b : Addr) (xs : List V), x = .ref a ∧ y = .ref b ∧ ((H a = some (.lst xs) ∧ H b = some (.lst [])) ∨ (H a = some (.tup xs) ∧ H b = some (.tup []))) ∧ Q (.bl (if neg then !xs.isEmpty else xs.isEmpty)) H
theorem nil_of {us : List Value} (r : Vals ([] : List V) us) : us = [] := by
  cases r
  rfl
theorem op_empty (hu : X.A.units < cLine) : OpR X (compareOp .Eq) (rEmpty false) := by
  intro pins s σ H x y v u Q I rx ry h
  obtain ⟨a, b, xs, rfl, rfl, h, q⟩ := h
  cases rx
  cases ry
  rcases h with ⟨ha, hb⟩ | ⟨ha, hb⟩
  · obtain ⟨its, rv, p, _⟩ := I.list (SqL.of ha)
    obtain ⟨its2, rv2, p2, _⟩ := I.list (SqL.of hb)
    obtain rfl := nil_of rv2
    cases xs with
    | nil =>
      obtain rfl := nil_of rv
      exact SeqAt.eq_listAt (e := fun _ => true) p.isList p2.isList rfl hu (fun j h1 h2 => absurd h1 (Nat.not_lt_zero _)) ⟨.bl true, H, I, rfl, q⟩
    | cons x0 l =>
      cases rv with
      | cons r0 rs => exact SeqAt.eq_list_lengthsAt p.isList p2.isList (by simp) hu ⟨.bl false, H, I, rfl, q⟩
  · obtain ⟨its, rv, p, _⟩ := I.tuple (SqT.of ha)
    obtain ⟨its2, rv2, p2, _⟩ := I.tuple (SqT.of hb)
    obtain rfl := nil_of rv2
    cases xs with
    | nil =>
      obtain rfl := nil_of rv
      exact SeqAt.eq_tupleAt (e := fun _ => true) p p2 hu (fun j h1 h2 => absurd h1 (Nat.not_lt_zero _)) ⟨.bl true, H, I, rfl, q⟩
    | cons x0 l =>
      cases rv with
      | cons r0 rs => exact SeqAt.eq_tupleAt (e := fun _ => true) p p2 hu (fun j h1 h2 => absurd h2 (Nat.not_lt_zero _)) ⟨.bl false, H, I, by simp [RelV], q⟩
theorem op_nempty (hu : X.A.units < cLine) : OpR X (compareOp .NotEq) (rEmpty true) := by
  intro pins s σ H x y v u Q I rx ry h
  obtain ⟨a, b, xs, rfl, rfl, h, q⟩ := h
  cases rx
  cases ry
  rcases h with ⟨ha, hb⟩ | ⟨ha, hb⟩
  · obtain ⟨its, rv, p, _⟩ := I.list (SqL.of ha)
    obtain ⟨its2, rv2, p2, _⟩ := I.list (SqL.of hb)
    obtain rfl := nil_of rv2
    cases xs with
    | nil =>
      obtain rfl := nil_of rv
      exact SeqAt.RcNeAt.lists (e := fun _ => true) p.isList p2.isList rfl hu (fun j h1 h2 => absurd h1 (Nat.not_lt_zero _)) _ _ _ _ ⟨.bl false, H, I, rfl, q⟩
    | cons x0 l =>
      cases rv with
      | cons r0 rs => exact SeqAt.RcNeAt.lists_lengths p.isList p2.isList (by simp) hu _ _ _ _ ⟨.bl true, H, I, rfl, q⟩
  · obtain ⟨its, rv, p, _⟩ := I.tuple (SqT.of ha)
    obtain ⟨its2, rv2, p2, _⟩ := I.tuple (SqT.of hb)
    obtain rfl := nil_of rv2
    cases xs with
    | nil =>
      obtain rfl := nil_of rv
      exact SeqAt.RcNeAt.tuples (e := fun _ => true) p p2 hu (fun j h1 h2 => absurd h1 (Nat.not_lt_zero _)) _ _ _ _ ⟨.bl false, H, I, rfl, q⟩
    | cons x0 l =>
      cases rv with
      | cons r0 rs => exact SeqAt.RcNeAt.tuples (e := fun _ => true) p p2 hu (fun j h1 h2 => absurd h2 (Nat.not_lt_zero _)) _ _ _ _ ⟨.bl true, H, I, by simp [RelV], q⟩
end
end L2
namespace L2
open PySem PySem.Spec PyProof.Rows
/-! ### repr of any such value, with ints of up to 4,300 digits and empty dicts at any place -/
mutual
def okInt : PyData → Prop
  | .int i => i.natAbs < 10 ^ 4300
  | .list l => okInts l
  | .tuple l => okInts l
  | _ => True
def okInts : List PyData → Prop
  | [] => True
  | d :: ds => okInt d ∧ okInts ds
end
section
variable {prog : Program} {w : World} {A : Around} {E : Value → Shared → Prop} {s : Shared}
theorem call_int_reprS {a : Int} {t : Tok} {Q : Value → Shared → Prop} (hn : s.heap.NoDigits) (hlt : a.natAbs < 10 ^ 4300) (h : Q (.str (toString a) s.toks) { s with toks := s.toks + 1 }) :
    wpAny (model prog w) A (call (.builtin "int.__repr__") [.int a t]) Q E s := by
  (refine wpAny_call_entry F.slot_int_repr (typeIs_int s a t) F.entry_int_repr ?_ (F.args_int_repr_1 _); unfold Builtin.«int.__repr__»)
  show wpAny (model prog w) _ (do let r ← Builtin.overDigitLimit? a; _) _ _ s
  exact wpAny_bind (overDigitLimit_any hn (fun _ => wpAny_bind (wpAny_mkStr (wpAny_pure ⟨_, rfl, h⟩) (int_text_fits10 hlt))) (fun hge => absurd hlt (Nat.not_lt.mpr hge)))
theorem pyReprObj_intS {a : Int} {t : Tok} {Q : Value → Shared → Prop} (hu : A.units < cLine) (hn : s.heap.NoDigits) (hlt : a.natAbs < 10 ^ 4300) (h : Q (.str (toString a) s.toks) { s with toks := s.toks + 1 }) :
    wpAny (model prog w) A (pyReprObj (.int a t)) Q E s :=
  wpAny_pyReprObj_slot hu (typeIs_int s a t) F.slot_int_repr.toG (call_int_reprS hn hlt ⟨_, _, rfl, h⟩)
theorem reprK_int {h₀ : Heap} {as : List Addr} {d : Nat} {a : Int} (t : Tok) (hn : h₀.NoDigits) (hlt : a.natAbs < 10 ^ 4300) : ReprK prog w as h₀ d (.int a t) (toString a) := by
  intro base hb A g E s Q _ _ hu hk0 hQ
  have hn' : base ≤ sizeLine := by omega
  (rw [pyReprUnder_leaf (v := .int a t) hn' (fun _ e => nomatch e)]; unfold pyRepr)
  exact wpAny_bind (pyReprObj_intS (by omega) (hn.keeps hk0) hlt (wpAny_pure (hQ s.heap _ fun _ _ e => e)))
end
end L2
namespace K9
open PySem PySem.Spec PyProof.Rows L2
section
variable {P : Program} {w : World} {H : Hp} {h : Heap}
mutual
theorem dat_repr (ok : HOk P w H h) (nd : h.NoDigits) : ∀ {v : V} {d : PyData} {u : Value}, Dat H v d → RelV v u → okInt d → d.shown.length ≤ sizeLine → ∃ as bs, Reads h u d as ∧ ReadAtMost h d.depth bs ∧ ReprK P w bs h d.depth u d.shown
  | _, _, _, .non, r, _, _ => by
    cases r
    exact ⟨[], [], .none, (fun _ z => nomatch z), by simp only [PyData.shown]; exact .of_is ReprIs.none _ _ _⟩
  | _, _, _, .bl b, r, _, _ => by
    cases r
    exact ⟨[], [], .bool b, (fun _ z => nomatch z), by simp only [PyData.shown]; exact .of_is (ReprIs.bool b) _ _ _⟩
  | _, _, _, .int i, r, hi, _ => by
    obtain ⟨t, rfl⟩ := r
    exact ⟨[], [], .int i t, (fun _ z => nomatch z), by simp only [PyData.shown]; exact reprK_int t nd (by simpa only [okInt] using hi)⟩
  | _, _, _, .str x _, r, _, hz => by
    obtain ⟨t, rfl⟩ := r
    exact ⟨[], [], .str x t, (fun _ z => nomatch z), by simp only [PyData.shown]; exact .of_is (ReprIs.str x t (by simpa only [PyData.shown] using hz)) _ _ _⟩
  | _, _, _, .lst (a := a) (xs := xs) (ds := ds) e t, r, hi, hz => by
    cases r
    obtain ⟨_, its, m, rv, ho⟩ := (show ObjOk P w H h a (.lst xs) from ok a _ e)
    have hz' : (listText (PyData.shownAll ds)).length ≤ sizeLine := by simpa only [PyData.shown] using hz
    obtain ⟨as, bs, ra, hb, hk⟩ := datAll_repr ok nd t rv (by simpa only [okInt] using hi) (fun q hq => Nat.le_trans (listText_mem_le hq) hz')
    have rl : Reads h (.ref a) (.list ds) _ := .list ho rfl rfl ra
    refine ⟨_, a :: bs, rl, ReadAtMost.cons rl (by simp only [PyData.depth]; omega) hb, ?_⟩
    have hna : a ∉ bs := not_mem_of_deeper rl (by simp only [PyData.depth]; omega) hb
    simp only [PyData.depth, PyData.shown]
    cases its with
    | nil =>
      cases ra
      simp only [PyData.shownAll, listText_nil]
      exact ReprK.listEmpty ho rfl rfl
    | cons x l => exact ReprK.list (na := _) ho rfl rfl hna (by simpa using hk.length_eq) (fun i y e' => hk.item i y (by simpa using e'))
  | _, _, _, .tup (a := a) (xs := xs) (ds := ds) e t, r, hi, hz => by
    cases r
    obtain ⟨_, its, rv, o, ho, hc, m, hd⟩ := (show ObjOk P w H h a (.tup xs) from Rd.ok e.lk ok)
    have hz' : (tupleText (PyData.shownAll ds)).length ≤ sizeLine := by simpa only [PyData.shown] using hz
    obtain ⟨as, bs, ra, hb, hk⟩ := datAll_repr ok nd t rv (by simpa only [okInt] using hi) (fun q hq => Nat.le_trans (tupleText_mem_le hq) hz')
    have rl : Reads h (.ref a) (.tuple ds) _ := .tuple ho hc hd ra
    refine ⟨_, a :: bs, rl, ReadAtMost.cons rl (by simp only [PyData.depth]; omega) hb, ?_⟩
    have hna : a ∉ bs := not_mem_of_deeper rl (by simp only [PyData.depth]; omega) hb
    simp only [PyData.depth, PyData.shown]
    exact ReprK.tuple ho hc hd hna hk
  | _, _, _, .d0 (a := a) e, r, _, _ => by
    cases r
    obtain ⟨_, ns, vs, kv, o, es, ep, ho, hx, hd, hk, hp, _⟩ := (show ObjOk P w H h a (.dK []) from ok a _ e)
    cases kv
    have e0 : es.toList = [] := by
      generalize es.toList = l at hp
      cases hp
      rfl
    have rl : Reads h (.ref a) (.dict []) (a :: [] ++ []) := .dict (kvs := []) ho hx.1 hd (by rw [e0]; exact .nil) (by rw [e0]; exact .nil)
    have hsys : (a == sysModules) = false := beq_eq_false_iff_ne.mpr fun z => by
      rw [z] at ns
      simp at ns
    refine ⟨_, [a], rl, ReadAtMost.cons (n := 0) rl (Nat.zero_le _) (fun _ z => nomatch z), ?_⟩
    have k := ReprK.dict (prog := P) (w := w) (as := []) (d := 0) (ps := []) ho hx.1 hd hsys (by simp) (by rw [e0]; exact .nil)
    have k' := k.level_le (d' := (PyData.dict []).depth) (by simp [PyData.depth, PyData.depthKv])
    simpa only [PyData.shown, PyData.shownKv] using k'
theorem datAll_repr (ok : HOk P w H h) (nd : h.NoDigits) : ∀ {vs : List V} {ds : List PyData} {us : List Value}, DatAll H vs ds → Vals vs us → okInts ds → (∀ t ∈ PyData.shownAll ds, t.length ≤ sizeLine) →
    ∃ as bs, ReadsAll h us ds as ∧ ReadAtMost h (PyData.depthAll ds) bs ∧ ReprAllK P w bs h (PyData.depthAll ds) us (PyData.shownAll ds)
  | _, _, _, .nil, .nil, _, _ => ⟨[], [], .nil, (fun _ z => nomatch z), by simp only [PyData.shownAll]; exact .nil⟩
  | _, _, _, .cons (d := d) (ds := ds) t ts, .cons r rs, hi, hz => by
    have hi' : okInt d ∧ okInts ds := by simpa only [okInts] using hi
    obtain ⟨as, b1, ra, hb1, k1⟩ := dat_repr ok nd t r hi'.1 (hz _ (by simp only [PyData.shownAll]; exact List.mem_cons_self ..))
    obtain ⟨cs, b2, rb, hb2, k2⟩ := datAll_repr ok nd ts rs hi'.2 (fun q hq => hz q (by simp only [PyData.shownAll]; exact List.mem_cons_of_mem _ hq))
    refine ⟨as ++ cs, b1 ++ b2, .cons ra rb, ?_, ?_⟩
    · simp only [PyData.depthAll]
      exact (hb1.mono (Nat.le_max_left _ _)).append (hb2.mono (Nat.le_max_right _ _))
    · simp only [PyData.depthAll, PyData.shownAll]
      refine .cons ((k1.more fun b hb => List.mem_append_left _ hb).level_le (Nat.le_max_left _ _)) ?_
      exact k2.more_le (fun b hb => List.mem_append_right _ hb) (Nat.le_max_right _ _)
end
end
section
variable {X : Cx}
theorem nodig {K : PySem.W.Frag} {mg : Str → Option Value} {h : Heap} (M : L2.Mod K mg h) (e : PySem.W.nsIn K cStatics "sys.int_max_str_digits" = some none) : h.NoDigits := by
  obtain ⟨mc, h1, _⟩ := M.nolimit
  exact ⟨mc, h1, PySem.W.ns_none_of M.kin h1 e⟩
def rReprD : List V → Hp → VK → Prop := fun xs H Q => ∃ v d, xs = [v] ∧ Dat H v d ∧ okInt d ∧ d.depth ≤ 64 ∧ d.shown.length ≤ sizeLine ∧ Q (.str d.shown) H
theorem call_reprD (hg : X.A.guards = some []) (hu : X.A.units + 128 < cLine) (e : PySem.W.nsIn X.K cStatics "sys.int_max_str_digits" = some none) : CallR X (.builtin "repr") rReprD := by
  intro pins s σ H xs us Q I r hh
  obtain ⟨v, d, rfl, th, hi, hd, hz, q⟩ := hh
  obtain ⟨u, rfl, ru⟩ := vals1 r
  have nd : s.heap.NoDigits := (nodig I.ok.mod e).keeps I.bk
  have done : ∀ (h' : Heap) (u tk : Nat), (∀ b o, s.heap.get? b = some o → h'.get? b = some o) → EP X pins σ Q (.str d.shown u) { s with heap := h', toks := tk } := fun h' u tk k => ⟨.str _, H, I.kept (t' := tk) k, ⟨_, rfl⟩, q⟩
  cases th with
  | non =>
    cases ru
    exact PySem.P.repr_of_none (by simpa only [PyData.shown] using done s.heap _ _ fun _ _ e => e)
  | bl b =>
    cases ru
    exact PySem.P.repr_of_bool (by simpa only [PyData.shown] using done s.heap _ _ fun _ _ e => e)
  | str x _ =>
    obtain ⟨t, rfl⟩ := ru
    exact PySem.P.repr_of_str (by simpa only [PyData.shown] using done s.heap _ _ fun _ _ e => e) (by simpa only [PyData.shown] using hz)
  | int i =>
    obtain ⟨t, rfl⟩ := ru
    refine call_repr_slot (by omega) (typeIs_int s i t) F.slot_int_repr.toG (call_int_reprS nd (by simpa only [okInt] using hi) ⟨_, _, rfl, ?_⟩)
    simpa only [PyData.shown] using done s.heap _ _ fun _ _ e => e
  | @lst a vs ds e1 t =>
    cases ru
    obtain ⟨_, its, m, rv, ho⟩ := (show ObjOk X.prog X.w H s.heap a (.lst vs) from I.hok a _ e1)
    have hz' : (listText (PyData.shownAll ds)).length ≤ sizeLine := by simpa only [PyData.shown] using hz
    obtain ⟨as, bs, ra, hb, hk⟩ := datAll_repr I.hok nd t rv (by simpa only [okInt] using hi) (fun q hq => Nat.le_trans (listText_mem_le hq) hz')
    have rl : Reads s.heap (.ref a) (.list ds) _ := .list ho rfl rfl ra
    have hna : a ∉ bs := not_mem_of_deeper rl (by simp only [PyData.depth]; omega) hb
    simp only [PyData.depth] at hd
    simp only [PyData.shown] at done
    refine call_repr_slot (by omega) ⟨_, ho, rfl⟩ F.slot_list_repr.toG ?_
    cases its with
    | nil =>
      cases ra
      simp only [PyData.shownAll, listText_nil] at done
      exact call_list_repr_empty ⟨_, ho, rfl⟩ ho rfl ⟨_, _, rfl, done s.heap _ _ fun _ _ e => e⟩
    | cons x l => exact call_list_reprK (h₀ := s.heap) ho rfl rfl hna (by simpa using hk.length_eq) (fun i y e => hk.item i y (by simpa using e)) (A := X.A.in1) (g := []) hg (fun b _ => Clear.nil b) (by show X.A.units + 1 + (PyData.depthAll ds + 1) < cLine; omega) (fun _ _ e => e) (fun h' u tk k => ⟨_, _, rfl, done h' u tk k⟩) hz'
  | @tup a vs ds e1 t =>
    cases ru
    obtain ⟨_, its, rv, o, ho, hc, m, hdd⟩ := (show ObjOk X.prog X.w H s.heap a (.tup vs) from Rd.ok e1.lk I.hok)
    have hz' : (tupleText (PyData.shownAll ds)).length ≤ sizeLine := by simpa only [PyData.shown] using hz
    obtain ⟨as, bs, ra, hb, hk⟩ := datAll_repr I.hok nd t rv (by simpa only [okInt] using hi) (fun q hq => Nat.le_trans (tupleText_mem_le hq) hz')
    have rl : Reads s.heap (.ref a) (.tuple ds) _ := .tuple ho hc hdd ra
    have hna : a ∉ bs := not_mem_of_deeper rl (by simp only [PyData.depth]; omega) hb
    simp only [PyData.depth] at hd
    simp only [PyData.shown] at done
    refine call_repr_slot (by omega) ⟨_, ho, hc⟩ F.slot_tuple_repr ?_
    exact call_tuple_reprK (h₀ := s.heap) ho hc hdd hna hk (A := X.A.in1) (g := []) hg (fun b _ => Clear.nil b) (by show X.A.units + 1 + (PyData.depthAll ds + 1) < cLine; omega) (fun _ _ e => e) (fun h' u tk k => ⟨_, _, rfl, done h' u tk k⟩) hz'
  | @d0 a e1 =>
    cases ru
    obtain ⟨_, ns, vs, kv, o, es, ep, ho, hx, hdd, hk, hp, _⟩ := (show ObjOk X.prog X.w H s.heap a (.dK []) from I.hok a _ e1)
    cases kv
    have e0 : es.toList = [] := by
      generalize es.toList = l at hp
      cases hp
      rfl
    have hsys : (a == sysModules) = false := beq_eq_false_iff_ne.mpr fun z => by
      rw [z] at ns
      simp at ns
    simp only [PyData.shown, PyData.shownKv] at done
    refine call_repr_slot (by omega) ⟨_, ho, hx.1⟩ F.slot_dict_repr ?_
    exact call_dict_reprK (h₀ := s.heap) (as := []) (d := 0) (ps := []) ho hx.1 hdd hsys (by simp) (by rw [e0]; exact .nil) (A := X.A.in1) (g := []) hg (fun b _ => Clear.nil b) (by show X.A.units + 1 + 1 < cLine; omega) (fun _ _ e => e) (fun h' u tk k => ⟨_, _, rfl, done h' u tk k⟩)
end
end K9
namespace L2
open PySem PySem.Spec PyProof.Rows
/-! ### a def that is called where no repr runs -/
structure FnG (P : Program) (w : World) (K : PySem.W.Frag) (mg : Str → Option Value) (base : Heap) (k : Nat) (f : Addr) (fd : FuncData) (ps : List Str) (sp : Sp) : Prop where
  len : ∀ vs H Q E, sp vs H Q E → vs.length = ps.length
  run : ∀ (A : Around) (outer : List Env) (s : Shared) (H : Hp) (args : Args) (us : List Value) (vs : List V) (Q : VK) (E : XK), A.guards = some [] → Room k A → Env0 P w K mg base A outer s H → BindsTo s fd args (ps.zip us) → Vals vs us → sp vs H Q E →
    codeAny (model P w) A (.call (.ref f) args) (CR CX0 outer P w H s Q E) s
section
variable {P : Program} {w : World} {K : PySem.W.Frag} {mg : Str → Option Value} {base : Heap}
theorem Fun.okG {x qual : Str} {st : Stmt} {f : Addr} {fd : FuncData} {N ps : List Str} {k : Nat} {sp : Sp} (F : Fun K x qual st f fd) (S : FnScope N ps (defScope st)) (len : ∀ vs H Q E, sp vs H Q E → vs.length = ps.length)
    (hbody : ∀ (cdv : Value) (A : Around) (outer : List Env) (s : Shared) (H : Hp) (vs : List V) (Q : VK) (E : XK), A.guards = some [] → Room k (A.deeper (envOfC qual (defScope st) s.heap.objs.size f cdv)) → sp vs H Q E →
      ∃ t, PSs (cxOf CX0 P w K mg base N qual (defScope st) f cdv A outer s H E).nox (defBody st) t ∧ t { nx := fun _ H' => Q .non H', rt := Q } (start N vs) H) : FnG P w K mg base (k + 1) f fd ps sp := by
  obtain ⟨oc, od, kV, doc, pm, an, cdv, ct, osl, rfl, lk, hcd⟩ := F.ex
  refine ⟨len, fun A outer s H args us vs Q E hg hr e0 hb r hsp => ?_⟩
  obtain ⟨t, ht, hq⟩ := hbody cdv A outer s H vs Q E hg (hr.deeper _) hsp
  have KX : K.In s.heap := e0.mod.kin.keeps fun b o z => (e0.bs b o z).1
  have inPar : ∀ y ∈ ps.zip us, (defScope st).names.lookup y.1 = some .local ∨ ((defScope st).names.lookup y.1 = some .cell ∧ ((cellsFrom (s.heap.objs.size + 1) (defScope st).names []).lookup y.1).isSome = true) := by
    intro y hy
    have hin : y.1 ∈ ps := (List.of_mem_zip (a := y.1) (b := y.2) hy).1
    rcases S.par y.1 hin with z | z
    · exact .inl z
    · exact .inr ⟨z, PySem.W.cellsFrom_some _ _ _ (.inl z)⟩
  refine codeAny_call_function hr.depth (KX _ _ lk) rfl S.co S.gen rfl (PySem.W.codeRec_of KX hcd) (hb _ _ _ _ ?_)
  refine wpAny_newFunctionEnv_cells S.kind inPar fun env he s1 ic => ?_
  subst he
  have I := inv_start (CX := CX0) (E := E) (cd := cdv) (qual := qual) (f := f) S hr.hd e0 (len _ _ _ _ hsp) r ic
  refine ⟨(e0.mod.nolimit.keeps fun b o z => (e0.bs b o z).1).keeps ic.toInCall.keep, codeAny_func ?_⟩
  refine wpAny_mono (ht.nox.run [] s1 (start N vs) H _ I hq) (fun fl s' q => ?_) fun _ _ z => z
  cases fl with
  | next =>
    obtain ⟨σ', H', J, z⟩ := q
    exact ⟨.non, H', J.os, J.bare, J.base, J.hok, rfl, z⟩
  | ret u =>
    obtain ⟨v, σ', H', J, rv, z⟩ := q
    exact ⟨v, H', J.os, J.bare, J.base, J.hok, rv, z⟩
  | brk =>
    obtain ⟨_, _, _, z⟩ := q
    exact z.elim
  | cont =>
    obtain ⟨_, _, _, z⟩ := q
    exact z.elim
end
section
variable {X : Cx} {k : Nat} {f : Addr} {fd : FuncData} {ps : List Str} {sp : Sp} {x : Str} {p pos : Pos} {e : Expr} {es : List Expr} {t : TA}
theorem pe_callG (F : FnG X.prog X.w X.K X.mg X.base k f fd ps sp) (hg : X.A.guards = some []) (hr : Room k X.A) (gl : Gl X x) (hm : X.mg x = some (.ref f)) (hk : PySem.W.keepIn X.K (.ref f) = true) (hb : Binds X.K fd ps []) (ha : PA X (e :: es) t)
    (hdb : (x == ("__debug__" : Str)) = false := by decide) (he : starEach (e :: es) X.env = (false, eval e X.env) :: starEach es X.env := by rfl) (hpl : (backTo pos (starEach es X.env)).any (·.1) = false := by rfl) :
    PE X (.Call (.Name x p) (e :: es) [] pos) (tCall sp [] E0 t) := by
  refine ⟨fun pins s σ H Q I h => ?_⟩
  refine wpAny_Call_Name_kw (ld_glob I gl hm ?_ hdb)
  refine PySem.W.callWith_K (h₀ := X.base) I.ok.mod.kin hk (thn (ha.run pos pins s σ H _ I h) fun us s1 hh => ?_) he hpl
  obtain ⟨vs, H1, I1, r, q⟩ := hh
  refine ⟨I1.kIn, ?_⟩
  have q' : sp vs H1 Q E0 := by
    have z : sp (vs ++ []) H1 Q E0 := q
    rw [List.append_nil] at z
    exact z
  have hl : us.length = ps.length := r.length.symm.trans (F.len _ _ _ _ q')
  have b := hb s1 us I1.kIn (by rw [List.append_nil]; exact hl)
  rw [List.append_nil] at b
  refine wpAny_call (codeAny_mono (F.run X.A X.stack s1 H1 ⟨us, []⟩ us vs Q E0 hg hr I1.env0 b r q') fun res s' z => ?_)
  cases res with
  | error er => exact False.elim z
  | ok fl =>
    cases fl with
    | ret u => exact I1.after z
    | next => exact False.elim z
    | brk => exact False.elim z
    | cont => exact False.elim z
end
end L2
namespace L2
open PySem PySem.Spec PyProof.Rows
section
variable {P : Program} {w : World} {K : PySem.W.Frag} {mg mb : Str → Option Value} {k : Nat} {fa a : Addr} {fd : FuncData} {x : Str} {sp : Sp} {s1 : Shared} {vs : List Value} {ns : List Int}
/-- the law's call where at most the script is tracked (at a) -/
theorem callG_at (KX : K.In s1.heap) (hns : s1.heap.Ns mainGlobals mg) (hb : s1.heap.Ns builtinsNs mb) (hbb : ∀ x : Str, x ≠ "__name__" → mb x = bootBuiltins x) (hlim : s1.heap.NoLimit) (hg : s1.gens = #[])
    (ha : s1.heap.get? a = some { cls := .type "list", data := .seq vs.toArray }) (hr : Room k callerA) (F : ∀ base : Heap, K.In base → base.Ns mainGlobals mg → FnG P w K mg base k fa fd [x] sp)
    (hbind : ∀ (s : Shared) (u : Value), BindsTo s fd ⟨[u], []⟩ [(x, u)]) (H : Hp) (hO : Only H) (hok : HOk P w H s1.heap) (hA : ∀ b, H b ≠ none → b = a) (hK : H a ≠ none → K.lookup a = none)
    (hsp : sp [.ref a] H (fun v _ => v = .bl true) fun _ _ _ => False) :
    codeAny (model P w) callerA (.call (.ref fa) ⟨[.ref a], []⟩) (fun r s' => r = .ok (.ret (.bool true)) ∧ OldK s1.heap s'.heap ∧ s'.os = s1.os ∧ AllBare s'.gens) s1 := by
  have free : ∀ {b : Addr} {o : Obj}, s1.heap.get? b = some o → o.data ≠ .seq vs.toArray → H b = none := by
    intro b o e hd
    cases q : H b with
    | none => rfl
    | some u =>
      have eb := hA b (by rw [q]; exact fun z => nomatch z)
      rw [eb, ha] at e
      cases e
      exact absurd rfl hd
  have nsB : ∀ {b : Addr} {m : Str → Option Value}, s1.heap.Ns b m → (hidT s1.heap H).Ns b m := by
    intro b m hn
    refine hn.at fun o e => hidT_get e ?_
    obtain ⟨o', es, ep, e', d, -⟩ := hn
    rw [e] at e'
    cases e'
    exact free e (by rw [d]; exact fun z => nomatch z)
  have KB : K.In (hidT s1.heap H) := fun b o e => by
    refine hidT_get (KX b o e) ?_
    cases q : H b with
    | none => rfl
    | some u =>
      have hb0 : H b ≠ none := by rw [q]; exact fun z => nomatch z
      have eb := hA b hb0
      rw [eb] at hb0 e
      rw [hK hb0] at e
      cases e
  have M : Mod K mg (hidT s1.heap H) := ⟨KB, nsB hns, ⟨mb, nsB hb, hbb⟩, by obtain ⟨mc, h1, h2⟩ := hlim; exact ⟨mc, nsB h1, h2⟩⟩
  have e0 : Env0 P w K mg (hidT s1.heap H) callerA [] s1 H := ⟨rfl, M, fun _ _ e => of_hidT e, Nat.le_of_eq (hidT_size _ _), trivial, fun b z => absurd (show b ∈ ([] : List Addr) from z) (List.not_mem_nil), hok, .of_eq hg⟩
  refine codeAny_mono ((F _ KB (nsB hns)).run callerA [] s1 H ⟨[.ref a], []⟩ [.ref a] [.ref a] _ _ rfl hr e0 (hbind s1 (.ref a)) (.cons rfl .nil) hsp) fun r s' z => ?_
  cases r with
  | error e => exact False.elim z
  | ok fl =>
    cases fl with
    | next => exact False.elim z
    | brk => exact False.elim z
    | cont => exact False.elim z
    | ret u =>
      obtain ⟨v, H', os, bare, un, hok', rv, q⟩ := z
      have q' : v = .bl true := q
      subst q'
      obtain rfl : u = Value.bool true := rv
      refine ⟨rfl, OldK.of_keep fun b o e => ?_, os, bare⟩
      cases qb : H b with
      | none => exact un.keep b o e qb (fun z => absurd (show b ∈ ([] : List Addr) from z) (List.not_mem_nil)) (List.not_mem_nil)
      | some y =>
        rcases hO b with z | ⟨ob, xs, z⟩
        · rw [qb] at z
          cases z
        · have e1 := (hok b _ z).1
          have e2 := (hok' b _ (un.frzs b ob _ z)).1
          rw [e] at e1
          cases e1
          exact e2
end
theorem walk_G {l : PySem.W.OpenLaw} {n k : Nat} {q : Program} {loose : List Str} {XP : (Str → Option Value) → Heap → Prop} {YP : World → Heap → Prop} {d : DefRec} {K : Params → PySem.W.Frag} {sp : PySem.W.Frag → Sp} {x : Str}
    (hn : l.most = some n) (hn2 : n ≤ sizeLine) (hdf : d.params.defaults = []) (hr : Room k callerA) (hY : ∀ (w : World) (h : Heap), YP w h → (K w.params).In h)
    (F : ∀ (w : World) (mg : Str → Option Value) (fa : Addr) (h : Heap), (K w.params).In h → h.Ns mainGlobals mg → mg d.name = some (.ref fa) →
      ∃ fd : FuncData, (∀ (s : Shared) (u : Value), BindsTo s fd ⟨[u], []⟩ [(x, u)]) ∧ ∀ base : Heap, (K w.params).In base → base.Ns mainGlobals mg → FnG l.prog w (K w.params) mg base k fa fd [x] (sp (K w.params)))
    (hsp : ∀ (K : PySem.W.Frag) (H : Hp) (a : Addr) (ns : List Int), ns.length ≤ n → Only H → SqL K H a (ns.map V.int) → sp K [.ref a] H (fun v _ => v = .bl true) fun _ _ _ => False) :
    PySem.W.WalkO q loose XP YP l.row.toRowW d [] (fun f vs => PySem.call f vs) := by
  refine Att.attach_call hn hdf fun w s₀ s1 mg mb fa o pm cd doc a vs ns G Y ho hd hcd hmg hobj hints hlen hg => ?_
  have KX := hY w _ Y
  obtain ⟨fd, hb, hF⟩ := F w mg fa _ KX G.T.g hmg
  have hl : ns.length ≤ sizeLine := Nat.le_trans hlen hn2
  have rv := vals_ints hints
  cases hk : (K w.params).lookup a with
  | some oa =>
    have e := KX a oa hk
    rw [hobj] at e
    cases e
    refine callG_at KX G.T.g G.T.b G.T.builtins G.T.nolimit hg hobj hr hF hb (fun _ => none) (fun _ => .inl rfl) (fun b u z => nomatch z) (fun b z => absurd rfl z) (fun z => absurd rfl z) (hsp _ _ a ns hlen (fun _ => .inl rfl) ?_)
    exact .inr ⟨_, vs.toArray, _, hk, rfl, rfl, rfl, by rw [List.size_toArray, hints.length]; exact hl, by simpa using rv⟩
  | none =>
    let H : Hp := fun b => if b = a then some (.frz { cls := .type "list", data := .seq vs.toArray } (.lst (ns.map V.int))) else none
    have Ha : H a = some (.frz { cls := .type "list", data := .seq vs.toArray } (.lst (ns.map V.int))) := if_pos rfl
    have Hn : ∀ {b : Addr}, b ≠ a → H b = none := fun h => if_neg h
    have only : Only H := fun b => by
      by_cases hb : b = a
      · exact .inr ⟨_, _, by rw [hb]; exact Ha⟩
      · exact .inl (Hn hb)
    refine callG_at KX G.T.g G.T.b G.T.builtins G.T.nolimit hg hobj hr hF hb H only (fun b u z => ?_) (fun b z => ?_) (fun _ => hk) (hsp _ H a ns hlen only (.inl (.inr ⟨_, Ha⟩)))
    · by_cases hb : b = a
      · rw [hb, Ha] at z
        cases z
        rw [hb]
        exact ⟨hobj, by rw [List.length_map]; exact hl, vs, _, rv, hobj⟩
      · rw [Hn hb] at z
        cases z
    · by_cases hb : b = a
      · exact hb
      · exact absurd (Hn hb) z
end L2
namespace L2
open PySem PySem.Spec PyProof.Rows
/-! ### f(k = v, ..), nothing by position -/
def tCallKw (sp : Sp) (gV : List V → List V → List V) (E : XK) (tk : TA) : TE := fun σ H Q => tk σ H fun zs H1 => sp (gV [] zs) H1 Q E
section
variable {X : Cx} {CX : CXT} {k : Nat} {f : Addr} {fd : FuncData} {ps ks : List Str} {sp : Sp} {E : XK} {x : Str} {p pos : Pos} {kws : List Keyword} {tk : TA} {g : List Value → List Value → List Value} {gV : List V → List V → List V}
theorem pe_callKw (F : FnOk X.prog X.w X.K X.mg X.base CX k f fd ps sp) (hr : Room k X.A) (hg : Gl X x) (hm : X.mg x = some (.ref f)) (hk : PySem.W.keepIn X.K (.ref f) = true) (hb : KBinds X.K fd ps ks g gV) (hx : Passes CX X E)
    (hkw : PK X kws tk) (hall : (backToKw pos (keywordEach kws X.env)).all (·.1.isSome) = true := by rfl) (hks : (backToKw pos (keywordEach kws X.env)).filterMap (·.1) = ks := by rfl) (hdb : (x == ("__debug__" : Str)) = false := by decide)
    (hpl : ((backTo pos (starEach [] X.env)).any (·.1) || (backToKw pos (keywordEach kws X.env)).any (·.1.isNone)) = false := by rfl) :
    PE X (.Call (.Name x p) [] kws pos) (tCallKw sp gV E tk) := by
  refine ⟨fun pins s σ H Q I h => wpAny_Call_Name_kw (ld_glob I hg hm ?_ hdb)⟩
  refine PySem.W.callWith_KW0 (h₀ := X.base) I.ok.mod.kin hk hall (thn (hkw.run pos pins s σ H _ I h) fun ws s2 hh => ?_) hpl
  obtain ⟨zs, H2, I2, rz, q2⟩ := hh
  refine ⟨I2.kIn, ?_⟩
  rw [hks]
  exact run_fnk (us := []) (vs := []) F hr hb hx I2 .nil rz q2
end
end L2
namespace K9
open PySem PySem.Spec PyProof.Rows L2
/-! ### written data: what it is, wherever it lies -/
def tDat (d : PyData) : TE := fun _ H Q => ∀ (v : V) (H' : Hp), Same H H' → Dat H' v d → Q v H'
def tDats (ds : List PyData) : TA := fun _ H Q => ∀ (vs : List V) (H' : Hp), Same H H' → DatAll H' vs ds → Q vs H'
section
variable {X : Cx} {e : Expr} {es : List Expr} {d : PyData} {ds : List PyData}
theorem pe_weak {t t' : TE} (h : PE X e t) (w : ∀ σ H Q, t' σ H Q → t σ H Q) : PE X e t' := ⟨fun pins s σ H Q I hq => h.run pins s σ H Q I (w σ H Q hq)⟩
theorem pa_weak {t t' : TA} (h : PA X es t) (w : ∀ σ H Q, t' σ H Q → t σ H Q) : PA X es t' := ⟨fun pos pins s σ H Q I hq => h.run pos pins s σ H Q I (w σ H Q hq)⟩
theorem pd_nil : PA X [] (tDats []) := pa_weak pa_nil fun σ H Q h => h [] H (Same.refl H) .nil
theorem pd_cons (a : PE X e (tDat d)) (b : PA X es (tDats ds)) (hs : starEach (e :: es) X.env = (false, eval e X.env) :: starEach es X.env := by rfl) : PA X (e :: es) (tDats (d :: ds)) :=
  pa_weak (pa_cons a b hs) fun σ H Q h v H1 S1 dv vs H2 S2 dvs => h (v :: vs) H2 (S1.trans S2) (.cons (dv.same S2) dvs)
theorem pd_tup {ctx : Nat} {pos : Pos} (hl : ds.length ≤ 1000) (a : PA X es (tDats ds)) : PE X (.Tuple es ctx pos) (tDat (.tuple ds)) :=
  pe_weak (pe_tup a) fun σ H Q h vs H1 S1 dvs => ⟨by rw [dvs.len, sizeLine_eq]; omega, fun p np => h (.ref p) _ (S1.trans (same_new np)) (.tup (TP.of upd_same) (dvs.same (same_new np)))⟩
theorem pd_lst {pos : Pos} (hl : ds.length ≤ 1000) (a : PA X es (tDats ds)) : PE X (.List es pos) (tDat (.list ds)) :=
  pe_weak (pe_lst a) fun σ H Q h vs H1 S1 dvs => ⟨by rw [dvs.len, sizeLine_eq]; omega, fun p np => h (.ref p) _ (S1.trans (same_new np)) (.lst upd_same (dvs.same (same_new np)))⟩
theorem pd_of {v : V} (a : PE X e (tC v)) (h : ∀ H : Hp, Dat H v d) : PE X e (tDat d) := pe_weak a fun σ H Q q => q v H (Same.refl H) (h H)
theorem pd_none (a : PE X e (tC .non)) : PE X e (tDat .none) := pd_of a fun _ => .non
theorem pd_bool {b : Bool} (a : PE X e (tC (.bl b))) : PE X e (tDat (.bool b)) := pd_of a fun _ => .bl b
theorem pd_int {i : Int} (a : PE X e (tC (.int i))) : PE X e (tDat (.int i)) := pd_of a fun _ => .int i
theorem pd_str {x : Str} (hx : x.length ≤ 1000) (a : PE X e (tC (.str x))) : PE X e (tDat (.str x)) := pd_of a fun _ => .str x hx
theorem pd_neg {i : Int} {pos : Pos} (a : PE X e (tC (.int i))) : PE X (.UnaryOp .USub e pos) (tDat (.int (-i))) := pe_weak (pe_un un_neg a) fun σ H Q q => ⟨i, rfl, q _ H (Same.refl H) (.int _)⟩
theorem pd_dict {pos : Pos} : PE X (.Dict [] [] pos) (tDat (.dict [])) := pe_weak pe_dnewK fun σ H Q q p np => q (.ref p) _ (same_new np) (.d0 upd_same)
end
end K9
set_option maxRecDepth 100000
set_option maxHeartbeats 4000000
namespace K9
open PySem PySem.Spec PyProof.Rows L2
/-! ### counts of letters, numbers between -/
abbrev Cn : Type := List (Str × Nat)
def cntsD (cs : Cn) : PyData := .tuple (cs.map fun c => .tuple [.str c.1, .int (c.2 : Nat)])
def isS (z : Str) : PyData → Bool
  | .str y => decide (y = z)
  | _ => false
def intOf : PyData → Int
  | .int i => i
  | _ => 0
theorem btw_int {lo hi : Int} {d : PyData} (h : btw lo hi d = true) : ∃ i, d = .int i ∧ lo ≤ i ∧ i ≤ hi := by
  cases d with
  | int i =>
    have h' : (decide (lo ≤ i) && decide (i ≤ hi)) = true := h
    rw [Bool.and_eq_true] at h'
    exact ⟨i, rfl, of_decide_eq_true h'.1, of_decide_eq_true h'.2⟩
  | _ => cases h
theorem btw_mk {lo hi i : Int} (h1 : lo ≤ i) (h2 : i ≤ hi) : btw lo hi (.int i) = true := by
  show (decide (lo ≤ i) && decide (i ≤ hi)) = true
  rw [decide_eq_true h1, decide_eq_true h2]
  rfl
theorem isS_iff {z : Str} {d : PyData} : isS z d = true ↔ d = .str z := by
  cases d with
  | str y =>
    show decide (y = z) = true ↔ _
    rw [decide_eq_true_iff]
    constructor
    · rintro rfl
      rfl
    · intro h
      injection h
  | _ => exact ⟨(fun h => by cases h), (fun h => by cases h)⟩
end K9
set_option maxRecDepth 100000
set_option maxHeartbeats 4000000
namespace K9
open PySem PySem.Spec PyProof.Rows
open PySem.AutoSeq1 (wpAny_loadPart')
/-! ### a dict beside a text -/
theorem sub_str_dict : isSubtype (.type "str") (.type "dict") = pure false := by
  rw [isSubtype_type]
  kernel_rfl
theorem sub_dict_str : isSubtype (.type "dict") (.type "str") = pure false := by
  rw [isSubtype_type]
  kernel_rfl
theorem dict_no_str (l : Addr) (dd : Option Addr) (es : Array DictEntry) (ep : Nat) (sl : Array (Option Value)) (b : Str) (u : Tok) :
    Meets (Builtin.«dict.__eq__» ⟨[.ref l, .str b u], []⟩) (fun _ R s => s.heap.get? l = some { cls := .type "dict", dict := dd, data := .dict es ep, slots := sl } ∧ R (.ok (.ret .notImplemented)) s) :=
  .of_wp fun prog w A R s h => by
    obtain ⟨hp, g, d, tk, os⟩ := s
    obtain ⟨hl, h⟩ := h
    have f1 := sub_str_dict
    wp_walk using wpAny_loadPart' hl
    exact ⟨_, rfl, h⟩
theorem str_no_dict (l : Addr) (dd : Option Addr) (es : Array DictEntry) (ep : Nat) (sl : Array (Option Value)) (b : Str) (u : Tok) :
    Meets (Builtin.«str.__eq__» ⟨[.str b u, .ref l], []⟩) (fun _ R s => s.heap.get? l = some { cls := .type "dict", dict := dd, data := .dict es ep, slots := sl } ∧ R (.ok (.ret .notImplemented)) s) :=
  .of_wp fun prog w A R s h => by
    obtain ⟨hp, g, d, tk, os⟩ := s
    obtain ⟨hl, h⟩ := h
    wp_walk using wpAny_loadPart' hl, wpAny_load hl
    exact ⟨_, rfl, h⟩
end K9
namespace PySem.SeqAt
open PySem PyProof.Rows
theorem k2_dict_str {A : Around} {s : Shared} {l : Addr} {dd : Option Addr} {es : Array DictEntry} {ep : Nat} {sl : Array (Option Value)} (b : Str) (u : Tok) (hl : s.heap.get? l = some { cls := .type "dict", dict := dd, data := .dict es ep, slots := sl }) (hu : A.units < cLine) :
    RcAt A s (.ref l) (.str b u) false := fun prog w E Q h =>
  rc_eq_decline_or (k := false) ⟨_, hl, rfl⟩ (typeIs_str s b u) (by decide) K9.sub_str_dict PySem.F.slot_dict_eq F.slot_str_eq_refl
    (fun _ hq => call_meets PySem.F.slot_dict_eq ⟨_, hl, rfl⟩ PySem.F.entry_dict_eq (PySem.F.args_dict_eq_2 _ _) (K9.dict_no_str l dd es ep sl b u) ⟨hl, hq⟩)
    (fun _ hq => call_meets F.slot_str_eq_refl (typeIs_str s b u) F.entry_str_eq (F.args_str_eq_2 _ _) (K9.str_no_dict l dd es ep sl b u) ⟨hl, hq⟩)
    (fun _ hq => wpAny_of_eq (rfl : isSame (.ref l) (.str b u) = pure false) hq) (.inr hu) h
end PySem.SeqAt
namespace K9
open PySem PySem.Spec PyProof.Rows L2
/-- any value beside a text -/
def eqStr (z : Str) : PyData → Bool
  | .str x => x == z
  | _ => false
def rEqStr : R2 := fun x y H Q => ∃ d z, Dat H x d ∧ y = .str z ∧ Q (.bl (eqStr z d)) H
section
variable {X : Cx}
theorem op_eqStr (hu : X.A.units < cLine) : OpR X (compareOp .Eq) rEqStr := by
  intro pins s σ H x y v u Q I rx ry h
  obtain ⟨d, z, hd, rfl, q⟩ := h
  obtain ⟨t, rfl⟩ := ry
  have fin : ∀ k : Bool, k = eqStr z d → EP X pins σ Q (.bool k) s := fun k e => ⟨.bl k, H, I, rfl, by rw [e]; exact q⟩
  cases hd with
  | non =>
    cases rx
    exact PySem.SeqAt.RcAt.none_str z t _ _ _ _ (fin _ rfl)
  | bl b =>
    cases rx
    exact PySem.SeqAt.RcAt.bool_str b z t _ _ _ _ (fin _ rfl)
  | int i =>
    obtain ⟨t2, rfl⟩ := rx
    exact PySem.SeqAt.RcAt.int_str i t2 z t _ _ _ _ (fin _ rfl)
  | str x hx =>
    obtain ⟨t2, rfl⟩ := rx
    exact PySem.SeqAt.RcAt.str_str x t2 z t _ _ _ _ (fin _ rfl)
  | @lst a xs ds ha hx =>
    cases rx
    obtain ⟨its, rv, p, _⟩ := I.list (SqL.of ha)
    exact PySem.SeqAt.RcAt.list_str z t p.isList hu _ _ _ _ (fin _ rfl)
  | @tup a xs ds ha hx =>
    cases rx
    obtain ⟨its, rv, p, _⟩ := I.tuple (sqT_rd ha)
    exact PySem.SeqAt.RcAt.tuple_str z t p hu _ _ _ _ (fin _ rfl)
  | @d0 a ha =>
    cases rx
    obtain ⟨_, ns, vs, kv, o, es, ep, ho, hx, hd, hk, hp, _⟩ := (show ObjOk X.prog X.w H s.heap a (.dK []) from I.hok a _ ha)
    obtain ⟨oc, od, dt, sl⟩ := o
    have e1 : oc = .type "dict" := hx.1
    have e2 : dt = .dict es ep := hd
    subst e1 e2
    exact PySem.SeqAt.k2_dict_str z t ho hu _ _ _ _ (fin _ rfl)
end
end K9
namespace PySem.SeqAt
open PySem PyProof.Rows
theorem k2_str_dict {A : Around} {s : Shared} {l : Addr} {dd : Option Addr} {es : Array DictEntry} {ep : Nat} {sl : Array (Option Value)} (b : Str) (u : Tok) (hl : s.heap.get? l = some { cls := .type "dict", dict := dd, data := .dict es ep, slots := sl }) (hu : A.units < cLine) :
    EqAt A s (.str b u) (.ref l) false := fun prog w E Q h => by
  unfold eqBool
  refine wpAny_holding (wpAny_ite_split (fun hab => absurd (eq_of_beq hab) nofun) fun _ => wpAny_bind ?_)
  exact rc_eq_decline_or (k := false) (typeIs_str s b u) ⟨_, hl, rfl⟩ (by decide) K9.sub_dict_str F.slot_str_eq PySem.F.slot_dict_eq_refl
    (fun _ hq => call_meets F.slot_str_eq (typeIs_str s b u) F.entry_str_eq (F.args_str_eq_2 _ _) (K9.str_no_dict l dd es ep sl b u) ⟨hl, hq⟩)
    (fun _ hq => call_meets PySem.F.slot_dict_eq_refl ⟨_, hl, rfl⟩ PySem.F.entry_dict_eq (PySem.F.args_dict_eq_2 _ _) (K9.dict_no_str l dd es ep sl b u) ⟨hl, hq⟩)
    (fun _ hq => wpAny_of_eq (rfl : isSame (.str b u) (.ref l) = pure false) hq) (.inr hu) (wpAny_truthy_bool h)
end PySem.SeqAt
namespace K9
open PySem PySem.Spec PyProof.Rows L2
section
variable {X : Cx}
/-- a text among the items, held against any value -/
theorem str_eqAt {pins : List (Addr × Obj)} {σ : L2.St} {H : Hp} {s : Shared} {x : V} {v : Value} {d : PyData} (I : Inv X pins σ H s) (hd : Dat H x d) (rx : RelV x v) {A : Around} (hu : A.units < cLine) (z : Str) (t : Tok) : SeqAt.EqAt A s (.str z t) v (eqStr z d) := by
  cases hd with
  | non =>
    cases rx
    exact SeqAt.EqAt.str_none z t
  | bl b =>
    cases rx
    exact SeqAt.EqAt.str_bool z t b
  | int i =>
    obtain ⟨t2, rfl⟩ := rx
    exact SeqAt.EqAt.str_int z t i t2
  | str y hy =>
    obtain ⟨t2, rfl⟩ := rx
    have e : eqStr z (.str y) = (z == y) := by
      show (y == z) = (z == y)
      by_cases h : y = z
      · rw [h]
      · rw [beq_eq_false_iff_ne.mpr h, beq_eq_false_iff_ne.mpr (Ne.symm h)]
    rw [e]
    exact SeqAt.EqAt.str_str z t y t2
  | @lst a xs ds ha hx =>
    cases rx
    obtain ⟨its, rv, p, _⟩ := I.list (SqL.of ha)
    exact SeqAt.EqAt.str_list z t p.isList hu
  | @tup a xs ds ha hx =>
    cases rx
    obtain ⟨its, rv, p, _⟩ := I.tuple (sqT_rd ha)
    exact SeqAt.EqAt.str_tuple z t p hu
  | @d0 a ha =>
    cases rx
    obtain ⟨_, ns, vs, kv, o, es, ep, ho, hx, hd, hk, hp, _⟩ := (show ObjOk X.prog X.w H s.heap a (.dK []) from I.hok a _ ha)
    obtain ⟨oc, od, dt, sl⟩ := o
    have e1 : oc = .type "dict" := hx.1
    have e2 : dt = .dict es ep := hd
    subst e1 e2
    exact SeqAt.k2_str_dict z t ho hu
/-- x in (texts), x not in (texts) -/
def rInStrs (neg : Bool) : R2 := fun x y H Q => ∃ (d : PyData) (p : Addr) (zs : List Str), Dat H x d ∧ y = .ref p ∧ TP H p (zs.map V.str) ∧ Q (.bl (if neg then !zs.any fun z => eqStr z d else zs.any fun z => eqStr z d)) H
def eStr (d : PyData) : Value → Bool
  | .str z _ => eqStr z d
  | _ => false
theorem any_strs {d : PyData} : ∀ {zs : List Str} {its : List Value}, Vals (zs.map V.str) its → its.any (eStr d) = zs.any fun z => eqStr z d
  | [], _, .nil => rfl
  | z :: zs, _, .cons r rs => by
    obtain ⟨t, rfl⟩ := r
    rw [List.any_cons, List.any_cons, any_strs rs]
    rfl
theorem mem_strs {zs : List Str} {its : List Value} (r : Vals (zs.map V.str) its) : ∀ y ∈ its, ∃ z t, y = .str z t := by
  intro y hy
  obtain ⟨i, hi⟩ := List.mem_iff_getElem?.mp hy
  have hl := r.length
  have hlt := (List.getElem?_eq_some_iff.mp hi).1
  obtain ⟨x, hx⟩ : ∃ x, (zs.map V.str)[i]? = some x := ⟨_, List.getElem?_eq_getElem (by omega)⟩
  obtain ⟨u, hu, ru⟩ := r.get hx
  rw [hi] at hu
  cases hu
  rw [List.getElem?_map] at hx
  cases e : zs[i]? with
  | none =>
    rw [e] at hx
    cases hx
  | some z =>
    rw [e] at hx
    cases hx
    obtain ⟨t, rfl⟩ := ru
    exact ⟨z, t, rfl⟩
theorem op_notInStrs (hu : X.A.units + 1 < cLine) : OpR X (compareOp .NotIn) (rInStrs true) := by
  intro pins s σ H x y v u Q I rx ry h
  obtain ⟨d, p, zs, hd, rfl, hp, q⟩ := h
  cases ry
  obtain ⟨its, r, pl, _⟩ := I.tuple (sqT_rd hp)
  refine SeqAt.notIn_tupleAt (eStr d) pl (fun w hw => ?_) ⟨.bl _, H, I, rfl, ?_⟩
  · obtain ⟨z, t, rfl⟩ := mem_strs r w (by simpa using hw)
    exact str_eqAt I hd rx hu z t
  · rw [show its.toArray.any (eStr d) = its.any (eStr d) by simp, any_strs r]
    exact q
theorem op_inStrs (hu : X.A.units + 1 < cLine) : OpR X (compareOp .In) (rInStrs false) := by
  intro pins s σ H x y v u Q I rx ry h
  obtain ⟨d, p, zs, hd, rfl, hp, q⟩ := h
  cases ry
  obtain ⟨its, r, pl, _⟩ := I.tuple (sqT_rd hp)
  refine SeqAt.in_tupleAt (eStr d) pl (fun w hw => ?_) ⟨.bl _, H, I, rfl, ?_⟩
  · obtain ⟨z, t, rfl⟩ := mem_strs r w (by simpa using hw)
    exact str_eqAt I hd rx hu z t
  · rw [show its.toArray.any (eStr d) = its.any (eStr d) by simp, any_strs r]
    exact q
end
end K9
namespace K9
open PySem PySem.Spec PyProof.Rows L2
/-! ### promises -/
/-- a predicate of one value; no tracked object changes -/
def spP (f : PyData → Bool) : Sp := fun vs H Q _ => ∃ (v : V) (d : PyData), vs = [v] ∧ Dat H v d ∧ ∀ H', Same H H' → Q (.bl (f d)) H'
def spBtw : Sp := fun vs H Q _ => ∃ (v : V) (d : PyData) (lo hi : Int), vs = [v, .int lo, .int hi] ∧ Dat H v d ∧ ∀ H', Same H H' → Q (.bl (btw lo hi d)) H'
/-- a tuple of lo to hi items -/
def tupOf (lo hi : Int) : PyData → Bool
  | .tuple ds => decide (lo ≤ (ds.length : Int)) && decide ((ds.length : Int) ≤ hi)
  | _ => false
def spTup : Sp := fun vs H Q _ => ∃ (v : V) (d : PyData) (lo hi : Int), vs = [v, .int lo, .int hi] ∧ Dat H v d ∧ ∀ H', Same H H' → Q (.bl (tupOf lo hi d)) H'
abbrev sIsInt : Stmt := top 3
abbrev sBtw : Stmt := top 4
abbrev sTup : Stmt := top 6
section
variable {P : Program} {w : World} {K : PySem.W.Frag} {mg : Str → Option Value} {base : Heap}
theorem scIsInt : FnScope ["value"] ["value"] (defScope sIsInt) := ⟨rfl, rfl, rfl, by decide +kernel, rfl, by decide +kernel, by decide +kernel⟩
theorem scBtw : FnScope ["value", "low", "high"] ["value", "low", "high"] (defScope sBtw) := ⟨rfl, rfl, rfl, by decide +kernel, rfl, by decide +kernel, by decide +kernel⟩
theorem scTup : FnScope ["value", "least", "most"] ["value", "least", "most"] (defScope sTup) := ⟨rfl, rfl, rfl, by decide +kernel, rfl, by decide +kernel, by decide +kernel⟩
theorem ok_isint {f : Addr} {fd : FuncData} (F : Fun K "is_integer" "is_integer" sIsInt f fd) (T : Nm mg) : FnOk P w K mg base CX0 1 f fd ["value"] (spP isInt) := by
  refine F.ok scIsInt (fun vs H Q E h => ?_) (fun cdv A outer s H vs Q E hr h => ?_)
  · obtain ⟨v, d, rfl, _⟩ := h
    rfl
  · obtain ⟨v, d, rfl, hd, q⟩ := h
    refine ⟨_, pss_one (ps_ret (pe_and (pe_callB call_isi (by rfl) T.isinstance boot_isinstance (pa_cons (pv 0) (pa_cons (pe_bltn (v := .ty "int") rfl T.int (by decide +kernel) rfl) pa_nil)))
      (pe_one (pe_not (pe_callB call_isi (by rfl) T.isinstance boot_isinstance (pa_cons (pv 0) (pa_cons (pe_bltn (v := .ty "bool") rfl T.bool (by decide +kernel) rfl) pa_nil))))))), ?_⟩
    refine ⟨_, rfl, v, .ty "int", _, _, _, rfl, .ty _, hd.ty, kit_int _ d, _, rfl, ?_⟩
    have q' := q H fun _ _ e => e
    cases d with
    | int i => exact ⟨_, rfl, v, .ty "bool", _, _, _, rfl, .ty _, hd.ty, kit_bool _ _, _, rfl, q'⟩
    | bool b => exact ⟨_, rfl, v, .ty "bool", _, _, _, rfl, .ty _, hd.ty, kit_bool _ _, _, rfl, q'⟩
    | none => exact q'
    | str x => exact q'
    | list ds => exact q'
    | tuple ds => exact q'
    | dict kv => exact q'
theorem ok_btw {f fI : Addr} {fd fdI : FuncData} (F : Fun K "is_between" "is_between" sBtw f fd) (T : Nm mg) (I : DefOk K mg "is_integer" sIsInt ["value"] fI fdI) : FnOk P w K mg base CX0 2 f fd ["value", "low", "high"] spBtw := by
  have GI : FnOk P w K mg base CX0 1 fI fdI ["value"] (spP isInt) := ok_isint I.F T
  refine F.ok scBtw (fun vs H Q E h => ?_) (fun cdv A outer s H vs Q E hr h => ?_)
  · obtain ⟨v, d, lo, hi, rfl, _⟩ := h
    rfl
  · obtain ⟨v, d, lo, hi, rfl, hd, q⟩ := h
    refine ⟨_, pss_one (ps_ret (pe_and (pe_call GI hr rfl I.g I.F.kp I.b .nil pass0 (pa_cons (pv 0) pa_nil)) (pe_one (pe_chain op_le op_le (pv 1) (pv 0) (pv 2))))), ?_⟩
    refine ⟨_, rfl, v, d, rfl, hd, fun H' S => ⟨_, rfl, ?_⟩⟩
    have q' := q H' S
    cases d with
    | int i =>
      cases hd
      refine ⟨_, rfl, _, rfl, _, _, rfl, rfl, _, rfl, ?_⟩
      by_cases h : lo ≤ i
      · have e : btw lo hi (.int i) = decide (i ≤ hi) := by
          show (decide (lo ≤ i) && decide (i ≤ hi)) = _
          rw [decide_eq_true h, Bool.true_and]
        rw [e] at q'
        rw [if_pos (decide_eq_true h)]
        exact ⟨_, rfl, _, _, rfl, rfl, q'⟩
      · have e : btw lo hi (.int i) = false := by
          show (decide (lo ≤ i) && decide (i ≤ hi)) = _
          rw [decide_eq_false h, Bool.false_and]
        rw [e] at q'
        rw [if_neg (by rw [decide_eq_false h]; exact Bool.false_ne_true)]
        exact q'
    | bool b => exact q'
    | none => exact q'
    | str x => exact q'
    | list ds => exact q'
    | tuple ds => exact q'
    | dict kv => exact q'
theorem ok_tup {f : Addr} {fd : FuncData} (F : Fun K "is_tuple" "is_tuple" sTup f fd) (T : Nm mg) : FnOk P w K mg base CX0 1 f fd ["value", "least", "most"] spTup := by
  refine F.ok scTup (fun vs H Q E h => ?_) (fun cdv A outer s H vs Q E hr h => ?_)
  · obtain ⟨v, d, lo, hi, rfl, _⟩ := h
    rfl
  · obtain ⟨v, d, lo, hi, rfl, hd, q⟩ := h
    refine ⟨_, pss_one (ps_ret (pe_and (pe_callB call_isi (by rfl) T.isinstance boot_isinstance (pa_cons (pv 0) (pa_cons (pe_bltn (v := .ty "tuple") rfl T.tuple (by decide +kernel) rfl) pa_nil)))
      (pe_one (pe_chain op_le op_le (pv 1) (pe_callB call_len_seq (by rfl) T.len PySem.boot_len (pa_cons (pv 0) pa_nil)) (pv 2))))), ?_⟩
    have q' := q H fun _ _ e => e
    refine ⟨_, rfl, v, .ty "tuple", _, _, _, rfl, .ty _, hd.ty, kit_tuple _ d, _, rfl, ?_⟩
    cases d with
    | tuple ds =>
      cases hd with
      | @tup a xs _ ha hx =>
        have el : (xs.length : Int) = (ds.length : Int) := by rw [hx.len]
        refine ⟨_, rfl, _, rfl, a, xs, rfl, .inr (sqT_rd ha), _, _, rfl, rfl, _, rfl, ?_⟩
        rw [el]
        by_cases h : lo ≤ (ds.length : Int)
        · have e : tupOf lo hi (.tuple ds) = decide ((ds.length : Int) ≤ hi) := by
            show (decide (lo ≤ (ds.length : Int)) && decide ((ds.length : Int) ≤ hi)) = _
            rw [decide_eq_true h, Bool.true_and]
          rw [e] at q'
          rw [if_pos (decide_eq_true h)]
          exact ⟨_, rfl, _, _, rfl, rfl, q'⟩
        · have e : tupOf lo hi (.tuple ds) = false := by
            show (decide (lo ≤ (ds.length : Int)) && decide ((ds.length : Int) ≤ hi)) = _
            rw [decide_eq_false h, Bool.false_and]
          rw [e] at q'
          rw [if_neg (by rw [decide_eq_false h]; exact Bool.false_ne_true)]
          exact q'
    | int i => exact q'
    | bool b => exact q'
    | none => exact q'
    | str x => exact q'
    | list ds => exact q'
    | dict kv => exact q'
end
end K9
set_option maxRecDepth 100000
set_option maxHeartbeats 4000000
namespace K9
open PySem PySem.Spec PyProof.Rows L2
/-- [f(x) for x in a tuple] -/
theorem lc_map {K : PySem.W.Frag} {H : Hp} {a : Addr} {xs : List V} {ds : List PyData} {g : TG} {te : TE} {vs : List Nat} {σ : L2.St} {D : Addr} {Qd : Hp → Prop} (f : PyData → V) (ha : TP H a xs) (hx : DatAll H xs ds) (hz : xs.length ≤ 1000000) (nD : H D = none)
    (hs : ∀ (i : Nat) (x : V) (d : PyData) (Hx : Hp), xs[i]? = some x → ds[i]? = some d → Dat Hx x d → Same H Hx → ∀ R : VK, (∀ H', Same Hx H' → R (f d) H') → g x (wipe σ vs) Hx fun σ2 H2 => wipe σ2 vs = wipe σ vs ∧ te σ2 H2 R)
    (mono : ∀ (x : V) (Hx : Hp) (A B : L2.St → Hp → Prop), (∀ σ2 H2, A σ2 H2 → B σ2 H2) → g x (wipe σ vs) Hx A → g x (wipe σ vs) Hx B)
    (hd : ∀ Hx, Same H Hx → Hx D = some (.lst (ds.map f)) → Qd Hx) :
    ∃ W : Nat → Nat → Hp → Prop, (∃ m, W 0 m (upd H D (.lst []))) ∧ ∀ i m H, W i m H →
      ((Itt K a).stop i H ∧ Qd H) ∨ ((Itt K a).go i H ∧ ∃ Nx : Hp → Prop, (∀ H', Nx H' → ∃ m', m' < m ∧ W (i + 1) m' H') ∧ ∀ x H', (Itt K a).yld i H x H' → g x (wipe σ vs) H' fun σ2 H2 => wipe σ2 vs = wipe σ vs ∧ tYes σ2 H2 fun b H3 =>
        if b = true then te σ2 H3 fun y H4 => ∃ acc, H4 D = some (.lst acc) ∧ acc.length < sizeLine ∧ Nx (upd H4 D (.lst (acc ++ [y]))) else Nx H3) := by
  refine lc_tup (K := K) (a := a) (xs := xs) (fun j Hx => Same H Hx ∧ Hx D = some (.lst ((ds.take j).map f))) ⟨same_new nD, upd_same⟩ (fun j Hx _ ⟨S, _⟩ => sqT_rd (upR ha S)) ?_ ?_
  · rintro i x Hx hi ⟨S, hD⟩
    obtain ⟨d, hdi, td⟩ := hx.get hi
    refine mono x Hx _ _ (fun σ2 H2 h => ⟨h.1, ?_⟩) (hs i x d Hx hi hdi (td.same S) S (fun y H4 => ∃ acc, H4 D = some (.lst acc) ∧ acc.length < sizeLine ∧ Same H (upd H4 D (.lst (acc ++ [y]))) ∧ upd H4 D (.lst (acc ++ [y])) D = some (.lst ((ds.take (i + 1)).map f))) fun H' S' => ?_)
    · dsimp only [tYes]
      first
        | exact if_t rfl h.2
        | exact h.2
    · have hi' : i < xs.length := (List.getElem?_eq_some_iff.mp hi).1
      refine ⟨_, S' _ _ hD, ?_, grow nD (S.trans S'), ?_⟩
      · rw [List.length_map, List.length_take, sizeLine_eq]
        omega
      · rw [upd_same, List.take_add_one, hdi]
        simp
  · rintro Hx ⟨S, hD⟩
    refine hd Hx S ?_
    rw [hD, hx.len, List.take_length]
theorem mono_name {i : Nat} {vs : List Nat} {σ : L2.St} : ∀ (x : V) (Hx : Hp) (A B : L2.St → Hp → Prop), (∀ σ2 H2, A σ2 H2 → B σ2 H2) → gName i x (wipe σ vs) Hx A → gName i x (wipe σ vs) Hx B := fun x Hx A B h a => h _ _ a
/-- any part of a tuple -/
theorem slAny_of {K : PySem.W.Frag} {H : Hp} {a : Addr} {xs : List V} {lo hi : Option Int} {Q : VK} (ha : TP H a xs) (hq : ∀ (b : Addr) (Hb : Hp), Same H Hb → TP Hb b (cutV xs lo hi) → Q (.ref b) Hb) : rSlA K (.ref a) lo hi H Q := by
  refine ⟨a, xs, rfl, sqT_rd ha, fun z => hq a H (Same.refl H) ?_, fun _ p np => hq p _ (same_new np) (TP.of upd_same)⟩
  have e : cutV xs lo hi = xs := by
    unfold cutV
    rw [z.1, z.2, List.drop_zero, Nat.sub_zero, List.take_length]
  rw [e]
  exact ha
/-- two tuples, one behind the other -/
theorem catA_of {K : PySem.W.Frag} {H : Hp} {a b : Addr} {xs ys : List V} {Q : VK} (ha : TP H a xs) (hb : TP H b ys) (hz : xs.length + ys.length ≤ sizeLine) (hq : ∀ (c : Addr) (Hc : Hp), Same H Hc → TP Hc c (xs ++ ys) → Q (.ref c) Hc) : rCatA K (.ref a) (.ref b) H Q := by
  refine ⟨a, b, xs, ys, rfl, rfl, sqT_rd ha, sqT_rd hb, hz, fun e => hq b H (Same.refl H) ?_, fun _ e => hq a H (Same.refl H) ?_, fun _ _ p np => hq p _ (same_new np) (TP.of upd_same)⟩
  · rw [e, List.nil_append]
    exact hb
  · rw [e, List.append_nil]
    exact ha
/-! ### questions of the parts -/
abbrev s_takes : Stmt := top 18
abbrev s_asubset : Stmt := top 19
abbrev s_aword : Stmt := top 20
abbrev s_acycle : Stmt := top 23
abbrev s_amatch : Stmt := top 24
abbrev s_atree : Stmt := top 26
abbrev s_achoice : Stmt := top 29
abbrev Tops : Type := List (Str × Int)
def kvT (t : Tops) : List (Key × V) := t.map fun p => (.inr p.1, .int p.2)
def takesB (t : Tops) (z : Str) (as : List PyData) : Bool := match t.lookup z, as with
  | some m, [a] => btw 0 m a
  | _, _ => false
theorem kv_get : ∀ (t : Tops) (z : Str), valV (kvT t) (.inr z) = (t.lookup z).map V.int
  | [], z => rfl
  | p :: t, z => by
    unfold kvT
    rw [List.map_cons, List.lookup]
    by_cases h : z = p.1
    · rw [show (z == p.1) = true by rw [h]; exact beq_self_eq_true _]
      exact valV_pos (by rw [h])
    · rw [beq_eq_false_iff_ne.mpr h]
      rw [valV_neg (fun e => h (by injection e with e; exact e.symm))]
      exact kv_get t z
def spTakes : Sp := fun vs H Q _ => ∃ (t a : Addr) (tp : Tops) (z : Str) (xs : List V) (as : List PyData), vs = [.ref t, .str z, .ref a] ∧ H t = some (.dK (kvT tp)) ∧ TP H a xs ∧ DatAll H xs as ∧ ∀ H', Same H H' → Q (.bl (takesB tp z as)) H'
/-- what a question's def gets: a part, the word, the arguments -/
def spQ (ok : Hp → List V → Prop) (f : Str → List PyData → Bool) : Sp := fun vs H Q _ => ∃ (a0 a : Addr) (ps : List V) (z : Str) (xs : List V) (as : List PyData), vs = [.ref a0, .str z, .ref a] ∧ TP H a0 ps ∧ ok H ps ∧ z.length ≤ 1000 ∧ TP H a xs ∧ DatAll H xs as ∧ ∀ H', Same H H' → Q (.bl (f z as)) H'
def subsetB (n k : Int) (z : Str) (as : List PyData) : Bool := takesB [("contains", n - 1), ("rank", n), ("select", k - 1)] z as
def cycleB (n : Int) (z : Str) (as : List PyData) : Bool := takesB [("successor", n - 1), ("predecessor", n - 1)] z as
def matchB (n : Int) (z : Str) (as : List PyData) : Bool := takesB [("partner", 2 * n - 1)] z as
def treeB (n : Int) (z : Str) (as : List PyData) : Bool := takesB [("parent", n - 1)] z as && !decide (intOf (as.headD .none) = 0)
def choiceB (z : Str) (as : List PyData) : Bool := decide (z = "selected") && decide (as.length = 0)
def totC (cs : Cn) : Int := (cs.map fun c => (c.2 : Int)).sum
def selB (cs : Cn) (l o : PyData) : Bool := cs.any fun c => eqStr c.1 l && btw 0 ((c.2 : Int) - 1) o
def wordB (cs : Cn) (z : Str) (as : List PyData) : Bool := if (decide (z = "select") && decide (as.length = 2)) = true then selB cs (as.getD 0 .none) (as.getD 1 .none) else takesB [("letter", totC cs - 1), ("prefix", totC cs), ("entry", totC cs - 1)] z as
def okSub (n k : Int) : Hp → List V → Prop := fun _ ps => ∃ x0, ps = [x0, .int n, .int k]
def okNum (n : Int) : Hp → List V → Prop := fun _ ps => ∃ x0 r, ps = x0 :: .int n :: r
def okCnt (cs : Cn) : Hp → List V → Prop := fun H ps => ∃ x0 x1 r, ps = x0 :: x1 :: r ∧ Dat H x1 (cntsD cs)
section
variable {P : Program} {w : World} {K : PySem.W.Frag} {mg : Str → Option Value} {base : Heap}
theorem sc_takes : FnScope ["tops", "word", "arguments"] ["tops", "word", "arguments"] (defScope s_takes) := ⟨rfl, rfl, rfl, by decide +kernel, rfl, by decide +kernel, by decide +kernel⟩
theorem sc_asubset : FnScope ["part", "word", "arguments", "n", "k"] ["part", "word", "arguments"] (defScope s_asubset) := ⟨rfl, rfl, rfl, by decide +kernel, rfl, by decide +kernel, by decide +kernel⟩
theorem sc_aword : FnScope ["part", "word", "arguments", "counts", "n", "letter", "occurrence", "pair"] ["part", "word", "arguments"] (defScope s_aword) := ⟨rfl, rfl, rfl, by decide +kernel, rfl, by decide +kernel, by decide +kernel⟩
theorem sc_acycle : FnScope ["part", "word", "arguments"] ["part", "word", "arguments"] (defScope s_acycle) := ⟨rfl, rfl, rfl, by decide +kernel, rfl, by decide +kernel, by decide +kernel⟩
theorem sc_amatch : FnScope ["part", "word", "arguments"] ["part", "word", "arguments"] (defScope s_amatch) := ⟨rfl, rfl, rfl, by decide +kernel, rfl, by decide +kernel, by decide +kernel⟩
theorem sc_atree : FnScope ["part", "word", "arguments"] ["part", "word", "arguments"] (defScope s_atree) := ⟨rfl, rfl, rfl, by decide +kernel, rfl, by decide +kernel, by decide +kernel⟩
theorem sc_achoice : FnScope ["part", "word", "arguments"] ["part", "word", "arguments"] (defScope s_achoice) := ⟨rfl, rfl, rfl, by decide +kernel, rfl, by decide +kernel, by decide +kernel⟩
theorem ok_takes {f fB : Addr} {fd fdB : FuncData} (F : Fun K "takes_index" "takes_index" s_takes f fd) (T : Nm mg) (B : DefOk K mg "is_between" sBtw ["value", "low", "high"] fB fdB) (GB : FnOk P w K mg base CX0 2 fB fdB ["value", "low", "high"] spBtw) : FnOk P w K mg base CX0 3 f fd ["tops", "word", "arguments"] spTakes := by
  refine F.ok sc_takes (fun vs H Q E h => ?_) (fun cdv A outer s H vs Q E hr h => ?_)
  · obtain ⟨t, a, tp, z, xs, as, rfl, _⟩ := h
    rfl
  · obtain ⟨t, a, tp, z, xs, as, rfl, ht, ha, hx, q⟩ := h
    have hu1 := hu_of hr
    refine ⟨_, (pss_one (ps_ret (pe_and (pe_cmp (pc_din hu1 (pv 1) (pv 0)) rfl) (pe_and (pe_cmpR op_eq (pe_callB call_len_seq (by rfl) T.len PySem.boot_len (pa_cons (pv 2) pa_nil)) pe_int (nomark _)) (pe_one (pe_call GB hr rfl B.g B.F.kp B.b .nil pass0 (pa_cons (pe_ix ix_tup (pv 2) pe_int (fun _ _ => rfl)) (pa_cons pe_int (pa_cons (pe_dget hu1 (pv 0) (pv 1) (fun _ _ => rfl)) pa_nil))))))))), ?_⟩
    have q0 := q H (Same.refl H)
    refine ⟨_, rfl, _, rfl, t, _, rfl, DGet.k (k := .inr z) ht, _, rfl, ?_⟩
    rw [kv_get]
    unfold takesB at q q0
    cases e : tp.lookup z with
    | none =>
      rw [e] at q0
      exact if_f rfl q0
    | some m =>
      rw [e] at q q0
      refine if_t rfl ⟨_, rfl, a, xs, rfl, .inr (sqT_rd ha), rfl, _, rfl, ?_⟩
      match as, xs, hx, q, q0 with
      | [], [], _, q, q0 => exact if_f rfl q0
      | [d], [x], .cons dx .nil, q, q0 =>
        refine if_t rfl ⟨_, rfl, a, _, _, x, rfl, rfl, sqT_rd ha, atI_nat (j := 0) rfl, _, rfl, _, rfl, t, .int m, rfl, ?_, x, d, 0, m, rfl, dx, fun H' S => q H' S⟩
        have g := DGet.k (k := .inr z) ht
        rw [kv_get, e] at g
        exact g
      | d :: d2 :: ds, x :: x2 :: xs, _, q, q0 =>
        refine if_f (decide_eq_false fun y => ?_) q0
        injection y with y
        rw [List.length_cons, List.length_cons] at y
        omega
theorem ok_asubset {n k : Int} {f fT : Addr} {fd fdT : FuncData} (F : Fun K "asks_subset" "asks_subset" s_asubset f fd) (T : DefOk K mg "takes_index" s_takes ["tops", "word", "arguments"] fT fdT) (G : FnOk P w K mg base CX0 3 fT fdT ["tops", "word", "arguments"] spTakes) : FnOk P w K mg base CX0 4 f fd ["part", "word", "arguments"] (spQ (okSub n k) (subsetB n k)) := by
  refine F.ok sc_asubset (fun vs H Q E h => ?_) (fun cdv A outer s H vs Q E hr h => ?_)
  · obtain ⟨a0, a, ps, z, xs, as, rfl, _⟩ := h
    rfl
  · obtain ⟨a0, a, ps, z, xs, as, rfl, h0, ⟨x0, rfl⟩, hz, ha, hx, q⟩ := h
    refine ⟨_, (pss_cons (ps_asg (pe_slice sl_tupA (pv 0) (po_some pe_int) po_none) (pg_tup rfl (pgs_cons (pg_name (i := 3) sc_asubset.nd rfl (Or.inl rfl)) (pgs_cons (pg_name (i := 4) sc_asubset.nd rfl (Or.inl rfl)) pgs_nil))))
      (pss_one (ps_ret (pe_call G hr rfl T.g T.F.kp T.b .nil pass0 (pa_cons (pe_disp (pps_cons pe_str (pe_op op_sub (pv 3) pe_int) (pps_cons pe_str (pv 3) (pps_cons pe_str (pe_op op_sub (pv 4) pe_int) pps_nil))) (by rfl) (by rfl) (fun z => by cases z) (by decide)) (pa_cons (pv 1) (pa_cons (pv 2) pa_nil))))))), ?_⟩
    refine ⟨_, rfl, 1, rfl, ?_⟩
    dsimp only [tNoPart]
    refine slAny_of h0 fun b H1 S1 hb => ⟨b, _, rfl, sqT_rd hb, rfl, _, _, rfl, _, _, rfl, rfl, ?_⟩
    refine fun p np => ⟨_, rfl, _, _, rfl, rfl, _, rfl, _, rfl, _, _, rfl, rfl, upd_same, kvT [("contains", n - 1), ("rank", n), ("select", k - 1)], rfl, (by show 3 ≤ 15; decide), ?_⟩
    have S2 := same_new (o := HO.dK []) np
    have g : upd (upd H1 p (.dK [])) p (.dK (mergeK [] (kvT [("contains", n - 1), ("rank", n), ("select", k - 1)]))) p = some (.dK (kvT [("contains", n - 1), ("rank", n), ("select", k - 1)])) := upd_same
    have S3 : Same H1 (upd (upd H1 p (.dK [])) p (.dK (mergeK [] (kvT [("contains", n - 1), ("rank", n), ("select", k - 1)])))) := fun c o e => by
      rw [upd_ne (ne_of_none e np), upd_ne (ne_of_none e np)]
      exact e
    generalize upd (upd H1 p (.dK [])) p (.dK (mergeK [] (kvT [("contains", n - 1), ("rank", n), ("select", k - 1)]))) = H2 at g S3 ⊢
    have S := S1.trans S3
    exact ⟨_, rfl, _, rfl, p, a, _, z, xs, as, rfl, g, upR ha S, hx.same S, fun H' S' => q H' (S.trans S')⟩
theorem disp_same {H1 : Hp} {p : Addr} {o : HO} (np : H1 p = none) : Same H1 (upd (upd H1 p (.dK [])) p o) := fun c o e => by
  rw [upd_ne (ne_of_none e np), upd_ne (ne_of_none e np)]
  exact e
theorem ok_acycle {n : Int} {f fT : Addr} {fd fdT : FuncData} (F : Fun K "asks_cycle" "asks_cycle" s_acycle f fd) (T : DefOk K mg "takes_index" s_takes ["tops", "word", "arguments"] fT fdT) (G : FnOk P w K mg base CX0 3 fT fdT ["tops", "word", "arguments"] spTakes) : FnOk P w K mg base CX0 4 f fd ["part", "word", "arguments"] (spQ (okNum n) (cycleB n)) := by
  refine F.ok sc_acycle (fun vs H Q E h => ?_) (fun cdv A outer s H vs Q E hr h => ?_)
  · obtain ⟨a0, a, ps, z, xs, as, rfl, _⟩ := h
    rfl
  · obtain ⟨a0, a, ps, z, xs, as, rfl, h0, ⟨x0, r, rfl⟩, hz, ha, hx, q⟩ := h
    refine ⟨_, (pss_one (ps_ret (pe_call G hr rfl T.g T.F.kp T.b .nil pass0 (pa_cons (pe_disp (pps_cons pe_str (pe_op op_sub (pe_ix ix_tup (pv 0) pe_int (fun _ _ => rfl)) pe_int) (pps_cons pe_str (pe_op op_sub (pe_ix ix_tup (pv 0) pe_int (fun _ _ => rfl)) pe_int) pps_nil)) (by rfl) (by rfl) (fun z => by cases z) (by decide)) (pa_cons (pv 1) (pa_cons (pv 2) pa_nil)))))), ?_⟩
    refine fun p np => ?_
    have h1 := upR h0 (same_new (o := HO.dK []) np)
    refine ⟨_, rfl, a0, _, _, _, rfl, rfl, sqT_rd h1, atI_nat (j := 1) rfl, _, _, rfl, rfl, _, rfl, a0, _, _, _, rfl, rfl, sqT_rd h1, atI_nat (j := 1) rfl, _, _, rfl, rfl, upd_same, kvT [("successor", n - 1), ("predecessor", n - 1)], rfl, (by show 2 ≤ 15; decide), ?_⟩
    have g : upd (upd H p (.dK [])) p (.dK (mergeK [] (kvT [("successor", n - 1), ("predecessor", n - 1)]))) p = some (.dK (kvT [("successor", n - 1), ("predecessor", n - 1)])) := upd_same
    have S := disp_same (o := .dK (mergeK [] (kvT [("successor", n - 1), ("predecessor", n - 1)]))) np
    generalize upd (upd H p (.dK [])) p (.dK (mergeK [] (kvT [("successor", n - 1), ("predecessor", n - 1)]))) = H2 at g S ⊢
    exact ⟨_, rfl, _, rfl, p, a, _, z, xs, as, rfl, g, upR ha S, hx.same S, fun H' S' => q H' (S.trans S')⟩
theorem ok_amatch {n : Int} {f fT : Addr} {fd fdT : FuncData} (F : Fun K "asks_matching" "asks_matching" s_amatch f fd) (T : DefOk K mg "takes_index" s_takes ["tops", "word", "arguments"] fT fdT) (G : FnOk P w K mg base CX0 3 fT fdT ["tops", "word", "arguments"] spTakes) (hn : 0 ≤ n ∧ n ≤ 1000) : FnOk P w K mg base CX0 4 f fd ["part", "word", "arguments"] (spQ (okNum n) (matchB n)) := by
  refine F.ok sc_amatch (fun vs H Q E h => ?_) (fun cdv A outer s H vs Q E hr h => ?_)
  · obtain ⟨a0, a, ps, z, xs, as, rfl, _⟩ := h
    rfl
  · obtain ⟨a0, a, ps, z, xs, as, rfl, h0, ⟨x0, r, rfl⟩, hz, ha, hx, q⟩ := h
    refine ⟨_, (pss_one (ps_ret (pe_call G hr rfl T.g T.F.kp T.b .nil pass0 (pa_cons (pe_disp (pps_cons pe_str (pe_op op_sub (pe_op op_mul pe_int (pe_ix ix_tup (pv 0) pe_int (fun _ _ => rfl))) pe_int) pps_nil) (by rfl) (by rfl) (fun z => by cases z) (by decide)) (pa_cons (pv 1) (pa_cons (pv 2) pa_nil)))))), ?_⟩
    refine fun p np => ?_
    have h1 := upR h0 (same_new (o := HO.dK []) np)
    refine ⟨_, rfl, a0, _, _, _, rfl, rfl, sqT_rd h1, atI_nat (j := 1) rfl, _, _, rfl, rfl, .inl ⟨by decide, by decide⟩, _, _, rfl, rfl, upd_same, kvT [("partner", 2 * n - 1)], rfl, (by show 1 ≤ 15; decide), ?_⟩
    have g : upd (upd H p (.dK [])) p (.dK (mergeK [] (kvT [("partner", 2 * n - 1)]))) p = some (.dK (kvT [("partner", 2 * n - 1)])) := upd_same
    have S := disp_same (o := .dK (mergeK [] (kvT [("partner", 2 * n - 1)]))) np
    generalize upd (upd H p (.dK [])) p (.dK (mergeK [] (kvT [("partner", 2 * n - 1)]))) = H2 at g S ⊢
    exact ⟨_, rfl, _, rfl, p, a, _, z, xs, as, rfl, g, upR ha S, hx.same S, fun H' S' => q H' (S.trans S')⟩
theorem takes_one {t : Tops} {z : Str} {as : List PyData} (h : takesB t z as = true) : ∃ i : Int, as = [.int i] := by
  unfold takesB at h
  split at h
  · obtain ⟨i, rfl, _⟩ := btw_int h
    exact ⟨i, rfl⟩
  · cases h
theorem ok_atree {n : Int} {f fT : Addr} {fd fdT : FuncData} (F : Fun K "asks_tree" "asks_tree" s_atree f fd) (T : DefOk K mg "takes_index" s_takes ["tops", "word", "arguments"] fT fdT) (G : FnOk P w K mg base CX0 3 fT fdT ["tops", "word", "arguments"] spTakes) : FnOk P w K mg base CX0 4 f fd ["part", "word", "arguments"] (spQ (okNum n) (treeB n)) := by
  refine F.ok sc_atree (fun vs H Q E h => ?_) (fun cdv A outer s H vs Q E hr h => ?_)
  · obtain ⟨a0, a, ps, z, xs, as, rfl, _⟩ := h
    rfl
  · obtain ⟨a0, a, ps, z, xs, as, rfl, h0, ⟨x0, r, rfl⟩, hz, ha, hx, q⟩ := h
    refine ⟨_, (pss_one (ps_ret (pe_and (pe_call G hr rfl T.g T.F.kp T.b .nil pass0 (pa_cons (pe_disp (pps_cons pe_str (pe_op op_sub (pe_ix ix_tup (pv 0) pe_int (fun _ _ => rfl)) pe_int) pps_nil) (by rfl) (by rfl) (fun z => by cases z) (by decide)) (pa_cons (pv 1) (pa_cons (pv 2) pa_nil)))) (pe_one (pe_cmpR op_ne (pe_ix ix_tup (pv 2) pe_int (fun _ _ => rfl)) pe_int (nomark _)))))), ?_⟩
    refine fun p np => ?_
    have h1 := upR h0 (same_new (o := HO.dK []) np)
    refine ⟨_, rfl, a0, _, _, _, rfl, rfl, sqT_rd h1, atI_nat (j := 1) rfl, _, _, rfl, rfl, upd_same, kvT [("parent", n - 1)], rfl, (by show 1 ≤ 15; decide), ?_⟩
    have g : upd (upd H p (.dK [])) p (.dK (mergeK [] (kvT [("parent", n - 1)]))) p = some (.dK (kvT [("parent", n - 1)])) := upd_same
    have S := disp_same (o := .dK (mergeK [] (kvT [("parent", n - 1)]))) np
    generalize upd (upd H p (.dK [])) p (.dK (mergeK [] (kvT [("parent", n - 1)]))) = H2 at g S ⊢
    refine ⟨_, rfl, _, rfl, p, a, _, z, xs, as, rfl, g, upR ha S, hx.same S, fun H' S' => ⟨_, rfl, ?_⟩⟩
    have q' := q H' (S.trans S')
    unfold treeB at q'
    cases e : takesB [("parent", n - 1)] z as with
    | false =>
      rw [e] at q'
      exact if_f rfl q'
    | true =>
      rw [e] at q'
      obtain ⟨i, rfl⟩ := takes_one e
      cases hx with
      | cons d0 d1 =>
        cases d0
        cases d1
        refine if_t rfl ⟨_, rfl, a, _, _, _, rfl, rfl, sqT_rd (upR ha (S.trans S')), atI_nat (j := 0) rfl, rfl, ?_⟩
        have e2 : decide (V.int i = V.int 0) = decide (i = 0) := by
          by_cases h : i = 0
          · rw [decide_eq_true h, decide_eq_true (by rw [h])]
          · rw [decide_eq_false h, decide_eq_false fun y => h (V.int.inj y)]
        rw [e2]
        exact q'
theorem ok_achoice {ok : Hp → List V → Prop} {f : Addr} {fd : FuncData} (F : Fun K "asks_choice" "asks_choice" s_achoice f fd) (T : Nm mg) : FnOk P w K mg base CX0 4 f fd ["part", "word", "arguments"] (spQ ok choiceB) := by
  refine F.ok sc_achoice (fun vs H Q E h => ?_) (fun cdv A outer s H vs Q E hr h => ?_)
  · obtain ⟨a0, a, ps, z, xs, as, rfl, _⟩ := h
    rfl
  · obtain ⟨a0, a, ps, z, xs, as, rfl, h0, _, hz, ha, hx, q⟩ := h
    refine ⟨_, (pss_one (ps_ret (pe_and (pe_cmpR op_eq (pv 1) pe_str (nomark _)) (pe_one (pe_cmpR op_eq (pe_callB call_len_seq (by rfl) T.len PySem.boot_len (pa_cons (pv 2) pa_nil)) pe_int (nomark _)))))), ?_⟩
    have q0 := q H (Same.refl H)
    unfold choiceB at q0
    have e1 : decide (V.str z = V.str "selected") = decide (z = "selected") := by
      by_cases h : z = "selected"
      · rw [decide_eq_true h, decide_eq_true (by rw [h])]
      · rw [decide_eq_false h, decide_eq_false fun y => h (by injection y)]
    refine ⟨_, rfl, rfl, _, rfl, ?_⟩
    rw [e1]
    cases e : decide (z = ("selected" : Str)) with
    | false =>
      rw [e] at q0
      exact if_f rfl q0
    | true =>
      rw [e] at q0
      refine if_t rfl ⟨_, rfl, a, xs, rfl, .inr (sqT_rd ha), rfl, ?_⟩
      have e2 : decide (V.int ((xs.length : Nat) : Int) = V.int 0) = decide (as.length = 0) := by
        rw [hx.len]
        by_cases h : as.length = 0
        · rw [decide_eq_true h, decide_eq_true (by rw [h]; rfl)]
        · rw [decide_eq_false h, decide_eq_false fun y => h (by have := V.int.inj y; omega)]
      rw [e2]
      exact q0
end
end K9
set_option maxRecDepth 100000
set_option maxHeartbeats 4000000
namespace K9
open PySem PySem.Spec PyProof.Rows L2
/-! ### questions of words and decorated spaces -/
def cntD (c : Str × Nat) : PyData := .tuple [.str c.1, .int (c.2 : Nat)]
def cN : PyData → Int
  | .tuple [_, .int n] => n
  | _ => 0
def cS : PyData → Str
  | .tuple [.str s, _] => s
  | _ => ""
theorem cnt_at {H : Hp} {x : V} {c : Str × Nat} (h : Dat H x (cntD c)) : ∃ b : Addr, x = .ref b ∧ TP H b [.str c.1, .int (c.2 : Nat)] := by
  unfold cntD at h
  cases h with
  | @tup b ys _ hb hy =>
    cases hy with
    | cons h0 t0 =>
      cases t0 with
      | cons h1 t1 =>
        cases h0
        cases h1
        cases t1
        exact ⟨b, rfl, hb⟩
theorem sum_len10 : ∀ cs : Cn, ((cs.map cntD).map fun d => V.int (cN d)) = (cs.map fun c => (c.2 : Int)).map V.int
  | [] => rfl
  | c :: cs => by
    rw [List.map_cons, List.map_cons, List.map_cons, List.map_cons, sum_len10 cs]
    rfl
theorem sel_any (cs : Cn) (l o : PyData) : ((cs.map cntD).map fun d => V.bl (eqStr (cS d) l && btw 0 (cN d - 1) o)) = (cs.map fun c => (eqStr c.1 l && btw 0 ((c.2 : Int) - 1) o)).map V.bl := by
  rw [List.map_map, List.map_map]
  rfl
section
variable {P : Program} {w : World} {K : PySem.W.Frag} {mg : Str → Option Value} {base : Heap}
theorem ok_aword {cs : Cn} {f fT fB : Addr} {fd fdT fdB : FuncData} (F : Fun K "asks_word" "asks_word" s_aword f fd) (N : Nm mg) (T : DefOk K mg "takes_index" s_takes ["tops", "word", "arguments"] fT fdT) (G : FnOk P w K mg base CX0 3 fT fdT ["tops", "word", "arguments"] spTakes)
    (B : DefOk K mg "is_between" sBtw ["value", "low", "high"] fB fdB) (GB : FnOk P w K mg base CX0 2 fB fdB ["value", "low", "high"] spBtw) (hc : cs.length ≤ 100) : FnOk P w K mg base CX0 4 f fd ["part", "word", "arguments"] (spQ (okCnt cs) (wordB cs)) := by
  refine F.ok sc_aword (fun vs H Q E h => ?_) (fun cdv A outer s H vs Q E hr h => ?_)
  · obtain ⟨a0, a, ps, z, xs, as, rfl, _⟩ := h
    rfl
  · obtain ⟨a0, a, ps, z, xs, as, rfl, h0, ⟨x0, x1, r, rfl, hd1⟩, hz, ha, hx, q⟩ := h
    have hu0 := hr.units0
    have hr2 : Room 2 _ := hr.mono (by decide)
    refine ⟨_, (pss_cons (ps_set (i := 3) sc_aword.nd rfl (Or.inl rfl) (pe_ix ix_tup (pv 0) pe_int (fun _ _ => rfl)))
      (pss_cons (ps_set (i := 4) sc_aword.nd rfl (Or.inl rfl) (pe_callB (cr_sum rfl) (by rfl) N.sum boot_sum (pa_cons (pe_lc (own := [("pair", 7)]) (g := (gName 7)) (tt := tYes) (te := tOp (rIxT K) (tVar 7) (tC (.int 1))) rfl sc_aword.nd (pi_tup (pv 3)) (blkOk_by (N := ["part", "word", "arguments", "counts", "n", "letter", "occurrence", "pair"]) (sc := defScope s_aword) (by decide +kernel))
          (fun _ _ _ _ _ => (pg_name (i := 7) sc_aword.nd rfl (Or.inl rfl))) (fun _ _ _ _ _ => pts_nil) (fun _ _ _ _ _ => (pe_ix ix_tup (pv 7) pe_int (fun _ _ => rfl)))) pa_nil)))
      (pss_cons (ps_if (PW.pt (pw_and (pt_cmpR op_eq (pv 1) pe_str (nomark _)) (pw_and1 (pt_cmpR op_eq (pe_callB call_len_seq (by rfl) N.len PySem.boot_len (pa_cons (pv 2) pa_nil)) pe_int (nomark _)))))
        (pss_cons (ps_asg (pv 2) (pg_tup rfl (pgs_cons (pg_name (i := 5) sc_aword.nd rfl (Or.inr rfl)) (pgs_cons (pg_name (i := 6) sc_aword.nd rfl (Or.inr rfl)) pgs_nil))))
        (pss_one (ps_ret (pe_callB (cr_any rfl) (by rfl) N.any boot_any (pa_cons (pe_lc (own := [("pair", 7)]) (g := (gName 7)) (tt := tYes) (te := tAndV (tOp rEqStr (tVar 5) (tOp (rIxT K) (tVar 7) (tC (.int 0)))) (tCall spBtw [] E0 (tCons (tVar 6) (tCons (tC (.int 0)) (tCons (tOp (rI0 fun i j => .int (i - j)) (tOp (rIxT K) (tVar 7) (tC (.int 1))) (tC (.int 1))) tNil))))) rfl sc_aword.nd (pi_tup (pv 3)) (blkOk_by (N := ["part", "word", "arguments", "counts", "n", "letter", "occurrence", "pair"]) (sc := defScope s_aword) (by decide +kernel))
          (fun _ _ _ _ _ => (pg_name (i := 7) sc_aword.nd rfl (Or.inl rfl))) (fun _ _ _ _ _ => pts_nil) (fun _ _ _ _ _ => (pe_and (pe_cmpR (op_eqStr hu0) (pv 5) (pe_ix ix_tup (pv 7) pe_int (fun _ _ => rfl)) (nomark _)) (pe_one (pe_call GB hr2 rfl B.g B.F.kp B.b .nil pass0 (pa_cons (pv 6) (pa_cons pe_int (pa_cons (pe_op op_sub (pe_ix ix_tup (pv 7) pe_int (fun _ _ => rfl)) pe_int) pa_nil)))))))) pa_nil)))))
        pss_nil)
      (pss_one (ps_ret (pe_call G hr rfl T.g T.F.kp T.b .nil pass0 (pa_cons (pe_disp (pps_cons pe_str (pe_op op_sub (pv 4) pe_int) (pps_cons pe_str (pv 4) (pps_cons pe_str (pe_op op_sub (pv 4) pe_int) pps_nil))) (by rfl) (by rfl) (fun z => by cases z) (by decide)) (pa_cons (pv 1) (pa_cons (pv 2) pa_nil))))))))), ?_⟩
    obtain ⟨bc, xc, rfl, hbc, hxc⟩ : ∃ (bc : Addr) (xc : List V), x1 = .ref bc ∧ TP H bc xc ∧ DatAll H xc (cs.map cntD) := by
      cases hd1 with
      | @tup b ys _ hb hy => exact ⟨b, ys, rfl, hb, hy⟩
    have lc := hxc.len
    rw [List.length_map] at lc
    refine ⟨_, rfl, a0, _, _, _, rfl, rfl, sqT_rd h0, atI_nat (j := 1) rfl, ?_⟩
    refine ⟨_, rfl, bc, rfl, ⟨_, sqT_rd hbc⟩, fun D nD => lc_map (K := K) (fun d => .int (cN d)) hbc hxc (by omega) nD (fun i x d Hx hi hdi td S R hR => ?_) mono_name fun H1 S1 hD => ?_⟩
    · obtain ⟨c, hc', rfl⟩ := List.mem_map.mp (List.mem_of_getElem? hdi)
      obtain ⟨b, rfl, hb⟩ := cnt_at td
      exact ⟨rfl, _, rfl, b, _, _, _, rfl, rfl, sqT_rd hb, atI_nat (j := 1) rfl, hR Hx (Same.refl Hx)⟩
    refine ⟨D, cs.map fun c => (c.2 : Int), rfl, by rw [← sum_len10]; exact SqL.of hD, ?_⟩
    have q1 := fun H' S' => q H' (S1.trans S')
    have e1 : decide (V.str z = V.str "select") = decide (z = "select") := by
      by_cases h : z = "select"
      · rw [decide_eq_true h, decide_eq_true (by rw [h])]
      · rw [decide_eq_false h, decide_eq_false fun y => h (by injection y)]
    have e2 : decide (V.int ((xs.length : Nat) : Int) = V.int 2) = decide (as.length = 2) := by
      rw [hx.len]
      by_cases h : as.length = 2
      · rw [decide_eq_true h, decide_eq_true (by rw [h]; rfl)]
      · rw [decide_eq_false h, decide_eq_false fun y => h (by have := V.int.inj y; omega)]
    have rest : (decide (z = "select") && decide (as.length = 2)) = false → ∀ (G' : VK), (∀ H', Same H1 H' → G' (.bl (takesB [("letter", totC cs - 1), ("prefix", totC cs), ("entry", totC cs - 1)] z as)) H') → ∀ p, H1 p = none → (kvT [("letter", totC cs - 1), ("prefix", totC cs), ("entry", totC cs - 1)]).length ≤ 15 ∧
        ∃ H2, H2 = upd (upd H1 p (.dK [])) p (.dK (mergeK [] (kvT [("letter", totC cs - 1), ("prefix", totC cs), ("entry", totC cs - 1)]))) ∧ H2 p = some (.dK (kvT [("letter", totC cs - 1), ("prefix", totC cs), ("entry", totC cs - 1)])) ∧ Same H1 H2 := fun _ G' _ p np =>
      ⟨(by show 3 ≤ 15; decide), _, rfl, upd_same, disp_same np⟩
    refine ⟨_, rfl, rfl, _, rfl, ?_⟩
    rw [e1]
    have fin : (decide (z = "select") && decide (as.length = 2)) = false → ∀ p, H1 p = none → ∃ H2, H2 = upd (upd H1 p (.dK [])) p (.dK (mergeK [] (kvT [("letter", totC cs - 1), ("prefix", totC cs), ("entry", totC cs - 1)]))) ∧ spTakes [.ref p, .str z, .ref a] H2 Q E0 := fun hb p np => by
      obtain ⟨_, H2, e, g, S⟩ := rest hb Q (fun H' S' => by
        have z1 := q1 H' S'
        unfold wordB at z1
        rw [hb] at z1
        exact z1) p np
      refine ⟨H2, e, p, a, _, z, xs, as, rfl, g, upR (upR ha S1) S, (hx.same S1).same S, fun H' S' => ?_⟩
      have z1 := q1 H' (S.trans S')
      unfold wordB at z1
      rw [hb] at z1
      exact z1
    cases ez : decide (z = ("select" : Str)) with
    | false =>
      refine if_f rfl (if_f rfl ?_)
      refine fun p np => ⟨_, rfl, _, _, rfl, rfl, _, rfl, _, rfl, _, _, rfl, rfl, upd_same, kvT [("letter", totC cs - 1), ("prefix", totC cs), ("entry", totC cs - 1)], rfl, (by show 3 ≤ 15; decide), _, rfl, _, rfl, ?_⟩
      obtain ⟨H2, e, sp⟩ := fin (by rw [ez]; rfl) p np
      rw [e] at sp
      exact sp
    | true =>
      refine if_t rfl ⟨_, rfl, a, xs, rfl, .inr (sqT_rd (upR ha S1)), rfl, _, rfl, ?_⟩
      rw [e2]
      cases el : decide (as.length = 2) with
      | false =>
        refine if_f rfl ?_
        refine fun p np => ⟨_, rfl, _, _, rfl, rfl, _, rfl, _, rfl, _, _, rfl, rfl, upd_same, kvT [("letter", totC cs - 1), ("prefix", totC cs), ("entry", totC cs - 1)], rfl, (by show 3 ≤ 15; decide), _, rfl, _, rfl, ?_⟩
        obtain ⟨H2, e, sp⟩ := fin (by rw [ez, el]; rfl) p np
        rw [e] at sp
        exact sp
      | true =>
        refine if_t rfl ?_
        have hl2 := of_decide_eq_true el
        match as, xs, hx, hl2, q1 with
        | [l, o], [xl, xo], .cons dl (.cons dO .nil), _, q1 =>
          refine ⟨_, rfl, a, _, rfl, sqT_rd (upR ha S1), rfl, _, _, rfl, _, _, rfl, rfl, ?_⟩
          refine ⟨_, rfl, bc, rfl, ⟨_, sqT_rd (upR hbc S1)⟩, fun D2 nD2 => lc_map (K := K) (fun d => .bl (eqStr (cS d) l && btw 0 (cN d - 1) o)) (upR hbc S1) (hxc.same S1) (by omega) nD2 (fun i x d Hx hi hdi td S R hR => ?_) mono_name fun H2 S2 hD2 => ?_⟩
          · obtain ⟨c, hc', rfl⟩ := List.mem_map.mp (List.mem_of_getElem? hdi)
            obtain ⟨b, rfl, hb⟩ := cnt_at td
            refine ⟨rfl, _, rfl, _, rfl, b, _, _, _, rfl, rfl, sqT_rd hb, atI_nat (j := 0) rfl, l, c.1, (dl.same S1).same S, rfl, _, rfl, ?_⟩
            have hR' : ∀ H', Same Hx H' → R (.bl (eqStr c.1 l && btw 0 ((c.2 : Int) - 1) o)) H' := hR
            cases e : eqStr c.1 l with
            | false =>
              rw [e] at hR'
              exact if_f rfl (hR' Hx (Same.refl Hx))
            | true =>
              rw [e] at hR'
              exact if_t rfl ⟨_, rfl, _, rfl, b, _, _, _, rfl, rfl, sqT_rd hb, atI_nat (j := 1) rfl, _, _, rfl, rfl, xo, o, 0, _, rfl, (dO.same S1).same S, hR'⟩
          · refine ⟨D2, cs.map fun c => (eqStr c.1 l && btw 0 ((c.2 : Int) - 1) o), rfl, by rw [← sel_any]; exact SqL.of hD2, ?_⟩
            have z1 := q1 H2 S2
            unfold wordB at z1
            rw [ez] at z1
            have e3 : ((cs.map fun c => (eqStr c.1 l && btw 0 ((c.2 : Int) - 1) o)).any id) = selB cs l o := by
              unfold selB
              rw [List.any_map]
              rfl
            rw [e3]
            exact z1
end
end K9
set_option maxRecDepth 100000
set_option maxHeartbeats 8000000
namespace K9
open PySem PySem.Spec PyProof.Rows L2
abbrev sName : Stmt := top 5
abbrev sAsc : Stmt := top 7
/-! ### names -/
/-- one sign from a to z -/
def azB (c : Nat) : Bool := !decide ([c] < ("a" : Str).cps.toList) && !decide (("z" : Str).cps.toList < [c])
def nameS (s : Str) : Bool := decide (1 ≤ (s.length : Int)) && decide ((s.length : Int) ≤ 6) && s.cps.toList.all azB
def nameB : PyData → Bool
  | .str s => nameS s
  | _ => false
section
variable {P : Program} {w : World} {K : PySem.W.Frag} {mg : Str → Option Value} {base : Heap}
theorem scName : FnScope ["value", "letter"] ["value"] (defScope sName) := ⟨rfl, rfl, rfl, by decide +kernel, rfl, by decide +kernel, by decide +kernel⟩
theorem ok_name {f : Addr} {fd : FuncData} (F : Fun K "is_name" "is_name" sName f fd) (T : Nm mg) (c6 : ∃ t, mg "LONGEST_NAME" = some (.int 6 t)) : FnOk P w K mg base CX0 1 f fd ["value"] (spP nameB) := by
  obtain ⟨t6, c6⟩ := c6
  refine F.ok scName (fun vs H Q E h => ?_) (fun cdv A outer s H vs Q E hr h => ?_)
  · obtain ⟨v, d, rfl, _⟩ := h
    rfl
  · obtain ⟨v, d, rfl, hd, q⟩ := h
    refine ⟨_, pss_cons (ps_if (PW.pt (pw_or (pt_not (pt_val (pe_callB call_isi (by rfl) T.isinstance boot_isinstance (pa_cons (pv 0) (pa_cons (pe_bltn (v := .ty "str") rfl T.str (by decide +kernel) rfl) pa_nil)))))
        (pw_or1 (pt_not (pt_chain op_le op_le pe_int (pe_callB call_len_str (by rfl) T.len PySem.boot_len (pa_cons (pv 0) pa_nil)) (pe_glob (v := .int 6) rfl c6 ⟨_, rfl⟩)))))) (pss_one (ps_ret pe_bl)) pss_nil)
      (pss_one (ps_ret (pe_callB (cr_all rfl) (by rfl) T.all boot_all (pa_cons (pe_lc (own := [("letter", 1)]) (g := gName 1) (tt := tYes) rfl scName.nd (pi_str (pv 0)) (blkOk_by (N := ["value", "letter"]) (sc := defScope sName) (by decide +kernel))
        (fun _ _ _ _ _ => pg_name (i := 1) scName.nd rfl (Or.inl rfl)) (fun _ _ _ _ _ => pts_nil) (fun _ _ _ _ _ => pe_chain op_le_str op_le_str pe_str (pv 1) pe_str)) pa_nil)))), ?_⟩
    refine ⟨_, rfl, v, .ty "str", _, _, _, rfl, .ty _, hd.ty, kit_str _ d, _, rfl, ?_⟩
    have q0 := q H fun _ _ e => e
    cases d with
    | str x =>
      cases hd with
      | str _ hx =>
        refine if_f rfl ⟨_, rfl, x, rfl, Nat.le_trans hx (by decide), _, _, rfl, rfl, _, rfl, ?_⟩
        by_cases h1 : (1 : Int) ≤ (x.length : Int)
        · rw [if_pos (decide_eq_true h1)]
          refine ⟨_, _, rfl, rfl, _, rfl, ?_⟩
          by_cases h6 : (x.length : Int) ≤ 6
          · refine if_f (by rw [decide_eq_true h6]; rfl) ?_
            refine ⟨_, rfl, x, rfl, fun D nD => lc_it (walk_str (z := x)) (fun j Hx => Same H Hx ∧ Hx D = some (.lst ((x.cps.toList.take j).map fun c => V.bl (azB c)))) ⟨same_new nD, upd_same⟩ (fun _ _ _ _ => trivial) ?_ ?_⟩
            · rintro j y Hx Hy hj ⟨S, hD⟩ ⟨rfl, c, hc, rfl⟩
              have hcl : x.cps.toList[j]? = some c := by simpa using hc
              have et : (x.cps.toList.take (j + 1)).map (fun c => V.bl (azB c)) = (x.cps.toList.take j).map (fun c => V.bl (azB c)) ++ [V.bl (azB c)] := by
                rw [List.take_add_one, hcl]
                simp
              have fin : ∀ b : Bool, b = azB c → ∃ acc, Hy D = some (.lst acc) ∧ acc.length < sizeLine ∧ Same H (upd Hy D (.lst (acc ++ [V.bl b]))) ∧ upd Hy D (.lst (acc ++ [V.bl b])) D = some (.lst ((x.cps.toList.take (j + 1)).map fun c => V.bl (azB c))) := by
                rintro b rfl
                refine ⟨_, hD, ?_, grow nD S, by rw [upd_same, et]⟩
                rw [List.length_map, List.length_take, sizeLine_eq]
                have : j < x.cps.size := hj
                have : x.cps.size = x.length := rfl
                omega
              refine ⟨rfl, _, rfl, _, _, rfl, rfl, _, rfl, ?_⟩
              by_cases ha : [c] < ("a" : Str).cps.toList
              · refine if_f (by rw [decide_eq_true ha]; rfl) (fin _ ?_)
                unfold azB
                rw [decide_eq_true ha]
                rfl
              · refine if_t (by rw [decide_eq_false ha]; rfl) ⟨_, _, rfl, rfl, fin _ ?_⟩
                unfold azB
                rw [decide_eq_false ha]
                rfl
            · rintro Hx ⟨S, hD⟩
              have el : x.cps.toList.take x.cps.size = x.cps.toList := List.take_of_length_le (by simp)
              rw [el] at hD
              have q1 := q Hx S
              have e : nameB (.str x) = x.cps.toList.all azB := by
                show (decide (1 ≤ (x.length : Int)) && decide ((x.length : Int) ≤ 6) && x.cps.toList.all azB) = _
                rw [decide_eq_true h1, decide_eq_true h6]
                rfl
              rw [e] at q1
              refine ⟨D, x.cps.toList.map azB, rfl, SqL.of (by rw [hD, List.map_map]; rfl), ?_⟩
              rw [List.all_map]
              exact q1
          · refine if_t (by rw [decide_eq_false h6]; rfl) ?_
            have e : nameB (.str x) = false := by
              show (decide (1 ≤ (x.length : Int)) && decide ((x.length : Int) ≤ 6) && x.cps.toList.all azB) = _
              rw [decide_eq_true h1, decide_eq_false h6]
              rfl
            rw [e] at q0
            exact q0
        · rw [if_neg (by rw [decide_eq_false h1]; exact Bool.false_ne_true)]
          refine ⟨_, rfl, if_t rfl ?_⟩
          have e : nameB (.str x) = false := by
            show (decide (1 ≤ (x.length : Int)) && decide ((x.length : Int) ≤ 6) && x.cps.toList.all azB) = _
            rw [decide_eq_false h1]
            rfl
          rw [e] at q0
          exact q0
    | int i => exact if_t rfl (if_t rfl q0)
    | bool b => exact if_t rfl (if_t rfl q0)
    | none => exact if_t rfl (if_t rfl q0)
    | tuple ds => exact if_t rfl (if_t rfl q0)
    | list ds => exact if_t rfl (if_t rfl q0)
    | dict kv => exact if_t rfl (if_t rfl q0)
end
/-! ### such values as the machine reads them -/
section
variable {P : Program} {w : World} {H : Hp} {h : Heap}
mutual
theorem Dat.reads (ok : HOk P w H h) : ∀ {v : V} {d : PyData} {u : Value}, Dat H v d → RelV v u → ∃ as, Reads h u d as
  | _, _, _, .non, r => ⟨[], by cases r; exact .none⟩
  | _, _, _, .bl b, r => ⟨[], by cases r; exact .bool b⟩
  | _, _, _, .int i, r => ⟨[], by obtain ⟨t, rfl⟩ := r; exact .int i t⟩
  | _, _, _, .str x _, r => ⟨[], by obtain ⟨t, rfl⟩ := r; exact .str x t⟩
  | _, _, _, .lst (a := a) (xs := xs) e t, r => by
    cases r
    obtain ⟨_, its, n, rv, ho⟩ := (show ObjOk P w H h a (.lst xs) from ok a _ e)
    obtain ⟨as, ra⟩ := DatAll.reads ok t rv
    exact ⟨_, .list ho rfl rfl ra⟩
  | _, _, _, .tup (a := a) (xs := xs) e t, r => by
    cases r
    obtain ⟨_, its, rv, o, ho, hc, m, hd⟩ := (show ObjOk P w H h a (.tup xs) from Rd.ok e.lk ok)
    obtain ⟨as, ra⟩ := DatAll.reads ok t rv
    exact ⟨_, .tuple ho hc hd ra⟩
  | _, _, _, .d0 (a := a) e, r => by
    cases r
    obtain ⟨_, ns, vs, kv, o, es, ep, ho, hx, hd, hk, hp, _⟩ := (show ObjOk P w H h a (.dK []) from ok a _ e)
    cases kv
    have e0 : es.toList = [] := by
      generalize es.toList = l at hp
      cases hp
      rfl
    exact ⟨a :: [] ++ [], .dict (kvs := []) ho hx.1 hd (by rw [e0]; exact .nil) (by rw [e0]; exact .nil)⟩
theorem DatAll.reads (ok : HOk P w H h) : ∀ {vs : List V} {ds : List PyData} {us : List Value}, DatAll H vs ds → Vals vs us → ∃ as, ReadsAll h us ds as
  | _, _, _, .nil, .nil => ⟨[], .nil⟩
  | _, _, _, .cons t ts, .cons r rs => by
    obtain ⟨as, ra⟩ := Dat.reads ok t r
    obtain ⟨bs, rb⟩ := DatAll.reads ok ts rs
    exact ⟨as ++ bs, .cons ra rb⟩
end
end
/-! ### < of two values of one form -/
section
variable {X : Cx}
def rLtDat : R2 := fun x y H Q => ∃ d e, Dat H x d ∧ Dat H y e ∧ PySem.W.alike d e = true ∧ d ≠ .none ∧ d.depth ≤ 60 ∧ Q (.bl (PySem.W.dataLt d e)) H
theorem op_ltDat (hu : X.A.units + 64 < cLine) : OpR X (compareOp .Lt) rLtDat := by
  intro pins s σ H x y v u Q I rx ry h
  obtain ⟨d, e, hd, he, ha, hn, hz, q⟩ := h
  obtain ⟨as, r1⟩ := hd.reads I.hok rx
  obtain ⟨bs, r2⟩ := he.reads I.hok ry
  exact PySem.W.lt_data r1 r2 ha hn (by omega) ⟨.bl _, H, I, rfl, q⟩
end
/-! ### strictly ascending -/
/-- neighbours that can be compared -/
def AscOk (ds : List PyData) : Prop := ∀ i, i + 1 < ds.length → PySem.W.alike (ds.getD i .none) (ds.getD (i + 1) .none) = true ∧ ds.getD i .none ≠ .none ∧ (ds.getD i .none).depth ≤ 60
def ascB (ds : List PyData) : Bool := (List.range (ds.length - 1)).all fun i => PySem.W.dataLt (ds.getD i .none) (ds.getD (i + 1) .none)
def spAsc : Sp := fun vs H Q _ => ∃ (a : Addr) (xs : List V) (ds : List PyData), vs = [.ref a] ∧ (H a = some (.lst xs) ∨ TP H a xs) ∧ DatAll H xs ds ∧ AscOk ds ∧ ∀ H', Same H H' → Q (.bl (ascB ds)) H'
theorem cut1 (xs : List V) : cutV xs (some 1) none = xs.drop 1 := by
  unfold cutV
  have e1 : HT.sIx xs.length 0 (some 1) = min 1 xs.length := HT.sIx_nat xs.length 0 1
  have e2 : HT.sIx xs.length xs.length none = xs.length := HT.sIx_none _ _
  rw [e1, e2]
  cases xs with
  | nil => rfl
  | cons x l =>
    have e3 : min 1 (x :: l).length = 1 := by
      rw [List.length_cons]
      omega
    rw [e3]
    exact List.take_of_length_le (by simp)
/-- t[1:] -/
theorem slA_of {K : PySem.W.Frag} {H : Hp} {a : Addr} {xs : List V} {Q : VK} (ha : TP H a xs) (hq : ∀ (b : Addr) (Hb : Hp), Same H Hb → TP Hb b (xs.drop 1) → Q (.ref b) Hb) : rSlA K (.ref a) (some 1) none H Q := by
  refine ⟨a, xs, rfl, sqT_rd ha, fun z => ?_, fun _ p np => ?_⟩
  · have e1 : HT.sIx xs.length 0 (some 1) = min 1 xs.length := HT.sIx_nat xs.length 0 1
    have e2 : min 1 xs.length = 0 := e1.symm.trans z.1
    cases xs with
    | nil => exact hq a H (fun _ _ e => e) ha
    | cons x l =>
      rw [List.length_cons] at e2
      omega
  · rw [cut1]
    exact hq p _ (same_new np) (TP.of upd_same)
section
variable {K : PySem.W.Frag} {a b : Addr} {xs ys : List V}
theorem walk_zip2 {n : Nat} (hn : n = min xs.length ys.length) : Walk (RZ.ItzT K a b) n (fun H => SqT K H a xs ∧ SqT K H b ys) (YPair (fun i => xs[i]?) (fun i => ys[i]?)) := by
  subst hn
  constructor
  · intro i _ hi q
    exact ⟨xs, ys, xs[i]'(by omega), ys[i]'(by omega), q.1, q.2, List.getElem?_eq_getElem (by omega), List.getElem?_eq_getElem (by omega)⟩
  · intro _ q
    exact ⟨xs, ys, q.1, q.2, by omega⟩
  · intro i H v H' _ q y
    obtain ⟨T, x, z, e1, e2, e3, e4, e5⟩ := y
    exact ⟨T, x, z, e1, e2, e3, e4 _ q.1, e5 _ q.2⟩
end
section
variable {P : Program} {w : World} {K : PySem.W.Frag} {mg : Str → Option Value} {base : Heap}
theorem scAsc : FnScope ["items", "before", "after"] ["items"] (defScope sAsc) := ⟨rfl, rfl, rfl, by decide +kernel, rfl, by decide +kernel, by decide +kernel⟩
/-- one turn of the list of comparisons -/
theorem asc_turn {H Hx : Hp} {D : Addr} {xs : List V} {ds : List PyData} {j : Nat} {x y : V} {U : Addr} (nD : H D = none) (S : Same H Hx) (hD : Hx D = some (.lst ((List.range j).map fun i => V.bl (PySem.W.dataLt (ds.getD i .none) (ds.getD (i + 1) .none)))))
    (hx : DatAll H xs ds) (ok : AscOk ds) (h1 : xs[j]? = some x) (h2 : (xs.drop 1)[j]? = some y) (hj : j < 1000000) (nU : Hx U = none) :
    rLtDat x y (upd Hx U (.tup [x, y])) (fun z H4 => ∃ acc, H4 D = some (.lst acc) ∧ acc.length < sizeLine ∧ Same H (upd H4 D (.lst (acc ++ [z]))) ∧ upd H4 D (.lst (acc ++ [z])) D = some (.lst ((List.range (j + 1)).map fun i => V.bl (PySem.W.dataLt (ds.getD i .none) (ds.getD (i + 1) .none))))) := by
  have S1 := S.trans (same_new (o := HO.tup [x, y]) nU)
  obtain ⟨d, hd, td⟩ := hx.get h1
  have h2' : xs[j + 1]? = some y := by
    rw [List.getElem?_drop] at h2
    rw [Nat.add_comm]
    exact h2
  obtain ⟨e, he, te⟩ := hx.get h2'
  have g1 : ds.getD j .none = d := by rw [List.getD_eq_getElem?_getD, hd]; rfl
  have g2 : ds.getD (j + 1) .none = e := by rw [List.getD_eq_getElem?_getD, he]; rfl
  have hlt : j + 1 < ds.length := by
    have z := (List.getElem?_eq_some_iff.mp he).1
    exact z
  obtain ⟨o1, o2, o3⟩ := ok j hlt
  rw [g1, g2] at o1
  rw [g1] at o2 o3
  refine ⟨d, e, td.same S1, te.same S1, o1, o2, o3, _, same_new nU _ _ hD, ?_, grow nD S1, ?_⟩
  · rw [List.length_map, List.length_range, sizeLine_eq]
    omega
  · rw [upd_same, List.range_succ, List.map_append]
    show _ = some (HO.lst (_ ++ [V.bl (PySem.W.dataLt (ds.getD j .none) (ds.getD (j + 1) .none))]))
    rw [g1, g2]
theorem ok_asc {f : Addr} {fd : FuncData} (F : Fun K "is_ascending" "is_ascending" sAsc f fd) (T : Nm mg) : FnOk P w K mg base CX0 1 f fd ["items"] (fun vs H Q E => spAsc vs H Q E ∧ ∀ a xs, (H a = some (.lst xs) ∨ TP H a xs) → vs = [.ref a] → xs.length < 1000000) := by
  refine F.ok scAsc (fun vs H Q E h => ?_) (fun cdv A outer s H vs Q E hr h => ?_)
  · obtain ⟨⟨a, xs, ds, rfl, _⟩, _⟩ := h
    rfl
  · obtain ⟨⟨a, xs, ds, rfl, ha, hx, ok, q⟩, hz⟩ := h
    have hu := hr.units
    have hl := hz a xs ha rfl
    have hlen : min xs.length (xs.drop 1).length = ds.length - 1 := by
      rw [List.length_drop, hx.len]
      omega
    have fin : ∀ {D : Addr} {Hx : Hp} {Q' : VK}, (∀ H', Same H H' → Q' (.bl (ascB ds)) H') → Same H Hx → Hx D = some (.lst ((List.range (ds.length - 1)).map fun i => V.bl (PySem.W.dataLt (ds.getD i .none) (ds.getD (i + 1) .none)))) → rAll K [.ref D] Hx Q' := by
      intro D Hx Q' q' S hD
      refine ⟨D, (List.range (ds.length - 1)).map fun i => PySem.W.dataLt (ds.getD i .none) (ds.getD (i + 1) .none), rfl, SqL.of (by rw [hD, List.map_map]; rfl), ?_⟩
      rw [List.all_map]
      exact q' Hx S
    rcases ha with ha | ha
    · refine ⟨_, pss_one (ps_ret (pe_callB (cr_all rfl) (by rfl) T.all boot_all (pa_cons (pe_lc (own := [("before", 1), ("after", 2)]) (g := gTup K 2 (gCons (gName 1) (gCons (gName 2) gNil))) (tt := tYes) rfl scAsc.nd
          (RZ.pi_zipA rfl T.zip (pa_cons (pv 0) (pa_cons (pe_slice sl_list (pv 0) (po_some pe_int) po_none) pa_nil))) (blkOk_by (N := ["items", "before", "after"]) (sc := defScope sAsc) (by decide +kernel))
          (fun _ _ _ _ _ => pg_tup rfl (pgs_cons (pg_name (i := 1) scAsc.nd rfl (Or.inl rfl)) (pgs_cons (pg_name (i := 2) scAsc.nd rfl (Or.inl rfl)) pgs_nil))) (fun _ _ _ _ _ => pts_nil) (fun _ _ _ _ _ => pe_cmpR (op_ltDat hu) (pv 1) (pv 2) (nomark _))) pa_nil))), ?_⟩
      refine ⟨_, rfl, _, rfl, 1, rfl, a, xs, rfl, SqL.of ha, fun b nb => ?_⟩
      rw [cut1]
      have Sb := same_new (o := HO.lst (xs.drop 1)) nb
      have hb : upd H b (.lst (xs.drop 1)) b = some (.lst (xs.drop 1)) := upd_same
      generalize upd H b (.lst (xs.drop 1)) = Hb at Sb hb ⊢
      refine ⟨a, b, xs, xs.drop 1, rfl, .inl ⟨SqL.of (Sb _ _ ha), SqL.of hb, fun D nD => lc_it (walk_zip (K := K) (a := a) (b := b) (xs := xs) (ys := xs.drop 1) hlen.symm) (fun j Hx => Same Hb Hx ∧ Hx D = some (.lst ((List.range j).map fun i => V.bl (PySem.W.dataLt (ds.getD i .none) (ds.getD (i + 1) .none)))))
        ⟨same_new nD, upd_same⟩ (fun j Hx _ ⟨S, _⟩ => ⟨SqL.of (S _ _ (Sb _ _ ha)), SqL.of (S _ _ hb)⟩) ?_ ?_⟩⟩
      · rintro j z Hx Hy hj ⟨S, hD⟩ ⟨U, x, y, rfl, nU, rfl, h1, h2⟩
        exact ⟨U, _, rfl, SqT.of upd_same, rfl, _, _, rfl, _, _, rfl, rfl, rfl, _, rfl, _, rfl, asc_turn nD S hD (hx.same Sb) ok h1 h2 (by omega) nU⟩
      · rintro Hx ⟨S, hD⟩
        exact fin q (Sb.trans S) hD
    · refine ⟨_, pss_one (ps_ret (pe_callB (cr_all rfl) (by rfl) T.all boot_all (pa_cons (pe_lc (own := [("before", 1), ("after", 2)]) (g := gTup K 2 (gCons (gName 1) (gCons (gName 2) gNil))) (tt := tYes) rfl scAsc.nd
          (RZ.pi_zipA rfl T.zip (pa_cons (pv 0) (pa_cons (pe_slice sl_tupA (pv 0) (po_some pe_int) po_none) pa_nil))) (blkOk_by (N := ["items", "before", "after"]) (sc := defScope sAsc) (by decide +kernel))
          (fun _ _ _ _ _ => pg_tup rfl (pgs_cons (pg_name (i := 1) scAsc.nd rfl (Or.inl rfl)) (pgs_cons (pg_name (i := 2) scAsc.nd rfl (Or.inl rfl)) pgs_nil))) (fun _ _ _ _ _ => pts_nil) (fun _ _ _ _ _ => pe_cmpR (op_ltDat hu) (pv 1) (pv 2) (nomark _))) pa_nil))), ?_⟩
      refine ⟨_, rfl, _, rfl, 1, rfl, ?_⟩
      dsimp only [tNoPart]
      refine slA_of ha fun b Hb Sb hb => ?_
      refine ⟨a, b, xs, xs.drop 1, rfl, .inr ⟨sqT_rd (upR ha Sb), sqT_rd hb, fun D nD => lc_it (walk_zip2 (K := K) (a := a) (b := b) (xs := xs) (ys := xs.drop 1) hlen.symm) (fun j Hx => Same Hb Hx ∧ Hx D = some (.lst ((List.range j).map fun i => V.bl (PySem.W.dataLt (ds.getD i .none) (ds.getD (i + 1) .none)))))
        ⟨same_new nD, upd_same⟩ (fun j Hx _ ⟨S, _⟩ => ⟨sqT_rd (upR (upR ha Sb) S), sqT_rd (upR hb S)⟩) ?_ ?_⟩⟩
      · rintro j z Hx Hy hj ⟨S, hD⟩ ⟨U, x, y, rfl, nU, rfl, h1, h2⟩
        exact ⟨U, _, rfl, SqT.of upd_same, rfl, _, _, rfl, _, _, rfl, rfl, rfl, _, rfl, _, rfl, asc_turn nD S hD (hx.same Sb) ok h1 h2 (by omega) nU⟩
      · rintro Hx ⟨S, hD⟩
        exact fin q (Sb.trans S) hD
end
end K9
set_option maxRecDepth 100000
set_option maxHeartbeats 8000000
namespace K9
open PySem PySem.Spec PyProof.Rows L2
abbrev sIsState : Stmt := top 12
abbrev sAreStates : Stmt := top 13
/-! ### [p(x) for x in a tuple] -/
theorem lc_all {K : PySem.W.Frag} {H : Hp} {a : Addr} {xs : List V} {ds : List PyData} {g : TG} {te : TE} {vs : List Nat} {σ : L2.St} {D : Addr} {Qd : Hp → Prop} (p : PyData → Bool) (ha : TP H a xs) (hx : DatAll H xs ds) (hz : xs.length ≤ 1000000) (nD : H D = none)
    (hs : ∀ (i : Nat) (x : V) (d : PyData) (Hx : Hp), xs[i]? = some x → ds[i]? = some d → Dat Hx x d → Same H Hx → ∀ R : VK, (∀ H', Same Hx H' → R (.bl (p d)) H') → g x (wipe σ vs) Hx fun σ2 H2 => wipe σ2 vs = wipe σ vs ∧ te σ2 H2 R)
    (mono : ∀ (x : V) (Hx : Hp) (A B : L2.St → Hp → Prop), (∀ σ2 H2, A σ2 H2 → B σ2 H2) → g x (wipe σ vs) Hx A → g x (wipe σ vs) Hx B)
    (hd : ∀ Hx, Same H Hx → Hx D = some (.lst ((ds.map p).map V.bl)) → Qd Hx) :
    ∃ W : Nat → Nat → Hp → Prop, (∃ m, W 0 m (upd H D (.lst []))) ∧ ∀ i m H, W i m H →
      ((Itt K a).stop i H ∧ Qd H) ∨ ((Itt K a).go i H ∧ ∃ Nx : Hp → Prop, (∀ H', Nx H' → ∃ m', m' < m ∧ W (i + 1) m' H') ∧ ∀ x H', (Itt K a).yld i H x H' → g x (wipe σ vs) H' fun σ2 H2 => wipe σ2 vs = wipe σ vs ∧ tYes σ2 H2 fun b H3 =>
        if b = true then te σ2 H3 fun y H4 => ∃ acc, H4 D = some (.lst acc) ∧ acc.length < sizeLine ∧ Nx (upd H4 D (.lst (acc ++ [y]))) else Nx H3) := by
  refine lc_tup (K := K) (a := a) (xs := xs) (fun j Hx => Same H Hx ∧ Hx D = some (.lst (((ds.take j).map p).map V.bl))) ⟨same_new nD, upd_same⟩ (fun j Hx _ ⟨S, _⟩ => sqT_rd (upR ha S)) ?_ ?_
  · rintro i x Hx hi ⟨S, hD⟩
    obtain ⟨d, hdi, td⟩ := hx.get hi
    refine mono x Hx _ _ (fun σ2 H2 h => ⟨h.1, ?_⟩) (hs i x d Hx hi hdi (td.same S) S (fun y H4 => ∃ acc, H4 D = some (.lst acc) ∧ acc.length < sizeLine ∧ Same H (upd H4 D (.lst (acc ++ [y]))) ∧ upd H4 D (.lst (acc ++ [y])) D = some (.lst (((ds.take (i + 1)).map p).map V.bl))) fun H' S' => ?_)
    · dsimp only [tYes]
      first
        | exact if_t rfl h.2
        | exact h.2
    · have hi' : i < xs.length := (List.getElem?_eq_some_iff.mp hi).1
      refine ⟨_, S' _ _ hD, ?_, grow nD (S.trans S'), ?_⟩
      · rw [List.length_map, List.length_map, List.length_take, sizeLine_eq]
        omega
      · rw [upd_same, List.take_add_one, hdi]
        simp
  · rintro Hx ⟨S, hD⟩
    refine hd Hx S ?_
    rw [hD, hx.len, List.take_of_length_le (Nat.le_refl _)]
theorem all_bools {K : PySem.W.Frag} {H : Hp} {D : Addr} {bs : List Bool} {Q : VK} (h : H D = some (.lst (bs.map V.bl))) (q : Q (.bl (bs.all id)) H) : rAll K [.ref D] H Q := ⟨D, bs, rfl, SqL.of h, q⟩
def tupItems : PyData → List PyData
  | .tuple ds => ds
  | _ => []
def statesB (d : PyData) : Bool := tupOf 0 8 d && ((tupItems d).all (btw 0 7) && ascB (tupItems d))
theorem tupOf_len {lo hi : Int} {d : PyData} (h : tupOf lo hi d = true) : ∃ ds, d = .tuple ds ∧ lo ≤ (ds.length : Int) ∧ (ds.length : Int) ≤ hi := by
  cases d with
  | tuple ds =>
    have h' : (decide (lo ≤ (ds.length : Int)) && decide ((ds.length : Int) ≤ hi)) = true := h
    rw [Bool.and_eq_true] at h'
    exact ⟨ds, rfl, of_decide_eq_true h'.1, of_decide_eq_true h'.2⟩
  | _ => cases h
theorem all_btw {lo hi : Int} {ds : List PyData} (h : ds.all (btw lo hi) = true) : ∀ d ∈ ds, ∃ i, d = .int i := fun d hd => by
  obtain ⟨i, e, _⟩ := btw_int (List.all_eq_true.mp h d hd)
  exact ⟨i, e⟩
theorem asc_ints {ds : List PyData} (h : ∀ d ∈ ds, ∃ i, d = .int i) : AscOk ds := fun i hi => by
  have g : ∀ j, j < ds.length → ∃ z, ds.getD j .none = .int z := fun j hj => by
    obtain ⟨z, e⟩ := h ds[j] (List.getElem_mem hj)
    exact ⟨z, by rw [List.getD_eq_getElem?_getD, List.getElem?_eq_getElem hj]; exact e⟩
  obtain ⟨x, ex⟩ := g i (by omega)
  obtain ⟨y, ey⟩ := g (i + 1) hi
  rw [ex, ey]
  exact ⟨by simp [PySem.W.alike], by simp, by simp [PyData.depth]⟩
theorem scStates : FnScope ["value", "state"] ["value"] (defScope sAreStates) := ⟨rfl, rfl, rfl, by decide +kernel, rfl, by decide +kernel, by decide +kernel⟩
section
variable {P : Program} {w : World} {K : PySem.W.Frag} {mg : Str → Option Value} {base : Heap}
theorem scIsState : FnScope ["value"] ["value"] (defScope sIsState) := ⟨rfl, rfl, rfl, by decide +kernel, rfl, by decide +kernel, by decide +kernel⟩
theorem ok_state {f fB : Addr} {fd fdB : FuncData} (F : Fun K "is_state" "is_state" sIsState f fd) (Z : ∃ t, mg "LAST_STATE" = some (.int 7 t)) (B : DefOk K mg "is_between" sBtw ["value", "low", "high"] fB fdB) (GB : FnOk P w K mg base CX0 2 fB fdB ["value", "low", "high"] spBtw) : FnOk P w K mg base CX0 3 f fd ["value"] (spP (btw 0 7)) := by
  obtain ⟨t, z⟩ := Z
  refine F.ok scIsState (fun vs H Q E h => ?_) (fun cdv A outer s H vs Q E hr h => ?_)
  · obtain ⟨v, d, rfl, _⟩ := h
    rfl
  · obtain ⟨v, d, rfl, hd, q⟩ := h
    refine ⟨_, pss_one (ps_ret (pe_call GB hr rfl B.g B.F.kp B.b .nil pass0 (pa_cons (pv 0) (pa_cons pe_int (pa_cons (pe_glob (v := .int 7) rfl z ⟨_, rfl⟩) pa_nil))))), ?_⟩
    exact ⟨_, rfl, v, d, 0, 7, rfl, hd, q⟩
/-- as for Pre.GA: a tuple that is short -/
theorem asc_tup {H : Hp} {a : Addr} {xs : List V} {ds : List PyData} {Q : VK} {E : XK} (ha : TP H a xs) (hx : DatAll H xs ds) (hz : xs.length < 1000000) (ok : AscOk ds) (q : ∀ H', Same H H' → Q (.bl (ascB ds)) H') :
    spAsc [.ref a] H Q E ∧ ∀ b ys, (H b = some (.lst ys) ∨ TP H b ys) → ([V.ref a] : List V) = [.ref b] → ys.length < 1000000 := by
  refine ⟨⟨a, xs, ds, rfl, .inr ha, hx, ok, q⟩, fun b ys h e => ?_⟩
  injection e with e _
  injection e with e
  subst e
  rcases h with h | h
  · exact (ha.noL h).elim
  · rw [← ha.uniq h]
    exact hz
theorem asc_lst {H : Hp} {a : Addr} {xs : List V} {ds : List PyData} {Q : VK} {E : XK} (ha : H a = some (.lst xs)) (hx : DatAll H xs ds) (hz : xs.length < 1000000) (ok : AscOk ds) (q : ∀ H', Same H H' → Q (.bl (ascB ds)) H') :
    spAsc [.ref a] H Q E ∧ ∀ b ys, (H b = some (.lst ys) ∨ TP H b ys) → ([V.ref a] : List V) = [.ref b] → ys.length < 1000000 := by
  refine ⟨⟨a, xs, ds, rfl, .inl ha, hx, ok, q⟩, fun b ys h e => ?_⟩
  injection e with e _
  injection e with e
  subst e
  rcases h with h | h
  · rw [ha] at h
    cases h
    exact hz
  · exact (h.noL ha).elim
theorem ok_states {f fS : Addr} {fd fdS : FuncData} (F : Fun K "are_states" "are_states" sAreStates f fd) (nm : Nm mg) (Z : ∃ t, mg "LAST_STATE" = some (.int 7 t)) {fT fA : Addr} {dT dA : FuncData} (YT : DefOk K mg "is_tuple" sTup ["value", "least", "most"] fT dT) (YA : DefOk K mg "is_ascending" sAsc ["items"] fA dA) (YGT : FnOk P w K mg base CX0 1 fT dT ["value", "least", "most"] spTup) (YGA : FnOk P w K mg base CX0 1 fA dA ["items"] (fun vs H Q E => spAsc vs H Q E ∧ ∀ a xs, (H a = some (.lst xs) ∨ TP H a xs) → vs = [.ref a] → xs.length < 1000000)) (St : DefOk K mg "is_state" sIsState ["value"] fS fdS) (GS : FnOk P w K mg base CX0 3 fS fdS ["value"] (spP (btw 0 7))) : FnOk P w K mg base CX0 4 f fd ["value"] (spP statesB) := by
  obtain ⟨t, z⟩ := Z
  refine F.ok scStates (fun vs H Q E h => ?_) (fun cdv A outer s H vs Q E hr h => ?_)
  · obtain ⟨v, d, rfl, _⟩ := h
    rfl
  · obtain ⟨v, d, rfl, hd, q⟩ := h
    have hr1 : Room 1 _ := hr.mono (by decide)
    refine ⟨_, pss_cons (ps_if (pt_not (pt_val (pe_call YGT hr1 rfl YT.g YT.F.kp YT.b .nil pass0 (pa_cons (pv 0) (pa_cons pe_int (pa_cons (pe_op op_add (pe_glob (v := .int 7) rfl z ⟨_, rfl⟩) pe_int) pa_nil)))))) (pss_one (ps_ret pe_bl)) pss_nil)
      (pss_one (ps_ret (pe_and (pe_callB (cr_all rfl) (by rfl) nm.all boot_all (pa_cons (pe_lc (own := [("state", 1)]) (g := gName 1) (tt := tYes) rfl scStates.nd (pi_tup (pv 0)) (blkOk_by (N := ["value", "state"]) (sc := defScope sAreStates) (by decide +kernel))
            (fun _ _ _ _ _ => pg_name (i := 1) scStates.nd rfl (Or.inl rfl)) (fun _ _ _ _ _ => pts_nil) (fun _ _ _ _ _ => pe_call GS hr rfl St.g St.F.kp St.b .nil pass0 (pa_cons (pv 1) pa_nil))) pa_nil))
          (pe_one (pe_call YGA hr1 rfl YA.g YA.F.kp YA.b .nil pass0 (pa_cons (pv 0) pa_nil)))))), ?_⟩
    refine ⟨_, rfl, _, _, rfl, rfl, v, d, 0, 8, rfl, hd, fun H1 S1 => ⟨_, rfl, ?_⟩⟩
    have q1 := q H1 S1
    unfold statesB at q q1
    cases h : tupOf 0 8 d with
    | false =>
      rw [h] at q1
      exact if_t rfl q1
    | true =>
      rw [h] at q
      obtain ⟨ds, rfl, _, h8⟩ := tupOf_len h
      cases hd with
      | @tup a xs _ ha hx =>
        have hx1 := hx.same S1
        have hl := hx.len
        refine if_f rfl ⟨_, rfl, a, rfl, ⟨_, sqT_rd (upR ha S1)⟩, fun D nD => lc_all (K := K) (a := a) (xs := xs) (ds := ds) (btw 0 7) (upR ha S1) hx1 (by omega) nD (fun i x d Hx hi hdi td S R hR => ⟨rfl, _, rfl, x, d, rfl, td, hR⟩) mono_name fun Hx S hD => ?_⟩
        refine ⟨D, ds.map (btw 0 7), rfl, SqL.of hD, _, rfl, ?_⟩
        have eAll : (ds.map (btw 0 7)).all id = ds.all (btw 0 7) := by
          rw [List.all_map]
          rfl
        rw [eAll]
        have S2 := S1.trans S
        cases h2 : ds.all (btw 0 7) with
        | false =>
          have q2 : Q (.bl (true && (ds.all (btw 0 7) && ascB ds))) Hx := q Hx S2
          rw [h2] at q2
          exact if_f rfl q2
        | true =>
          refine if_t rfl ⟨_, rfl, asc_tup (upR ha S2) (hx.same S2) (by omega) (asc_ints (all_btw h2)) fun H3 S3 => ?_⟩
          have q3 : Q (.bl (true && (ds.all (btw 0 7) && ascB ds))) H3 := q H3 (S2.trans S3)
          rw [h2] at q3
          exact q3
end
end K9
set_option maxRecDepth 100000
set_option maxHeartbeats 8000000
namespace K9
open PySem PySem.Spec PyProof.Rows L2
abbrev s_aperm : Stmt := top 25
abbrev s_lets : Stmt := top 28
def permB (n : Int) (z : Str) (as : List PyData) : Bool := takesB [("image", n - 1), ("preimage", n - 1)] z as
/-- a tuple of names, ascending (what is_ascending may be asked: short, and all are texts) -/
def letsB (d : PyData) : Bool := isTup d && ((tupItems d).all nameB && ascB (tupItems d))
theorem asc_names {ds : List PyData} (h : ∀ d ∈ ds, ∃ s, d = .str s) : AscOk ds := fun i hi => by
  have g : ∀ j, j < ds.length → ∃ z, ds.getD j .none = .str z := fun j hj => by
    obtain ⟨z, e⟩ := h ds[j] (List.getElem_mem hj)
    exact ⟨z, by rw [List.getD_eq_getElem?_getD, List.getElem?_eq_getElem hj]; exact e⟩
  obtain ⟨x, ex⟩ := g i (by omega)
  obtain ⟨y, ey⟩ := g (i + 1) hi
  rw [ex, ey]
  exact ⟨by simp [PySem.W.alike], by simp, by simp [PyData.depth]⟩
theorem name_is {d : PyData} (h : nameB d = true) : ∃ s, d = .str s := by
  cases d with
  | str s => exact ⟨s, rfl⟩
  | _ => cases h
def spLets : Sp := fun vs H Q _ => ∃ (v : V) (d : PyData), vs = [v] ∧ Dat H v d ∧ (tupItems d).length ≤ 1000 ∧ ∀ H', Same H H' → Q (.bl (letsB d)) H'
section
variable {P : Program} {w : World} {K : PySem.W.Frag} {mg : Str → Option Value} {base : Heap}
theorem sc_aperm : FnScope ["part", "word", "arguments"] ["part", "word", "arguments"] (defScope s_aperm) := ⟨rfl, rfl, rfl, by decide +kernel, rfl, by decide +kernel, by decide +kernel⟩
theorem sc_lets : FnScope ["value", "item"] ["value"] (defScope s_lets) := ⟨rfl, rfl, rfl, by decide +kernel, rfl, by decide +kernel, by decide +kernel⟩
theorem ok_aperm {n : Int} {f fT : Addr} {fd fdT : FuncData} (F : Fun K "asks_permutation" "asks_permutation" s_aperm f fd) (T : DefOk K mg "takes_index" s_takes ["tops", "word", "arguments"] fT fdT) (G : FnOk P w K mg base CX0 3 fT fdT ["tops", "word", "arguments"] spTakes) : FnOk P w K mg base CX0 4 f fd ["part", "word", "arguments"] (spQ (okNum n) (permB n)) := by
  refine F.ok sc_aperm (fun vs H Q E h => ?_) (fun cdv A outer s H vs Q E hr h => ?_)
  · obtain ⟨a0, a, ps, z, xs, as, rfl, _⟩ := h
    rfl
  · obtain ⟨a0, a, ps, z, xs, as, rfl, h0, ⟨x0, r, rfl⟩, hz, ha, hx, q⟩ := h
    refine ⟨_, (pss_one (ps_ret (pe_call G hr rfl T.g T.F.kp T.b .nil pass0 (pa_cons (pe_disp (pps_cons pe_str (pe_op op_sub (pe_ix ix_tup (pv 0) pe_int (fun _ _ => rfl)) pe_int) (pps_cons pe_str (pe_op op_sub (pe_ix ix_tup (pv 0) pe_int (fun _ _ => rfl)) pe_int) pps_nil)) (by rfl) (by rfl) (fun z => by cases z) (by decide)) (pa_cons (pv 1) (pa_cons (pv 2) pa_nil)))))), ?_⟩
    refine fun p np => ?_
    have h1 := upR h0 (same_new (o := HO.dK []) np)
    refine ⟨_, rfl, a0, _, _, _, rfl, rfl, sqT_rd h1, atI_nat (j := 1) rfl, _, _, rfl, rfl, _, rfl, a0, _, _, _, rfl, rfl, sqT_rd h1, atI_nat (j := 1) rfl, _, _, rfl, rfl, upd_same, kvT [("image", n - 1), ("preimage", n - 1)], rfl, (by show 2 ≤ 15; decide), ?_⟩
    have g : upd (upd H p (.dK [])) p (.dK (mergeK [] (kvT [("image", n - 1), ("preimage", n - 1)]))) p = some (.dK (kvT [("image", n - 1), ("preimage", n - 1)])) := upd_same
    have S := disp_same (o := .dK (mergeK [] (kvT [("image", n - 1), ("preimage", n - 1)]))) np
    generalize upd (upd H p (.dK [])) p (.dK (mergeK [] (kvT [("image", n - 1), ("preimage", n - 1)]))) = H2 at g S ⊢
    exact ⟨_, rfl, _, rfl, p, a, _, z, xs, as, rfl, g, upR ha S, hx.same S, fun H' S' => q H' (S.trans S')⟩
theorem ok_lets {f fN fA : Addr} {fd dN dA : FuncData} (F : Fun K "are_letters" "are_letters" s_lets f fd) (nm : Nm mg) (YN : DefOk K mg "is_name" sName ["value"] fN dN) (YA : DefOk K mg "is_ascending" sAsc ["items"] fA dA) (GN : FnOk P w K mg base CX0 1 fN dN ["value"] (spP nameB))
    (YGA : FnOk P w K mg base CX0 1 fA dA ["items"] (fun vs H Q E => spAsc vs H Q E ∧ ∀ a xs, (H a = some (.lst xs) ∨ TP H a xs) → vs = [.ref a] → xs.length < 1000000)) : FnOk P w K mg base CX0 2 f fd ["value"] spLets := by
  refine F.ok sc_lets (fun vs H Q E h => ?_) (fun cdv A outer s H vs Q E hr h => ?_)
  · obtain ⟨v, d, rfl, _⟩ := h
    rfl
  · obtain ⟨v, d, rfl, hd, hlen, q⟩ := h
    refine ⟨_, (pss_one (ps_ret (pe_and (pe_callB call_isi (by rfl) nm.isinstance boot_isinstance (pa_cons (pv 0) (pa_cons (pe_bltn (v := .ty "tuple") rfl nm.tuple (by decide +kernel) rfl) pa_nil))) (pe_and (pe_callB (cr_all rfl) (by rfl) nm.all boot_all (pa_cons (pe_lc (own := [("item", 1)]) (g := (gName 1)) (tt := tYes) (te := tCall (spP nameB) [] E0 (tCons (tVar 1) tNil)) rfl sc_lets.nd (pi_tup (pv 0)) (blkOk_by (N := ["value", "item"]) (sc := defScope s_lets) (by decide +kernel))
          (fun _ _ _ _ _ => (pg_name (i := 1) sc_lets.nd rfl (Or.inl rfl))) (fun _ _ _ _ _ => pts_nil) (fun _ _ _ _ _ => (pe_call GN hr rfl YN.g YN.F.kp YN.b .nil pass0 (pa_cons (pv 1) pa_nil)))) pa_nil)) (pe_one (pe_call YGA hr rfl YA.g YA.F.kp YA.b .nil pass0 (pa_cons (pv 0) pa_nil))))))), ?_⟩
    refine ⟨_, rfl, v, .ty "tuple", _, _, _, rfl, .ty _, hd.ty, kit_tuple _ d, _, rfl, ?_⟩
    have q' := q H fun _ _ e => e
    cases d with
    | tuple ds =>
      cases hd with
      | @tup a xs _ ha hx =>
        have hl := hx.len
        have hlen : ds.length ≤ 1000 := hlen
        refine if_t rfl ⟨_, rfl, a, rfl, ⟨_, sqT_rd ha⟩, fun D nD => lc_all (K := K) (a := a) (xs := xs) (ds := ds) nameB ha hx (by omega) nD (fun i x d Hx hi hdi td S R hR => ⟨rfl, _, rfl, x, d, rfl, td, hR⟩) mono_name fun Hx S hD => ?_⟩
        refine ⟨D, ds.map nameB, rfl, SqL.of hD, _, rfl, ?_⟩
        have eAll : (ds.map nameB).all id = ds.all nameB := by
          rw [List.all_map]
          rfl
        rw [eAll]
        cases h2 : ds.all nameB with
        | false =>
          have q2 : Q (.bl (true && (ds.all nameB && ascB ds))) Hx := q Hx S
          rw [h2] at q2
          exact if_f rfl q2
        | true =>
          refine if_t rfl ⟨_, rfl, asc_tup (upR ha S) (hx.same S) (by omega) (asc_names fun d hd => name_is (List.all_eq_true.mp h2 d hd)) fun H3 S3 => ?_⟩
          have q3 : Q (.bl (true && (ds.all nameB && ascB ds))) H3 := q H3 (S.trans S3)
          rw [h2] at q3
          exact q3
    | int i => exact q'
    | bool b => exact q'
    | none => exact q'
    | str x => exact q'
    | list ds => exact q'
    | dict kv => exact q'
end
end K9
set_option maxRecDepth 100000
set_option maxHeartbeats 8000000
namespace K9
open PySem PySem.Spec PyProof.Rows L2
/-! ### asks_walk -/
theorem and_one (x : Int) : Builtin.bitAnd x 1 = x % 2 := by
  by_cases h : 0 ≤ x
  · rw [bitAnd_pp h (by decide)]
    have e : (1 : Int).toNat = 1 := rfl
    rw [e, Nat.and_one_is_mod]
    omega
  · rw [bitAnd_np h (by decide)]
    have e : (1 : Int).toNat = 1 := rfl
    have e2 : Builtin.bitNot x = -x - 1 := rfl
    rw [e, e2, Nat.and_comm, Nat.and_one_is_mod]
    omega
theorem inV2 (z x y : Str) : inV (.str z) [.str x, .str y] = (decide (z = x) || decide (z = y)) := by
  have e : ∀ a : Str, eqV (.str a) (.str z) = decide (z = a) := fun a => by
    show (a == z) = decide (z = a)
    by_cases h : z = a
    · rw [decide_eq_true h, h]
      exact beq_self_eq_true _
    · rw [decide_eq_false h]
      exact beq_eq_false_iff_ne.mpr fun y => h y.symm
  unfold inV
  rw [List.any_cons, List.any_cons, e, e, List.any_nil, Bool.or_false]
abbrev s_awalk : Stmt := top 22
def topsW (n s e : Int) : Tops := if (n + e - s) % 2 = 0 then [("height", n), ("up", (n + e - s) / 2 - 1), ("down", (n - e + s) / 2 - 1)] else [("height", n)]
def walkB (n s e : Int) (z : Str) (as : List PyData) : Bool := if ((decide (z = "first_visit") || decide (z = "last_visit")) && decide (as.length = 2)) = true then btw 0 n (as.getD 0 .none) && isInt (as.getD 1 .none) else takesB (topsW n s e) z as
def okWalk (n s e : Int) : Hp → List V → Prop := fun _ ps => ∃ x0 x4 x5, ps = [x0, .int n, .int s, .int e, x4, x5]
section
variable {P : Program} {w : World} {K : PySem.W.Frag} {mg : Str → Option Value} {base : Heap}
theorem sc_awalk : FnScope ["part", "word", "arguments", "n", "start", "end", "tops"] ["part", "word", "arguments"] (defScope s_awalk) := ⟨rfl, rfl, rfl, by decide +kernel, rfl, by decide +kernel, by decide +kernel⟩
theorem ok_awalk {n s0 e0 : Int} {f fT fB fI : Addr} {fd fdT fdB fdI : FuncData} (F : Fun K "asks_walk" "asks_walk" s_awalk f fd) (N : Nm mg) (T : DefOk K mg "takes_index" s_takes ["tops", "word", "arguments"] fT fdT) (G : FnOk P w K mg base CX0 3 fT fdT ["tops", "word", "arguments"] spTakes)
    (B : DefOk K mg "is_between" sBtw ["value", "low", "high"] fB fdB) (GB : FnOk P w K mg base CX0 2 fB fdB ["value", "low", "high"] spBtw) (I : DefOk K mg "is_integer" sIsInt ["value"] fI fdI) : FnOk P w K mg base CX0 4 f fd ["part", "word", "arguments"] (spQ (okWalk n s0 e0) (walkB n s0 e0)) := by
  have GI : FnOk P w K mg base CX0 1 fI fdI ["value"] (spP isInt) := ok_isint I.F N
  refine F.ok sc_awalk (fun vs H Q E h => ?_) (fun cdv A outer s H vs Q E hr h => ?_)
  · obtain ⟨a0, a, ps, z, xs, as, rfl, _⟩ := h
    rfl
  · obtain ⟨a0, a, ps, z, xs, as, rfl, h0, ⟨x0, x4, x5, rfl⟩, hz, ha, hx, q⟩ := h
    have hu1 : (A.deeper (envOfC "asks_walk" (defScope s_awalk) s.heap.objs.size f cdv)).units + 1 < cLine := by
      have := hr.un
      omega
    have hr1 : Room 1 _ := hr.mono (by decide)
    have hr2 : Room 2 _ := hr.mono (by decide)
    refine ⟨_, (pss_cons (ps_asg (pe_slice sl_tupA (pv 0) (po_some pe_int) (po_some pe_int)) (pg_tup rfl (pgs_cons (pg_name (i := 3) sc_awalk.nd rfl (Or.inl rfl)) (pgs_cons (pg_name (i := 4) sc_awalk.nd rfl (Or.inl rfl)) (pgs_cons (pg_name (i := 5) sc_awalk.nd rfl (Or.inl rfl)) pgs_nil)))))
      (C8.pss_cut (ps_if (PW.pt (pw_and (pt_cmpR op_in_seq (pv 1) (pe_tup (pa_cons pe_str (pa_cons pe_str pa_nil))) rfl) (pw_and1 (pt_cmpR op_eq (pe_callB call_len_seq (by rfl) N.len PySem.boot_len (pa_cons (pv 2) pa_nil)) pe_int (nomark _)))))
        (pss_one (ps_ret (pe_and (pe_call GB hr2 rfl B.g B.F.kp B.b .nil pass0 (pa_cons (pe_ix ix_tup (pv 2) pe_int (fun _ _ => rfl)) (pa_cons pe_int (pa_cons (pv 3) pa_nil)))) (pe_one (pe_call GI hr1 rfl I.g I.F.kp I.b .nil pass0 (pa_cons (pe_ix ix_tup (pv 2) pe_int (fun _ _ => rfl)) pa_nil))))))
        pss_nil)
      (pss_cons (ps_set (i := 6) sc_awalk.nd rfl (Or.inl rfl) (pe_disp (pps_cons pe_str (pv 3) pps_nil) (by rfl) (by rfl) (fun z => by cases z) (by decide)))
      (C8.pss_cut (ps_if (pt_cmpR op_eq (pe_op op_and (pe_op op_sub (pe_op op_add (pv 3) (pv 5)) (pv 4)) pe_int) pe_int (nomark _))
        (pss_cons (ps_dput hu1 (pv 6) pe_str (pe_op op_sub (pe_op op_fdiv (pe_op op_sub (pe_op op_add (pv 3) (pv 5)) (pv 4)) pe_int) pe_int) rfl)
        (pss_one (ps_dput hu1 (pv 6) pe_str (pe_op op_sub (pe_op op_fdiv (pe_op op_add (pe_op op_sub (pv 3) (pv 5)) (pv 4)) pe_int) pe_int) rfl)))
        pss_nil)
      (pss_one (ps_ret (pe_call G hr rfl T.g T.F.kp T.b .nil pass0 (pa_cons (pv 6) (pa_cons (pv 1) (pa_cons (pv 2) pa_nil)))))))))), ?_⟩
    refine ⟨_, rfl, 1, rfl, 4, rfl, slAny_of h0 fun b1 H1 S1 h1 => ?_⟩
    have h1 : TP H1 b1 [.int n, .int s0, .int e0] := h1
    refine ⟨b1, _, rfl, sqT_rd h1, rfl, _, _, rfl, _, _, rfl, _, _, rfl, rfl, ?_⟩
    have q1 := fun H' S' => q H' (S1.trans S')
    have ha1 := upR ha S1
    have hx1 := hx.same S1
    refine ⟨fun σ H' => σ = [some (.ref a0), some (.str z), some (.ref a), some (.int n), some (.int s0), some (.int e0), none] ∧ Same H1 H' ∧ ((decide (z = "first_visit") || decide (z = "last_visit")) && decide (as.length = 2)) = false, ?_, ?_⟩
    · refine ⟨_, rfl, (by show 2 ≤ sizeLine; decide), fun tp ntp => ⟨tp, _, rfl, .inr (SqT.of upd_same), rfl, rfl, _, rfl, ?_⟩⟩
      have S2 := same_new (o := HO.tup [.str "first_visit", .str "last_visit"]) ntp
      generalize upd H1 tp (.tup [.str "first_visit", .str "last_visit"]) = H2 at S2 ⊢
      have e2 : decide (V.int ((xs.length : Nat) : Int) = V.int 2) = decide (as.length = 2) := by
        rw [hx.len]
        by_cases h : as.length = 2
        · rw [decide_eq_true h, decide_eq_true (by rw [h]; rfl)]
        · rw [decide_eq_false h, decide_eq_false fun y => h (by have := V.int.inj y; omega)]
      show (if inV (.str z) [.str "first_visit", .str "last_visit"] = true then _ else _)
      rw [inV2]
      cases ez : (decide (z = ("first_visit" : Str)) || decide (z = ("last_visit" : Str))) with
      | false => exact if_f rfl (if_f rfl ⟨rfl, S2, rfl⟩)
      | true =>
        refine if_t rfl ⟨_, rfl, a, xs, rfl, .inr (sqT_rd (upR ha1 S2)), rfl, _, rfl, ?_⟩
        rw [e2]
        cases el : decide (as.length = 2) with
        | false => exact if_f rfl ⟨rfl, S2, rfl⟩
        | true =>
          refine if_t rfl ?_
          have hl2 := of_decide_eq_true el
          match as, xs, hx1, ha1, hl2, q1 with
          | [l, o], [xl, xo], .cons dl (.cons dO .nil), ha1, _, q1 =>
            refine ⟨_, rfl, a, _, _, _, rfl, rfl, sqT_rd (upR ha1 S2), atI_nat (j := 0) rfl, _, rfl, xl, l, 0, n, rfl, dl.same S2, fun H3 S3 => ⟨_, rfl, ?_⟩⟩
            have z1 : ∀ H', Same H1 H' → Q (.bl (btw 0 n l && isInt o)) H' := fun H' S' => by
              have := q1 H' S'
              unfold walkB at this
              rw [ez, if_pos (show (true && decide (([l, o] : List PyData).length = 2)) = true from rfl)] at this
              exact this
            have S23 := S2.trans S3
            cases eb : btw 0 n l with
            | false =>
              rw [eb] at z1
              exact if_f rfl (z1 H3 S23)
            | true =>
              rw [eb] at z1
              exact if_t rfl ⟨_, rfl, a, _, _, _, rfl, rfl, sqT_rd (upR ha1 S23), atI_nat (j := 1) rfl, xo, o, rfl, dO.same S23, fun H4 S4 => z1 H4 (S23.trans S4)⟩
    · rintro σ H2 ⟨rfl, S2, hf⟩
      have q2 : ∀ H', Same H2 H' → Q (.bl (takesB (topsW n s0 e0) z as)) H' := fun H' S' => by
        have := q1 H' (S2.trans S')
        unfold walkB at this
        rw [hf] at this
        exact this
      refine fun p np => ⟨_, rfl, upd_same, kvT [("height", n)], rfl, (by show 1 ≤ 15; decide), ?_⟩
      have g : upd (upd H2 p (.dK [])) p (.dK (mergeK [] (kvT [("height", n)]))) p = some (.dK (kvT [("height", n)])) := upd_same
      have S3 := disp_same (o := .dK (mergeK [] (kvT [("height", n)]))) np
      generalize upd (upd H2 p (.dK [])) p (.dK (mergeK [] (kvT [("height", n)]))) = H3 at g S3 ⊢
      refine ⟨fun σ H' => σ = [some (.ref a0), some (.str z), some (.ref a), some (.int n), some (.int s0), some (.int e0), some (.ref p)] ∧ Same H2 H' ∧ H' p = some (.dK (kvT (topsW n s0 e0))), ?_, ?_⟩
      · refine ⟨_, rfl, _, rfl, _, _, rfl, rfl, _, rfl, _, _, rfl, rfl, _, _, rfl, rfl, rfl, _, rfl, ?_⟩
        show (if decide (V.int (Builtin.bitAnd (n + e0 - s0) 1) = V.int 0) = true then _ else _)
        rw [and_one]
        by_cases hev : (n + e0 - s0) % 2 = 0
        · refine if_t (decide_eq_true (by rw [hev])) ?_
          have hk2 : valV (kvT [("height", n)]) (.inr "up") = none := by
            rw [kv_get]
            rfl
          have hk3 : valV (kvT [("height", n), ("up", (n + e0 - s0) / 2 - 1)]) (.inr "down") = none := by
            rw [kv_get]
            rfl
          refine ⟨_, rfl, _, rfl, _, _, rfl, rfl, _, rfl, _, _, rfl, rfl, _, _, rfl, rfl, ⟨by decide, by decide⟩, _, _, rfl, rfl, _, rfl, p, _, rfl, DPut.k (k := (Sum.inr "up" : Key)) g (by show 1 < sizeLine; decide), ?_⟩
          rw [putK_new _ hk2]
          have g2 : upd H3 p (.dK (kvT [("height", n)] ++ [((Sum.inr "up" : Key), V.int ((n + e0 - s0) / 2 - 1))])) p = some (.dK (kvT [("height", n), ("up", (n + e0 - s0) / 2 - 1)])) := by
            rw [upd_same]
            rfl
          have S4 : Same H2 (upd H3 p (.dK (kvT [("height", n)] ++ [((Sum.inr "up" : Key), V.int ((n + e0 - s0) / 2 - 1))]))) := fun b o e => by
            rw [upd_ne (ne_of_none e np)]
            exact S3 b o e
          generalize upd H3 p (.dK (kvT [("height", n)] ++ [((Sum.inr "up" : Key), V.int ((n + e0 - s0) / 2 - 1))])) = H4 at g2 S4 ⊢
          refine ⟨_, rfl, _, rfl, _, _, rfl, rfl, _, rfl, _, _, rfl, rfl, _, _, rfl, rfl, ⟨by decide, by decide⟩, _, _, rfl, rfl, _, rfl, p, _, rfl, DPut.k (k := (Sum.inr "down" : Key)) g2 (by show 2 < sizeLine; decide), ?_⟩
          rw [putK_new _ hk3]
          refine ⟨rfl, fun b o e => ?_, ?_⟩
          · rw [upd_ne (ne_of_none e np)]
            exact S4 b o e
          · rw [upd_same]
            unfold topsW
            rw [if_pos hev]
            rfl
        · refine if_f (decide_eq_false fun y => hev (V.int.inj y)) ⟨rfl, S3, ?_⟩
          unfold topsW
          rw [if_neg hev]
          exact g
      · rintro σ H4 ⟨rfl, S4, g4⟩
        have S14 := S2.trans S4
        exact ⟨_, rfl, _, rfl, _, rfl, p, a, _, z, xs, as, rfl, g4, upR ha1 S14, hx1.same S14, fun H' S' => q2 H' (S4.trans S')⟩
end
end K9
set_option maxRecDepth 100000
set_option maxHeartbeats 8000000
namespace K9
open PySem PySem.Spec PyProof.Rows L2
def at0 (ds : List PyData) (i : Nat) : PyData := ds.getD i .none
theorem at_of {ds : List PyData} {i : Nat} {d : PyData} (h : ds[i]? = some d) : at0 ds i = d := by
  unfold at0
  rw [List.getD_eq_getElem?_getD, h]
  rfl
/-! ### orders -/
def orderB : Nat → PyData → Bool
  | 0, _ => false
  | n + 1, d => tupOf 2 2 d && (if eqStr "item" (at0 (tupItems d) 0) = true then nameB (at0 (tupItems d) 1)
      else ((eqStr "series" (at0 (tupItems d) 0) || eqStr "parallel" (at0 (tupItems d) 0)) && (tupOf 2 6 (at0 (tupItems d) 1) && (tupItems (at0 (tupItems d) 1)).all (orderB n))))
theorem fn_none {P : Program} {w : World} {K : PySem.W.Frag} {mg : Str → Option Value} {base : Heap} {k : Nat} {f : Addr} {fd : FuncData} {ps : List Str} : FnOk P w K mg base CX0 k f fd ps (fun _ _ _ _ => False) := ⟨fun _ _ _ _ h => h.elim, fun _ _ _ _ _ _ _ _ _ _ _ _ _ h => h.elim⟩
/-! ### the names of an order -/
def strOf : PyData → Str
  | .str s => s
  | _ => Str.empty
def namesN : Nat → PyData → List Str
  | 0, _ => []
  | n + 1, d => if eqStr "item" (at0 (tupItems d) 0) = true then [strOf (at0 (tupItems d) 1)] else (tupItems (at0 (tupItems d) 1)).flatMap (namesN n)
theorem flat_len {f : PyData → List Str} {m : Nat} : ∀ {l : List PyData}, (∀ d ∈ l, (f d).length ≤ m) → (l.flatMap f).length ≤ l.length * m
  | [], _ => by simp
  | a :: l, h => by
    have h1 := h a (by simp)
    have h2 := flat_len (l := l) fun d hd => h d (by simp [hd])
    rw [List.flatMap_cons, List.length_append, List.length_cons, Nat.succ_mul]
    omega
/-- what orderB says, one level -/
theorem order_cases {n : Nat} {d : PyData} (h : orderB (n + 1) d = true) : ∃ d0 d1, d = .tuple [d0, d1] ∧ ((eqStr "item" d0 = true ∧ nameB d1 = true) ∨
    (eqStr "item" d0 = false ∧ ∃ es, d1 = .tuple es ∧ 2 ≤ es.length ∧ es.length ≤ 6 ∧ ∀ e ∈ es, orderB n e = true)) := by
  rw [orderB, Bool.and_eq_true] at h
  obtain ⟨ds, rfl, l1, l2⟩ := tupOf_len h.1
  match ds, (show ds.length = 2 by omega) with
  | [d0, d1], _ =>
    refine ⟨d0, d1, rfl, ?_⟩
    have h2 : (if eqStr "item" d0 = true then nameB d1 else ((eqStr "series" d0 || eqStr "parallel" d0) && (tupOf 2 6 d1 && (tupItems d1).all (orderB n)))) = true := h.2
    cases h0 : eqStr "item" d0 with
    | true =>
      rw [h0] at h2
      exact .inl ⟨rfl, h2⟩
    | false =>
      rw [h0] at h2
      have h3 : ((eqStr "series" d0 || eqStr "parallel" d0) && (tupOf 2 6 d1 && (tupItems d1).all (orderB n))) = true := h2
      rw [Bool.and_eq_true, Bool.and_eq_true] at h3
      obtain ⟨es, rfl, l3, l4⟩ := tupOf_len h3.2.1
      exact .inr ⟨rfl, es, rfl, by omega, by omega, List.all_eq_true.mp h3.2.2⟩
theorem names_len : ∀ (n : Nat) (d : PyData), orderB n d = true → (namesN n d).length ≤ 6 ^ n
  | 0, _, _ => by simp [namesN]
  | n + 1, d, h => by
    obtain ⟨d0, d1, rfl, hh⟩ := order_cases h
    have e : namesN (n + 1) (.tuple [d0, d1]) = if eqStr "item" d0 = true then [strOf d1] else (tupItems d1).flatMap (namesN n) := by rw [namesN]; rfl
    have p : 0 < 6 ^ n := Nat.pos_of_ne_zero (by simp)
    rw [e, Nat.pow_succ]
    rcases hh with ⟨h0, _⟩ | ⟨h0, es, rfl, _, l6, hes⟩
    · rw [h0, if_pos rfl]
      show 1 ≤ _
      omega
    · rw [h0, if_neg Bool.false_ne_true]
      have z := flat_len (l := es) fun e he => names_len n e (hes e he)
      have z2 : es.length * 6 ^ n ≤ 6 * 6 ^ n := Nat.mul_le_mul_right _ l6
      show (es.flatMap (namesN n)).length ≤ _
      omega
theorem flat_pre {f : PyData → List Str} {es : List PyData} {i : Nat} {e : PyData} (h : es[i]? = some e) : (es.take (i + 1)).flatMap f = (es.take i).flatMap f ++ f e := by
  rw [List.take_add_one, h]
  simp
theorem flat_take {f : PyData → List Str} (es : List PyData) (i : Nat) : ((es.take i).flatMap f).length ≤ (es.flatMap f).length := by
  have z : es.flatMap f = (es.take i).flatMap f ++ (es.drop i).flatMap f := by rw [← List.flatMap_append, List.take_append_drop]
  rw [z, List.length_append]
  omega
/-- the inner walk of a comprehension -/
theorem in_it {J : It} {n : Nat} {G : Hp → Prop} {Y : Nat → Hp → V → Hp → Prop} (w : Walk J n G Y) {Nx : Hp → Prop} {step : Nat → V → Hp → (Hp → Prop) → Prop} {H4 : Hp} (Pv : Nat → Hp → Prop) (h0 : Pv 0 H4) (hG : ∀ j H, j ≤ n → Pv j H → G H)
    (hs : ∀ j x H H', j < n → Pv j H → Y j H x H' → step j x H' (Pv (j + 1))) (hd : ∀ H, Pv n H → Nx H) :
    ∃ W1 : Nat → Nat → Hp → Prop, (∃ m, W1 0 m H4) ∧ ∀ j k H, W1 j k H → (J.stop j H ∧ Nx H) ∨ (J.go j H ∧ ∃ N1 : Hp → Prop, (∀ H', N1 H' → ∃ k', k' < k ∧ W1 (j + 1) k' H') ∧ ∀ x H', J.yld j H x H' → step j x H' N1) := by
  refine ⟨fun j k H => k + j = n ∧ Pv j H, ⟨n, rfl, h0⟩, fun j k H ⟨e, p⟩ => ?_⟩
  have g := hG j H (by omega) p
  by_cases hj : j < n
  · refine .inr ⟨w.goes j H hj g, Pv (j + 1), fun H' p' => ⟨n - (j + 1), by omega, by omega, p'⟩, fun x H' y => hs j x H H' hj p (w.yields j H x H' hj g y)⟩
  · obtain rfl : j = n := by omega
    exact .inl ⟨w.stops H g, hd H p⟩
def spNames (n : Nat) : Sp := fun vs H Q _ => ∃ (v : V) (d : PyData), vs = [v] ∧ n ≤ 6 ∧ Dat H v d ∧ orderB n d = true ∧ ∀ p H', Same H H' → H p = none → H' p = some (.lst ((namesN n d).map V.str)) → Q (.ref p) H'
abbrev sNames : Stmt := top 15
theorem dat_name {H : Hp} {v : V} {d : PyData} (h : Dat H v d) (hn : nameB d = true) : v = .str (strOf d) := by
  cases h with
  | str x _ => rfl
  | _ => cases hn
section
variable {P : Program} {w : World} {K : PySem.W.Frag} {mg : Str → Option Value} {base : Heap}
theorem scNames : FnScope ["order", "word", "rest", "inner", "name"] ["order"] (defScope sNames) := ⟨rfl, rfl, rfl, by decide +kernel, rfl, by decide +kernel, by decide +kernel⟩
theorem names_body {f : Addr} {fd : FuncData} {k : Nat} {sp : Sp} (F : Fun K "names_of" "names_of" sNames f fd) (b : L2.Binds K fd ["order"] []) (g : mg "names_of" = some (.ref f)) (G : FnOk P w K mg base CX0 k f fd ["order"] sp) (n : Nat)
    (hn : ∀ m, n = m + 1 → n ≤ 6 → ∀ (x : V) (d : PyData) (H : Hp) (R : VK), Dat H x d → orderB m d = true → (∀ p H', Same H H' → H p = none → H' p = some (.lst ((namesN m d).map V.str)) → R (.ref p) H') → sp [x] H R E0) : FnOk P w K mg base CX0 (k + 1) f fd ["order"] (spNames n) := by
  refine F.ok scNames (fun vs H Q E h => ?_) (fun cdv A outer s H vs Q E hr h => ?_)
  · obtain ⟨v, d, rfl, _⟩ := h
    rfl
  · obtain ⟨v, d, rfl, h6, hd, ho, q⟩ := h
    have hu0 := hr.units0
    refine ⟨_, pss_cons (ps_asg (pv 0) (pg_tup rfl (pgs_cons (pg_name (i := 1) scNames.nd rfl (Or.inl rfl)) (pgs_cons (pg_name (i := 2) scNames.nd rfl (Or.inl rfl)) pgs_nil))))
      (pss_cons (ps_if (pt_cmpR (op_eqStr hu0) (pv 1) pe_str (nomark _)) (pss_one (ps_ret (pe_lst (pa_cons (pv 2) pa_nil)))) pss_nil)
      (pss_one (ps_ret (pe_lc2 (own := [("inner", 3), ("name", 4)]) (vs1 := [4]) (g := gName 3) (tt := tYes) (wi1 := iList K (tCall sp [] E0 (tCons (tVar 3) tNil))) (g1 := gName 4) (tt1 := tYes) rfl scNames.nd (pi_tup (pv 2)) (blkOk_by (N := ["order", "word", "rest", "inner", "name"]) (sc := defScope sNames) (by decide +kernel)) (by decide)
          (fun _ _ _ _ _ => pg_name (i := 3) scNames.nd rfl (Or.inl rfl)) (fun _ _ _ _ _ => pts_nil) (fun _ _ _ _ _ => pi_list (pe_call G hr rfl g F.kp b .nil pass0 (pa_cons (pv 3) pa_nil)))
          (fun _ _ _ _ _ => pg_name (i := 4) scNames.nd rfl (Or.inl rfl)) (fun _ _ _ _ _ => pts_nil) (fun _ _ _ _ _ => pv 4))))), ?_⟩
    cases n with
    | zero => exact Bool.noConfusion ((show false = true from ho) : false = true)
    | succ m =>
      have hlen := names_len _ _ ho
      have h66 : 6 ^ (m + 1) ≤ 46656 := by
        have z : 6 ^ (m + 1) ≤ 6 ^ 6 := Nat.pow_le_pow_right (by decide) h6
        exact z
      obtain ⟨d0, d1, rfl, hh⟩ := order_cases ho
      have eN : namesN (m + 1) (.tuple [d0, d1]) = if eqStr "item" d0 = true then [strOf d1] else (tupItems d1).flatMap (namesN m) := by rw [namesN]; rfl
      rw [eN] at q hlen
      cases hd with
      | @tup a xs _ ha hx =>
        cases hx with
        | @cons x0 _ _ _ c0 t0 =>
          cases t0 with
          | @cons x1 _ _ _ c1 t1 =>
            cases t1
            refine ⟨_, rfl, a, _, rfl, sqT_rd ha, rfl, _, _, rfl, _, _, rfl, rfl, _, rfl, d0, "item", c0, rfl, _, rfl, ?_⟩
            rcases hh with ⟨h0, hn1⟩ | ⟨h0, es, rfl, l2, l6, hes⟩
            · rw [h0] at q ⊢
              refine if_t rfl ⟨_, rfl, (by show 1 ≤ sizeLine; decide), fun p np => q p _ (same_new np) np ?_⟩
              rw [upd_same, dat_name c1 hn1]
              rfl
            · rw [h0] at q hlen ⊢
              have q1 : ∀ p H', Same H H' → H p = none → H' p = some (.lst ((es.flatMap (namesN m)).map V.str)) → Q (.ref p) H' := q
              have hlen1 : (es.flatMap (namesN m)).length ≤ 6 ^ (m + 1) := hlen
              cases c1 with
              | @tup a2 ys _ ha2 hx2 =>
                have hl2 := hx2.len
                refine if_f rfl ⟨_, rfl, a2, rfl, ⟨_, sqT_rd ha2⟩, fun D nD => in_it (walk_tup (K := K) (a := a2) (xs := ys)) (fun i Hx => Same H Hx ∧ Hx D = some (.lst (((es.take i).flatMap (namesN m)).map V.str))) ⟨same_new nD, by rw [upd_same]; rfl⟩ (fun i Hx _ ⟨S, _⟩ => sqT_rd (upR ha2 S)) ?_ ?_⟩
                · rintro i x Hx Hy hi ⟨S, hD⟩ ⟨rfl, hxi⟩
                  obtain ⟨e, hei, te⟩ := hx2.get hxi
                  refine ⟨rfl, _, rfl, hn m rfl h6 x e Hy _ (te.same S) (hes e (List.mem_of_getElem? hei)) fun p H1 S1 np hp => ?_⟩
                  have pD : p ≠ D := fun z => by
                    rw [z, hD] at np
                    cases np
                  refine ⟨p, rfl, ⟨_, SqL.of hp⟩, in_it (walk_list (K := K) (a := p) (xs := (namesN m e).map V.str)) (fun j Hz => Same H Hz ∧ Hz p = some (.lst ((namesN m e).map V.str)) ∧ Hz D = some (.lst (((es.take i).flatMap (namesN m) ++ (namesN m e).take j).map V.str)))
                    ⟨S.trans S1, hp, by rw [List.take_zero, List.append_nil]; exact S1 _ _ hD⟩ (fun j Hz _ ⟨_, h, _⟩ => SqL.of h) ?_ ?_⟩
                  · rintro j y Hz Hz' hj ⟨S2, hp2, hD2⟩ ⟨rfl, hy⟩
                    rw [List.getElem?_map] at hy
                    obtain ⟨nm, hnm, rfl⟩ : ∃ nm, (namesN m e)[j]? = some nm ∧ y = V.str nm := by
                      cases hz : (namesN m e)[j]? with
                      | none =>
                        rw [hz] at hy
                        cases hy
                      | some nm =>
                        rw [hz] at hy
                        exact ⟨nm, rfl, (Option.some.inj hy).symm⟩
                    have hjl : j < (namesN m e).length := (List.getElem?_eq_some_iff.mp hnm).1
                    have tot := flat_take (f := namesN m) es (i + 1)
                    rw [flat_pre hei, List.length_append] at tot
                    refine ⟨rfl, _, rfl, _, hD2, ?_, grow nD S2, ?_, ?_⟩
                    · rw [List.length_map, List.length_append, List.length_take, sizeLine_eq]
                      omega
                    · rw [upd_ne pD]
                      exact hp2
                    · rw [upd_same, List.take_add_one, hnm]
                      simp
                  · rintro Hz ⟨S2, hp2, hD2⟩
                    refine ⟨S2, ?_⟩
                    rw [hD2, List.length_map, List.take_length, flat_pre hei]
                · rintro Hx ⟨S, hD⟩
                  refine q1 D Hx S nD ?_
                  rw [hD, hl2, List.take_length]
/-- names_of(d), d an order of at most n levels -/
theorem ok_names {f : Addr} {fd : FuncData} (F : Fun K "names_of" "names_of" sNames f fd) (b : L2.Binds K fd ["order"] []) (g : mg "names_of" = some (.ref f)) : ∀ n : Nat, FnOk P w K mg base CX0 (1 + n) f fd ["order"] (spNames n)
  | 0 => by
    have z := names_body (P := P) (w := w) (base := base) (k := 0) (sp := fun _ _ _ _ => False) F b g fn_none 0 fun m e => by cases e
    exact z
  | n + 1 => by
    have G := ok_names F b g n
    have z := names_body F b g G (n + 1) fun m e l6 x d H R hd ho hR => by
      obtain rfl : n = m := Nat.succ.inj e
      exact ⟨x, d, rfl, by omega, hd, ho, hR⟩
    rw [show 1 + (n + 1) = 1 + n + 1 by omega]
    exact z
end
end K9
set_option maxRecDepth 100000
set_option maxHeartbeats 8000000
namespace K9
open PySem PySem.Spec PyProof.Rows L2
/-! ### asks_arrangement -/
section
variable {X : Cx}
/-- x in [texts] -/
def rInL : R2 := fun x y H Q => ∃ (d : PyData) (p : Addr) (zs : List Str), Dat H x d ∧ y = .ref p ∧ H p = some (.lst (zs.map V.str)) ∧ Q (.bl (zs.any fun z => eqStr z d)) H
theorem op_inL (hu : X.A.units + 1 < cLine) : OpR X (compareOp .In) rInL := by
  intro pins s σ H x y v u Q I rx ry h
  obtain ⟨d, p, zs, hd, rfl, hp, q⟩ := h
  cases ry
  obtain ⟨its, r, pl, _⟩ := I.list (SqL.of hp)
  refine SeqAt.in_listAt (eStr d) pl.isList (fun w hw => ?_) ⟨.bl _, H, I, rfl, ?_⟩
  · obtain ⟨z, t, rfl⟩ := mem_strs r w (by simpa using hw)
    exact str_eqAt I hd rx hu z t
  · rw [show its.toArray.any (eStr d) = its.any (eStr d) by simp, any_strs r]
    exact q
end
abbrev s_aarr : Stmt := top 21
def arrB (o : PyData) (z : Str) (as : List PyData) : Bool := if (decide (z = "locate") && decide (as.length = 1)) = true then (namesN 6 o).any (fun y => eqStr y (as.getD 0 .none)) else takesB [("entry", ((namesN 6 o).length : Int) - 1)] z as
def okArr (o : PyData) : Hp → List V → Prop := fun H ps => ∃ x0 x1 r, ps = x0 :: x1 :: r ∧ Dat H x1 o ∧ orderB 6 o = true
section
variable {P : Program} {w : World} {K : PySem.W.Frag} {mg : Str → Option Value} {base : Heap}
theorem sc_aarr : FnScope ["part", "word", "arguments", "names"] ["part", "word", "arguments"] (defScope s_aarr) := ⟨rfl, rfl, rfl, by decide +kernel, rfl, by decide +kernel, by decide +kernel⟩
theorem ok_aarr {o : PyData} {f fT fN : Addr} {fd fdT fdN : FuncData} (F : Fun K "asks_arrangement" "asks_arrangement" s_aarr f fd) (N : Nm mg) (T : DefOk K mg "takes_index" s_takes ["tops", "word", "arguments"] fT fdT) (G : FnOk P w K mg base CX0 3 fT fdT ["tops", "word", "arguments"] spTakes)
    (D : DefOk K mg "names_of" sNames ["order"] fN fdN) (GN : FnOk P w K mg base CX0 7 fN fdN ["order"] (spNames 6)) : FnOk P w K mg base CX0 8 f fd ["part", "word", "arguments"] (spQ (okArr o) (arrB o)) := by
  refine F.ok sc_aarr (fun vs H Q E h => ?_) (fun cdv A outer s H vs Q E hr h => ?_)
  · obtain ⟨a0, a, ps, z, xs, as, rfl, _⟩ := h
    rfl
  · obtain ⟨a0, a, ps, z, xs, as, rfl, h0, ⟨x0, x1, r, rfl, hd1, ho⟩, hz, ha, hx, q⟩ := h
    have hu1 : (A.deeper (envOfC "asks_arrangement" (defScope s_aarr) s.heap.objs.size f cdv)).units + 1 < cLine := by
      have := hr.un
      omega
    have hr3 : Room 3 _ := hr.mono (by decide)
    refine ⟨_, (pss_cons (ps_set (i := 3) sc_aarr.nd rfl (Or.inl rfl) (pe_call GN hr rfl D.g D.F.kp D.b .nil pass0 (pa_cons (pe_ix ix_tup (pv 0) pe_int (fun _ _ => rfl)) pa_nil)))
      (C8.pss_cut (ps_if (PW.pt (pw_and (pt_cmpR op_eq (pv 1) pe_str (nomark _)) (pw_and1 (pt_cmpR op_eq (pe_callB call_len_seq (by rfl) N.len PySem.boot_len (pa_cons (pv 2) pa_nil)) pe_int (nomark _)))))
        (pss_one (ps_ret (pe_cmpR (op_inL hu1) (pe_ix ix_tup (pv 2) pe_int (fun _ _ => rfl)) (pv 3) rfl)))
        pss_nil)
      (pss_one (ps_ret (pe_call G hr3 rfl T.g T.F.kp T.b .nil pass0 (pa_cons (pe_disp (pps_cons pe_str (pe_op op_sub (pe_callB call_len_seq (by rfl) N.len PySem.boot_len (pa_cons (pv 3) pa_nil)) pe_int) pps_nil) (by rfl) (by rfl) (fun z => by cases z) (by decide)) (pa_cons (pv 1) (pa_cons (pv 2) pa_nil)))))))), ?_⟩
    refine ⟨_, rfl, a0, _, _, _, rfl, rfl, sqT_rd h0, atI_nat (j := 1) rfl, x1, o, rfl, Nat.le_refl _, hd1, ho, fun p H1 S1 np hp => ?_⟩
    have q1 := fun H' S' => q H' (S1.trans S')
    have ha1 := upR ha S1
    have hx1 := hx.same S1
    refine ⟨fun σ H' => σ = [some (.ref a0), some (.str z), some (.ref a), some (.ref p)] ∧ Same H1 H' ∧ (decide (z = "locate") && decide (as.length = 1)) = false, ?_, ?_⟩
    · have e1 : decide (V.str z = V.str "locate") = decide (z = "locate") := by
        by_cases h : z = "locate"
        · rw [decide_eq_true h, decide_eq_true (by rw [h])]
        · rw [decide_eq_false h, decide_eq_false fun y => h (by injection y)]
      have e2 : decide (V.int ((xs.length : Nat) : Int) = V.int 1) = decide (as.length = 1) := by
        rw [hx.len]
        by_cases h : as.length = 1
        · rw [decide_eq_true h, decide_eq_true (by rw [h]; rfl)]
        · rw [decide_eq_false h, decide_eq_false fun y => h (by have := V.int.inj y; omega)]
      refine ⟨_, rfl, rfl, _, rfl, ?_⟩
      rw [e1]
      cases ez : decide (z = ("locate" : Str)) with
      | false => exact if_f rfl (if_f rfl ⟨rfl, Same.refl H1, rfl⟩)
      | true =>
        refine if_t rfl ⟨_, rfl, a, xs, rfl, .inr (sqT_rd ha1), rfl, _, rfl, ?_⟩
        rw [e2]
        cases el : decide (as.length = 1) with
        | false => exact if_f rfl ⟨rfl, Same.refl H1, rfl⟩
        | true =>
          refine if_t rfl ?_
          have hl2 := of_decide_eq_true el
          match as, xs, hx1, ha1, hl2, q1 with
          | [l], [xl], .cons dl .nil, ha1, _, q1 =>
            refine ⟨_, rfl, a, _, _, _, rfl, rfl, sqT_rd ha1, atI_nat (j := 0) rfl, _, rfl, l, p, namesN 6 o, dl, rfl, hp, ?_⟩
            have := q1 H1 (Same.refl H1)
            unfold arrB at this
            rw [ez, if_pos (show (true && decide (([l] : List PyData).length = 1)) = true from rfl)] at this
            exact this
    · rintro σ H2 ⟨rfl, S2, hf⟩
      have q2 : ∀ H', Same H2 H' → Q (.bl (takesB [("entry", ((namesN 6 o).length : Int) - 1)] z as)) H' := fun H' S' => by
        have := q1 H' (S2.trans S')
        unfold arrB at this
        rw [hf] at this
        exact this
      refine fun p2 np2 => ⟨_, rfl, p, _, rfl, .inl (SqL.of (same_new np2 _ _ (S2 _ _ hp))), _, _, rfl, rfl, upd_same, kvT [("entry", ((namesN 6 o).length : Int) - 1)], ?_, (by show 1 ≤ 15; decide), ?_⟩
      · rw [List.length_map]
        rfl
      have g : upd (upd H2 p2 (.dK [])) p2 (.dK (mergeK [] (kvT [("entry", ((namesN 6 o).length : Int) - 1)]))) p2 = some (.dK (kvT [("entry", ((namesN 6 o).length : Int) - 1)])) := upd_same
      have S := disp_same (o := .dK (mergeK [] (kvT [("entry", ((namesN 6 o).length : Int) - 1)]))) np2
      generalize upd (upd H2 p2 (.dK [])) p2 (.dK (mergeK [] (kvT [("entry", ((namesN 6 o).length : Int) - 1)]))) = H3 at g S ⊢
      have S23 := S2.trans S
      exact ⟨_, rfl, _, rfl, p2, a, _, z, xs, as, rfl, g, upR ha1 S23, hx1.same S23, fun H' S' => q2 H' (S.trans S')⟩
end
end K9
set_option maxRecDepth 100000
set_option maxHeartbeats 8000000
namespace K9
open PySem PySem.Spec PyProof.Rows L2
/-! ### asks_string; questions whose tuples are short -/
def shortQ (as : List PyData) : Prop := ∀ d ∈ as, (tupItems d).length ≤ 1000
def spQs (ok : Hp → List V → Prop) (f : Str → List PyData → Bool) : Sp := fun vs H Q _ => ∃ (a0 a : Addr) (ps : List V) (z : Str) (xs : List V) (as : List PyData), vs = [.ref a0, .str z, .ref a] ∧ TP H a0 ps ∧ ok H ps ∧ z.length ≤ 1000 ∧ TP H a xs ∧ DatAll H xs as ∧ shortQ as ∧ ∀ H', Same H H' → Q (.bl (f z as)) H'
theorem fn_short {P : Program} {w : World} {K : PySem.W.Frag} {mg : Str → Option Value} {base : Heap} {k : Nat} {f : Addr} {fd : FuncData} {ps : List Str} {ok : Hp → List V → Prop} {g : Str → List PyData → Bool} (G : FnOk P w K mg base CX0 k f fd ps (spQ ok g)) : FnOk P w K mg base CX0 k f fd ps (spQs ok g) :=
  G.imp fun vs H Q E ⟨a0, a, ps, z, xs, as, e, h0, h1, h2, h3, h4, _, q⟩ => ⟨a0, a, ps, z, xs, as, e, h0, h1, h2, h3, h4, q⟩
abbrev s_astr : Stmt := top 27
def stringB (n : Int) (z : Str) (as : List PyData) : Bool := if (decide (z = "letter_in") && decide (as.length = 2)) = true then btw 0 (n - 1) (as.getD 0 .none) && letsB (as.getD 1 .none)
  else if (decide (z = "state_in") && decide (as.length = 2)) = true then btw 0 n (as.getD 0 .none) && statesB (as.getD 1 .none) else takesB [("letter", n - 1), ("state", n)] z as
def okStr (n : Int) : Hp → List V → Prop := fun _ ps => ∃ x0 x1 r, ps = x0 :: x1 :: .int n :: r
theorem dec_str (z y : Str) : decide (V.str z = V.str y) = decide (z = y) := by
  by_cases h : z = y
  · rw [decide_eq_true h, decide_eq_true (by rw [h])]
  · rw [decide_eq_false h, decide_eq_false fun e => h (by injection e)]
theorem dec_len {α : Type} (xs : List α) (m : Nat) : decide (V.int ((xs.length : Nat) : Int) = V.int (m : Nat)) = decide (xs.length = m) := by
  by_cases h : xs.length = m
  · rw [decide_eq_true h, decide_eq_true (by rw [h])]
  · rw [decide_eq_false h, decide_eq_false fun y => h (by have := V.int.inj y; omega)]
section
variable {P : Program} {w : World} {K : PySem.W.Frag} {mg : Str → Option Value} {base : Heap}
theorem sc_astr : FnScope ["part", "word", "arguments", "n"] ["part", "word", "arguments"] (defScope s_astr) := ⟨rfl, rfl, rfl, by decide +kernel, rfl, by decide +kernel, by decide +kernel⟩
theorem ok_astr {n : Int} {f fT fB fL fS : Addr} {fd fdT fdB fdL fdS : FuncData} (F : Fun K "asks_string" "asks_string" s_astr f fd) (N : Nm mg) (T : DefOk K mg "takes_index" s_takes ["tops", "word", "arguments"] fT fdT) (G : FnOk P w K mg base CX0 3 fT fdT ["tops", "word", "arguments"] spTakes)
    (B : DefOk K mg "is_between" sBtw ["value", "low", "high"] fB fdB) (GB : FnOk P w K mg base CX0 2 fB fdB ["value", "low", "high"] spBtw) (L : DefOk K mg "are_letters" s_lets ["value"] fL fdL) (GL : FnOk P w K mg base CX0 2 fL fdL ["value"] spLets)
    (S : DefOk K mg "are_states" sAreStates ["value"] fS fdS) (GS : FnOk P w K mg base CX0 4 fS fdS ["value"] (spP statesB)) : FnOk P w K mg base CX0 5 f fd ["part", "word", "arguments"] (spQs (okStr n) (stringB n)) := by
  refine F.ok sc_astr (fun vs H Q E h => ?_) (fun cdv A outer s H vs Q E hr h => ?_)
  · obtain ⟨a0, a, ps, z, xs, as, rfl, _⟩ := h
    rfl
  · obtain ⟨a0, a, ps, z, xs, as, rfl, h0, ⟨x0, x1, r, rfl⟩, hz, ha, hx, hsh, q⟩ := h
    have hr2 : Room 2 _ := hr.mono (by decide)
    have hr3 : Room 3 _ := hr.mono (by decide)
    refine ⟨_, (pss_cons (ps_set (i := 3) sc_astr.nd rfl (Or.inl rfl) (pe_ix ix_tup (pv 0) pe_int (fun _ _ => rfl)))
      (C8.pss_cut (ps_if (PW.pt (pw_and (pt_cmpR op_eq (pv 1) pe_str (nomark _)) (pw_and1 (pt_cmpR op_eq (pe_callB call_len_seq (by rfl) N.len PySem.boot_len (pa_cons (pv 2) pa_nil)) pe_int (nomark _)))))
        (pss_one (ps_ret (pe_and (pe_call GB hr2 rfl B.g B.F.kp B.b .nil pass0 (pa_cons (pe_ix ix_tup (pv 2) pe_int (fun _ _ => rfl)) (pa_cons pe_int (pa_cons (pe_op op_sub (pv 3) pe_int) pa_nil)))) (pe_one (pe_call GL hr2 rfl L.g L.F.kp L.b .nil pass0 (pa_cons (pe_ix ix_tup (pv 2) pe_int (fun _ _ => rfl)) pa_nil))))))
        pss_nil)
      (C8.pss_cut (ps_if (PW.pt (pw_and (pt_cmpR op_eq (pv 1) pe_str (nomark _)) (pw_and1 (pt_cmpR op_eq (pe_callB call_len_seq (by rfl) N.len PySem.boot_len (pa_cons (pv 2) pa_nil)) pe_int (nomark _)))))
        (pss_one (ps_ret (pe_and (pe_call GB hr2 rfl B.g B.F.kp B.b .nil pass0 (pa_cons (pe_ix ix_tup (pv 2) pe_int (fun _ _ => rfl)) (pa_cons pe_int (pa_cons (pv 3) pa_nil)))) (pe_one (pe_call GS hr rfl S.g S.F.kp S.b .nil pass0 (pa_cons (pe_ix ix_tup (pv 2) pe_int (fun _ _ => rfl)) pa_nil))))))
        pss_nil)
      (pss_one (ps_ret (pe_call G hr3 rfl T.g T.F.kp T.b .nil pass0 (pa_cons (pe_disp (pps_cons pe_str (pe_op op_sub (pv 3) pe_int) (pps_cons pe_str (pv 3) pps_nil)) (by rfl) (by rfl) (fun z => by cases z) (by decide)) (pa_cons (pv 1) (pa_cons (pv 2) pa_nil))))))))), ?_⟩
    refine ⟨_, rfl, a0, _, _, _, rfl, rfl, sqT_rd h0, atI_nat (j := 2) rfl, ?_⟩
    refine ⟨fun σ H' => σ = [some (.ref a0), some (.str z), some (.ref a), some (.int n)] ∧ H' = H ∧ (decide (z = "letter_in") && decide (as.length = 2)) = false, ?_, ?_⟩
    · refine ⟨_, rfl, rfl, _, rfl, ?_⟩
      rw [dec_str]
      cases ez : decide (z = ("letter_in" : Str)) with
      | false => exact if_f rfl (if_f rfl ⟨rfl, rfl, rfl⟩)
      | true =>
        refine if_t rfl ⟨_, rfl, a, xs, rfl, .inr (sqT_rd ha), rfl, _, rfl, ?_⟩
        show (if decide (V.int ((xs.length : Nat) : Int) = V.int ((2 : Nat) : Int)) = true then _ else _)
        rw [dec_len, hx.len]
        cases el : decide (as.length = 2) with
        | false => exact if_f rfl ⟨rfl, rfl, rfl⟩
        | true =>
          refine if_t rfl ?_
          have hl2 := of_decide_eq_true el
          match as, xs, hx, ha, hl2, q, hsh with
          | [l, o], [xl, xo], .cons dl (.cons dO .nil), ha, _, q, hsh =>
            have z1 : ∀ H', Same H H' → Q (.bl (btw 0 (n - 1) l && letsB o)) H' := fun H' S' => by
              have := q H' S'
              unfold stringB at this
              rw [ez, if_pos (show (true && decide (([l, o] : List PyData).length = 2)) = true from rfl)] at this
              exact this
            refine ⟨_, rfl, a, _, _, _, rfl, rfl, sqT_rd ha, atI_nat (j := 0) rfl, _, rfl, _, _, rfl, rfl, xl, l, 0, n - 1, rfl, dl, fun H3 S3 => ⟨_, rfl, ?_⟩⟩
            cases eb : btw 0 (n - 1) l with
            | false =>
              rw [eb] at z1
              exact if_f rfl (z1 H3 S3)
            | true =>
              rw [eb] at z1
              exact if_t rfl ⟨_, rfl, a, _, _, _, rfl, rfl, sqT_rd (upR ha S3), atI_nat (j := 1) rfl, xo, o, rfl, dO.same S3, hsh o (by simp), fun H4 S4 => z1 H4 (S3.trans S4)⟩
    · rintro σ H2 ⟨rfl, rfl, hf⟩
      refine ⟨fun σ H' => σ = [some (.ref a0), some (.str z), some (.ref a), some (.int n)] ∧ H' = H2 ∧ (decide (z = "state_in") && decide (as.length = 2)) = false, ?_, ?_⟩
      · refine ⟨_, rfl, rfl, _, rfl, ?_⟩
        rw [dec_str]
        cases ez : decide (z = ("state_in" : Str)) with
        | false => exact if_f rfl (if_f rfl ⟨rfl, rfl, rfl⟩)
        | true =>
          refine if_t rfl ⟨_, rfl, a, xs, rfl, .inr (sqT_rd ha), rfl, _, rfl, ?_⟩
          show (if decide (V.int ((xs.length : Nat) : Int) = V.int ((2 : Nat) : Int)) = true then _ else _)
          rw [dec_len, hx.len]
          cases el : decide (as.length = 2) with
          | false => exact if_f rfl ⟨rfl, rfl, rfl⟩
          | true =>
            refine if_t rfl ?_
            have hl2 := of_decide_eq_true el
            match as, xs, hx, ha, hl2, q, hsh, hf with
            | [l, o], [xl, xo], .cons dl (.cons dO .nil), ha, _, q, hsh, hf =>
              have z1 : ∀ H', Same H2 H' → Q (.bl (btw 0 n l && statesB o)) H' := fun H' S' => by
                have := q H' S'
                unfold stringB at this
                rw [hf, ez, if_neg Bool.false_ne_true, if_pos (show (true && decide (([l, o] : List PyData).length = 2)) = true from rfl)] at this
                exact this
              refine ⟨_, rfl, a, _, _, _, rfl, rfl, sqT_rd ha, atI_nat (j := 0) rfl, _, rfl, xl, l, 0, n, rfl, dl, fun H3 S3 => ⟨_, rfl, ?_⟩⟩
              cases eb : btw 0 n l with
              | false =>
                rw [eb] at z1
                exact if_f rfl (z1 H3 S3)
              | true =>
                rw [eb] at z1
                exact if_t rfl ⟨_, rfl, a, _, _, _, rfl, rfl, sqT_rd (upR ha S3), atI_nat (j := 1) rfl, xo, o, rfl, dO.same S3, fun H4 S4 => z1 H4 (S3.trans S4)⟩
      · rintro σ H3 ⟨rfl, rfl, hf2⟩
        have q2 : ∀ H', Same H3 H' → Q (.bl (takesB [("letter", n - 1), ("state", n)] z as)) H' := fun H' S' => by
          have := q H' S'
          unfold stringB at this
          rw [hf, hf2, if_neg Bool.false_ne_true, if_neg Bool.false_ne_true] at this
          exact this
        refine fun p2 np2 => ⟨_, rfl, _, _, rfl, rfl, _, rfl, upd_same, kvT [("letter", n - 1), ("state", n)], rfl, (by show 2 ≤ 15; decide), ?_⟩
        have g : upd (upd H3 p2 (.dK [])) p2 (.dK (mergeK [] (kvT [("letter", n - 1), ("state", n)]))) p2 = some (.dK (kvT [("letter", n - 1), ("state", n)])) := upd_same
        have S := disp_same (o := .dK (mergeK [] (kvT [("letter", n - 1), ("state", n)]))) np2
        generalize upd (upd H3 p2 (.dK [])) p2 (.dK (mergeK [] (kvT [("letter", n - 1), ("state", n)]))) = H4 at g S ⊢
        exact ⟨_, rfl, _, rfl, p2, a, _, z, xs, as, rfl, g, upR ha S, hx.same S, fun H' S' => q2 H' (S.trans S')⟩
end
end K9
set_option maxRecDepth 100000
set_option maxHeartbeats 8000000
namespace L2
open PySem PySem.Spec PyProof.Rows
section
variable {X : Cx} {d : Addr} {es : Array DictEntry} {n : Nat}
/-- d[key], d a written dict of the module -/
def rIxKd (K : PySem.W.Frag) (d : Addr) : R2 := fun x y H Q => ∃ (z : Str) (u0 : Value) (v0 : V), x = .ref d ∧ y = .str z ∧ PySem.W.nsIn K d z = some (some u0) ∧ RelV v0 u0 ∧ Q v0 H
theorem ix_kd (D : KDict X.K X.w d es n) : IxR X (rIxKd X.K d) := by
  intro value slice pins s σ H x y v u Q I rx ry h hs
  have h2 := op_item_kd D pins s σ H x y v u Q I rx ry h
  obtain ⟨z, u0, v0, rfl, _⟩ := h
  cases rx
  exact tail_any (kd_type D I) PySem.F.slot_dict_getitem.lookup h2 hs
def rNotInKd (K : PySem.W.Frag) (d : Addr) : R2 := fun x y H Q => ∃ (z : Str) (r : Option Value), x = .str z ∧ y = .ref d ∧ PySem.W.nsIn K d z = some r ∧ Q (.bl (!r.isSome)) H
theorem op_notInKd (D : KDict X.K X.w d es n) : OpR X (compareOp .NotIn) (rNotInKd X.K d) := op_notIn_kd D
end
end L2
namespace K9
open PySem PySem.Spec PyProof.Rows L2
/-! ### is_question of a part whose check is known -/
abbrev s_quest : Stmt := top 17
structure ChkG (P : Program) (w : World) (K : PySem.W.Frag) (mg : Str → Option Value) (base : Heap) (dC : Addr) (S : Addr → Option Sp) : Prop where
  g : mg "CHECKS" = some (.ref dC)
  k : ∃ es n, KDict K w dC es n
  held : ∀ f sp, S f = some sp → Held P w K mg base 8 f sp
def askQ (g : Str → List PyData → Bool) : List PyData → Bool
  | .str z :: as => g z as
  | _ => false
def spQuest (K : PySem.W.Frag) (dC : Addr) (S : Addr → Option Sp) : Sp := fun vs H Q _ => ∃ (a0 b fa : Addr) (zk : Str) (ps xs : List V) (q : List PyData) (sq : Sp) (g : Str → List PyData → Bool), vs = [.ref a0, .ref b] ∧ TP H a0 (.str zk :: ps) ∧ PySem.W.nsIn K dC zk = some (some (.ref fa)) ∧ S fa = some sq ∧
  (∀ (z : Str) (b2 : Addr) (xs' : List V) (as : List PyData) (H2 : Hp), Same H H2 → z.length ≤ 1000 → TP H2 b2 xs' → DatAll H2 xs' as → shortQ as → (∀ H', Same H2 H' → Q (.bl (g z as)) H') → sq [.ref a0, .str z, .ref b2] H2 Q E0) ∧
  TP H b xs ∧ DatAll H xs q ∧ shortQ q ∧ ∀ H', Same H H' → Q (.bl (askQ g q)) H'
section
variable {P : Program} {w : World} {K : PySem.W.Frag} {mg : Str → Option Value} {base : Heap}
theorem sc_quest : FnScope ["part", "question", "kind", "check"] ["part", "question"] (defScope s_quest) := ⟨rfl, rfl, rfl, by decide +kernel, rfl, by decide +kernel, by decide +kernel⟩
theorem ok_quest {f : Addr} {fd : FuncData} {dC : Addr} {S : Addr → Option Sp} (F : Fun K "is_question" "is_question" s_quest f fd) (T : Nm mg) (Z : ChkG P w K mg base dC S) : FnOk P w K mg base CX0 9 f fd ["part", "question"] (spQuest K dC S) := by
  obtain ⟨esC, nC, DC⟩ := Z.k
  refine F.ok sc_quest (fun vs H Q E h => ?_) (fun cdv A outer s H vs Q E hr h => ?_)
  · obtain ⟨a0, b, fa, zk, ps, xs, q, sq, g, rfl, _⟩ := h
    rfl
  · obtain ⟨a0, b, fa, zk, ps, xs, qs, sq, g, rfl, h0, hns, hS, hsp, hb, hx, hsh, q⟩ := h
    refine ⟨_, (pss_cons (ps_set (i := 2) sc_quest.nd rfl (Or.inl rfl) (pe_ix ix_tup (pv 0) pe_int (fun _ _ => rfl)))
      (pss_cons (ps_if (PW.pt (pw_or (pt_cmpR op_eq (pe_callB call_len_seq (by rfl) T.len PySem.boot_len (pa_cons (pv 1) pa_nil)) pe_int (nomark _)) (pw_or (pt_not (pt_val (pe_callB call_isi (by rfl) T.isinstance boot_isinstance (pa_cons (pe_ix ix_tup (pv 1) pe_int (fun _ _ => rfl)) (pa_cons (pe_bltn (v := .ty "str") rfl T.str (by decide +kernel) rfl) pa_nil))))) (pw_or1 (pt_cmpR (op_notInKd (X := _) DC) (pv 2) (pe_glob (v := .ref dC) rfl Z.g rfl) rfl)))))
        (pss_one (ps_ret pe_bl))
        pss_nil)
      (pss_cons (ps_set (i := 3) sc_quest.nd rfl (Or.inl rfl) (pe_ix (ix_kd (X := _) DC) (pe_glob (v := .ref dC) rfl Z.g rfl) (pv 2) (fun _ _ => rfl)))
      (pss_one (ps_ret (pe_callA (i := 3) (S := S) Z.held hr rfl (Or.inl rfl) (pa_cons (pv 0) (pa_cons (pe_ix ix_tup (pv 1) pe_int (fun _ _ => rfl)) (pa_cons (pe_slice sl_tupA (pv 1) (po_some pe_int) po_none) pa_nil))))))))), ?_⟩
    have q0 := q H (Same.refl H)
    refine ⟨_, rfl, a0, _, _, _, rfl, rfl, sqT_rd h0, atI_nat (j := 0) rfl, ?_⟩
    refine ⟨_, rfl, b, xs, rfl, .inr (sqT_rd hb), rfl, _, rfl, ?_⟩
    cases hx with
    | nil => exact if_t rfl (if_t rfl q0)
    | @cons x0 xs' d0 qs' c0 cs =>
      refine if_f (decide_eq_false fun y => ?_) ?_
      · have := V.int.inj y
        rw [List.length_cons] at this
        omega
      refine ⟨_, rfl, b, _, _, x0, rfl, rfl, sqT_rd hb, atI_nat (j := 0) rfl, x0, .ty "str", _, _, _, rfl, .ty _, c0.ty, kit_str _ d0, _, rfl, ?_⟩
      by_cases hs : isStr d0 = true
      case neg =>
        rw [Bool.not_eq_true] at hs
        rw [hs]
        refine if_t rfl (if_t rfl ?_)
        have : askQ g (d0 :: qs') = false := by
          cases d0 with
          | str z => cases hs
          | _ => rfl
        rw [this] at q0
        exact q0
      obtain ⟨z, rfl⟩ : ∃ z, d0 = .str z := by
        cases d0 with
        | str z => exact ⟨z, rfl⟩
        | _ => cases hs
      refine if_f rfl ?_
      cases c0 with
      | str _ hz =>
        have cut1 : cutV (V.str z :: xs') (some 1) none = xs' := by
          unfold cutV
          have e1 : HT.sIx (V.str z :: xs').length 0 (some ((1 : Nat) : Int)) = min 1 (V.str z :: xs').length := HT.sIx_nat _ _ 1
          have e0 : HT.sIx (V.str z :: xs').length (V.str z :: xs').length none = (V.str z :: xs').length := rfl
          rw [e0]
          have e2 : HT.sIx (V.str z :: xs').length 0 (some 1) = 1 := by
            rw [show (some 1 : Option Int) = some ((1 : Nat) : Int) from rfl, e1, List.length_cons]
            omega
          rw [e2]
          simp
        refine ⟨_, rfl, zk, _, rfl, rfl, hns, _, rfl, if_f rfl ⟨_, rfl, zk, .ref fa, .ref fa, rfl, rfl, hns, rfl, fa, sq, rfl, hS, _, rfl, _, rfl, b, _, _, .str z, rfl, rfl, sqT_rd hb, atI_nat (j := 0) rfl, _, rfl, 1, rfl, ?_⟩⟩
        dsimp only [tNoPart]
        refine slAny_of hb fun b2 H2 S2 hb2 => ?_
        rw [cut1] at hb2
        exact hsp z b2 xs' qs' H2 S2 hz hb2 (cs.same S2) (fun d hd => hsh d (List.mem_cons_of_mem _ hd)) fun H' S' => q H' (S2.trans S')
end
end K9
set_option maxRecDepth 100000
set_option maxHeartbeats 8000000
namespace K9
open PySem PySem.Spec PyProof.Rows L2
/-! ### part_at and is_query over any parts -/
abbrev s_next : Stmt := top 10
abbrev s_part : Stmt := top 9
abbrev s_query : Stmt := top 32
structure Sys where
  ι : Type
  pd : ι → PyData
  nx : ι → PyData → Option ι
  ok : ι → Prop
  ask : ι → List PyData → Bool
  isref : ∀ {H : Hp} {v : V} {i : ι}, Dat H v (pd i) → ∃ a : Addr, v = .ref a
  keep : ∀ {i j : ι} {d : PyData}, ok i → nx i d = some j → ok j
def partI (Y : Sys) : Y.ι → List PyData → Option Y.ι
  | s, [] => some s
  | s, d :: ds => match Y.nx s d with
    | none => none
    | some e => partI Y e ds
def queryI (Y : Sys) (s : Y.ι) : PyData → Bool
  | .tuple (.tuple ds :: q) => match partI Y s ds with
    | some e => Y.ask e q
    | none => false
  | _ => false
theorem path_okI {Y : Sys} : ∀ {ds : List PyData} {s e : Y.ι}, Y.ok s → partI Y s ds = some e → Y.ok e
  | [], s, e, hs, h => by
    cases h
    exact hs
  | d :: ds, s, e, hs, h => by
    have h' : (match Y.nx s d with | none => none | some e' => partI Y e' ds) = some e := h
    cases hn : Y.nx s d with
    | none =>
      rw [hn] at h'
      cases h'
    | some e' =>
      rw [hn] at h'
      exact path_okI (Y.keep hs hn) h'
def spNext (Y : Sys) : Sp := fun vs H Q _ => ∃ (v x : V) (s : Y.ι) (d : PyData), vs = [v, x] ∧ Dat H v (Y.pd s) ∧ Dat H x d ∧ Y.ok s ∧
  (∀ H', Same H H' → Y.nx s d = none → Q .non H') ∧ ∀ (u : V) (e : Y.ι) (H' : Hp), Same H H' → Y.nx s d = some e → Dat H' u (Y.pd e) → Q u H'
def spPart (Y : Sys) : Sp := fun vs H Q _ => ∃ (v x : V) (s : Y.ι) (d : PyData), vs = [v, x] ∧ Dat H v (Y.pd s) ∧ Dat H x d ∧ Y.ok s ∧
  (∀ H', Same H H' → (∀ ds, d = .tuple ds → partI Y s ds = none) → Q .non H') ∧ ∀ (u : V) (e : Y.ι) (ds : List PyData) (H' : Hp), Same H H' → d = .tuple ds → partI Y s ds = some e → Dat H' u (Y.pd e) → Q u H'
def spQuestI (Y : Sys) : Sp := fun vs H Q _ => ∃ (v : V) (b : Addr) (s : Y.ι) (xs : List V) (q : List PyData), vs = [v, .ref b] ∧ Dat H v (Y.pd s) ∧ Y.ok s ∧ TP H b xs ∧ DatAll H xs q ∧ shortQ q ∧ ∀ H', Same H H' → Q (.bl (Y.ask s q)) H'
def spQuery (Y : Sys) : Sp := fun vs H Q _ => ∃ (v x : V) (s : Y.ι) (d : PyData), vs = [v, x] ∧ Dat H v (Y.pd s) ∧ Y.ok s ∧ Dat H x d ∧ shortQ (tupItems d) ∧ ∀ H', Same H H' → Q (.bl (queryI Y s d)) H'
section
variable {P : Program} {w : World} {K : PySem.W.Frag} {mg : Str → Option Value} {base : Heap}
theorem sc_part : FnScope ["space", "path", "part", "step"] ["space", "path"] (defScope s_part) := ⟨rfl, rfl, rfl, by decide +kernel, rfl, by decide +kernel, by decide +kernel⟩
theorem sc_query : FnScope ["space", "value", "part"] ["space", "value"] (defScope s_query) := ⟨rfl, rfl, rfl, by decide +kernel, rfl, by decide +kernel, by decide +kernel⟩
theorem ok_part {Y : Sys} {f fN : Addr} {fd fdN : FuncData} (F : Fun K "part_at" "part_at" s_part f fd) (T : Nm mg) (D : DefOk K mg "next_part" s_next ["part", "step"] fN fdN) (G : FnOk P w K mg base CX0 3 fN fdN ["part", "step"] (spNext Y)) : FnOk P w K mg base CX0 4 f fd ["space", "path"] (spPart Y) := by
  refine F.ok sc_part (fun vs H Q E h => ?_) (fun cdv A outer s H vs Q E hr h => ?_)
  · obtain ⟨v, x, s, d, rfl, _⟩ := h
    rfl
  · obtain ⟨v, x, sp, d, rfl, hv, hx, hok, q0, q1⟩ := h
    refine ⟨_, (pss_cons (ps_if (pt_not (pt_val (pe_callB call_isi (by rfl) T.isinstance boot_isinstance (pa_cons (pv 1) (pa_cons (pe_bltn (v := .ty "tuple") rfl T.tuple (by decide +kernel) rfl) pa_nil)))))
        (pss_one (ps_ret pe_non))
        pss_nil)
      (pss_cons (ps_set (i := 2) sc_part.nd rfl (Or.inl rfl) (pv 0))
      (pss_cons (ps_for PassesOwn.never rfl (pi_tup (pv 1)) (pg_name (i := 3) sc_part.nd rfl (Or.inl rfl))
        (pss_cons (ps_set (i := 2) sc_part.nd rfl (Or.inl rfl) (pe_call G hr rfl D.g D.F.kp D.b .nil pass0 (pa_cons (pv 2) (pa_cons (pv 3) pa_nil))))
        (pss_one (ps_if (pt_cmpR op_isN (pv 2) pe_non (nomark _))
          (pss_one (ps_ret pe_non))
          pss_nil))))
      (pss_one (ps_ret (pv 2)))))), ?_⟩
    refine ⟨_, rfl, x, .ty "tuple", _, _, _, rfl, .ty _, hx.ty, kit_tuple _ d, _, rfl, ?_⟩
    cases ht : isTup d with
    | false =>
      refine if_t rfl (q0 H (Same.refl H) fun ds e => ?_)
      rw [e] at ht
      cases ht
    | true =>
      obtain ⟨ds, rfl⟩ : ∃ ds, d = .tuple ds := by
        cases d with
        | tuple ds => exact ⟨ds, rfl⟩
        | _ => cases ht
      refine if_f rfl ?_
      cases hx with
      | @tup ax xs _ hax hxs =>
        refine ⟨_, rfl, _, rfl, ax, rfl, ⟨_, sqT_rd hax⟩, for_tup (K := K) (a := ax) (xs := xs) (fun j σ H' => ∃ (u : V) (e : Y.ι) (w3 : Option V), σ = [some v, some (.ref ax), some u, w3] ∧ Same H H' ∧ Dat H' u (Y.pd e) ∧ Y.ok e ∧ partI Y sp ds = partI Y e (ds.drop j))
          ⟨v, sp, none, rfl, Same.refl H, hv, hok, rfl⟩ (fun j σ H' _ ⟨_, _, _, _, S, _⟩ => sqT_rd (upR hax S)) ?_ ?_⟩
        · rintro j y σ H1 hj ⟨u, e, w3, rfl, S1, du, oe, hp⟩
          obtain ⟨c, hc, tc⟩ := hxs.get hj
          have hdrop : ds.drop j = c :: ds.drop (j + 1) := by
            obtain ⟨hlt, e⟩ := List.getElem?_eq_some_iff.mp hc
            rw [← e]
            exact List.drop_eq_getElem_cons hlt
          have step : partI Y sp ds = match Y.nx e c with
              | none => none
              | some e' => partI Y e' (ds.drop (j + 1)) := by
            rw [hp, hdrop]
            rfl
          refine ⟨_, rfl, _, rfl, u, y, e, c, rfl, du, tc.same S1, oe, fun H2 S2 hn => ?_, fun u2 e2 H2 S2 hn d2 => ?_⟩
          · refine ⟨_, rfl, rfl, _, rfl, if_t rfl ?_⟩
            rw [hn] at step
            refine q0 H2 (S1.trans S2) fun ds' e' => ?_
            injection e' with e'
            rw [← e']
            exact step
          · obtain ⟨a2, rfl⟩ := Y.isref d2
            refine ⟨_, rfl, rfl, _, rfl, if_f rfl ?_⟩
            rw [hn] at step
            exact ⟨_, e2, _, rfl, S1.trans S2, d2, Y.keep oe hn, step⟩
        · rintro σ H1 ⟨u, e, w3, rfl, S1, du, oe, hp⟩
          have hd : ds.drop xs.length = [] := by rw [hxs.len, List.drop_length]
          rw [hd] at hp
          exact ⟨_, rfl, q1 u e ds H1 S1 rfl hp du⟩
theorem ok_query {Y : Sys} {f fP fQ : Addr} {fd fdP fdQ : FuncData} (F : Fun K "is_query" "is_query" s_query f fd) (T : Nm mg) (DP : DefOk K mg "part_at" s_part ["space", "path"] fP fdP) (GP : FnOk P w K mg base CX0 4 fP fdP ["space", "path"] (spPart Y))
    (DQ : DefOk K mg "is_question" s_quest ["part", "question"] fQ fdQ) (GQ : FnOk P w K mg base CX0 9 fQ fdQ ["part", "question"] (spQuestI Y)) : FnOk P w K mg base CX0 10 f fd ["space", "value"] (spQuery Y) := by
  refine F.ok sc_query (fun vs H Q E h => ?_) (fun cdv A outer s H vs Q E hr h => ?_)
  · obtain ⟨v, x, s, d, rfl, _⟩ := h
    rfl
  · obtain ⟨v, x, sp, d, rfl, hv, hok, hx, hsh, q⟩ := h
    have hr4 : Room 4 _ := hr.mono (by decide)
    refine ⟨_, (pss_cons (ps_if (PW.pt (pw_or (pt_not (pt_val (pe_callB call_isi (by rfl) T.isinstance boot_isinstance (pa_cons (pv 1) (pa_cons (pe_bltn (v := .ty "tuple") rfl T.tuple (by decide +kernel) rfl) pa_nil))))) (pw_or1 (pt_cmpR op_eq (pe_callB call_len_seq (by rfl) T.len PySem.boot_len (pa_cons (pv 1) pa_nil)) pe_int (nomark _)))))
        (pss_one (ps_ret pe_bl))
        pss_nil)
      (pss_cons (ps_set (i := 2) sc_query.nd rfl (Or.inl rfl) (pe_call GP hr4 rfl DP.g DP.F.kp DP.b .nil pass0 (pa_cons (pv 0) (pa_cons (pe_ix ix_tup (pv 1) pe_int (fun _ _ => rfl)) pa_nil))))
      (pss_one (ps_ret (pe_and (pe_cmpR op_notN (pv 2) pe_non (nomark _)) (pe_one (pe_call GQ hr rfl DQ.g DQ.F.kp DQ.b .nil pass0 (pa_cons (pv 2) (pa_cons (pe_slice sl_tupA (pv 1) (po_some pe_int) po_none) pa_nil))))))))), ?_⟩
    have q0 := q H (Same.refl H)
    refine ⟨_, rfl, x, .ty "tuple", _, _, _, rfl, .ty _, hx.ty, kit_tuple _ d, _, rfl, ?_⟩
    by_cases ht : isTup d = true
    case neg =>
      rw [Bool.not_eq_true] at ht
      have e : queryI Y sp d = false := by
        cases d with
        | tuple ds => cases ht
        | _ => rfl
      rw [ht]
      rw [e] at q0
      exact if_t rfl (if_t rfl q0)
    obtain ⟨ds, rfl⟩ : ∃ ds, d = .tuple ds := by
      cases d with
      | tuple ds => exact ⟨ds, rfl⟩
      | _ => cases ht
    refine if_f rfl ?_
    cases hx with
    | @tup ax xs _ hax hxs =>
      refine ⟨_, rfl, ax, xs, rfl, .inr (sqT_rd hax), rfl, _, rfl, ?_⟩
      cases hxs with
      | nil => exact if_t rfl q0
      | @cons x0 xs' d0 qs c0 cs =>
        refine if_f (decide_eq_false fun y => ?_) ?_
        · have := V.int.inj y
          rw [List.length_cons] at this
          omega
        have cut1 : cutV (x0 :: xs') (some 1) none = xs' := by
          unfold cutV
          have e1 : HT.sIx (x0 :: xs').length 0 (some ((1 : Nat) : Int)) = min 1 (x0 :: xs').length := HT.sIx_nat _ _ 1
          have e0 : HT.sIx (x0 :: xs').length (x0 :: xs').length none = (x0 :: xs').length := rfl
          rw [e0]
          have e2 : HT.sIx (x0 :: xs').length 0 (some 1) = 1 := by
            rw [show (some 1 : Option Int) = some ((1 : Nat) : Int) from rfl, e1, List.length_cons]
            omega
          rw [e2]
          simp
        refine ⟨_, rfl, _, rfl, ax, _, _, x0, rfl, rfl, sqT_rd hax, atI_nat (j := 0) rfl, v, x0, sp, d0, rfl, hv, c0, hok, fun H1 S1 hn => ?_, fun u e ds H1 S1 hd0 hp du => ?_⟩
        · have z1 := q H1 S1
          have e : queryI Y sp (.tuple (d0 :: qs)) = false := by
            cases d0 with
            | tuple ds =>
              show (match partI Y sp ds with | some e => Y.ask e qs | none => false) = false
              rw [hn ds rfl]
            | _ => rfl
          rw [e] at z1
          exact ⟨_, rfl, rfl, _, rfl, if_f rfl z1⟩
        · subst hd0
          obtain ⟨a2, rfl⟩ := Y.isref du
          refine ⟨_, rfl, rfl, _, rfl, if_t rfl ⟨_, rfl, _, rfl, 1, rfl, ?_⟩⟩
          dsimp only [tNoPart]
          refine slAny_of (upR hax S1) fun b2 H2 S2 hb2 => ?_
          rw [cut1] at hb2
          refine ⟨_, b2, e, xs', qs, rfl, du.same S2, ?_, hb2, (cs.same S1).same S2, (fun d hd => hsh d (List.mem_cons_of_mem _ hd)), fun H' S' => ?_⟩
          · exact path_okI hok hp
          · have z1 := q H' ((S1.trans S2).trans S')
            have e2 : queryI Y sp (.tuple (.tuple ds :: qs)) = Y.ask e qs := by
              show (match partI Y sp ds with | some e => Y.ask e qs | none => false) = Y.ask e qs
              rw [hp]
            rw [e2] at z1
            exact z1
end
end K9
set_option maxRecDepth 100000
set_option maxHeartbeats 4000000
namespace K9
open PySem PySem.Spec PyProof.Rows L2
/-! ### the spaces of this law, as data -/
/-- a leaf -/
inductive L9
  | sub (n k : Nat)
  | word (cs : Cn)
  | arr (o : PyData)
  | walk (n s e lo hi : Int)
  | cyc (n : Nat)
  | mat (n : Nat)
  | perm (n : Nat) (d : PyData)
  | tree (n : Nat)
  | str (ms : List (Nat × Str × Nat)) (ac : List Nat) (n : Nat)
inductive S9 where
  | leaf (l : L9)
  | row (c : Bool) (xs : List S9)
  | pow (n : Nat) (x : S9)
  | dec (cs : Cn) (xs : List S9)
def mvA (m : Nat × Str × Nat) : PyData := .tuple [.int (m.1 : Nat), .str m.2.1, .int (m.2.2 : Nat)]
def ldt : L9 → PyData
  | .sub n k => .tuple [.str "subset", .int (n : Nat), .int (k : Nat)]
  | .word cs => .tuple [.str "word", cntsD cs]
  | .arr o => .tuple [.str "arrangement", o]
  | .walk n s e lo hi => .tuple [.str "walk", .int n, .int s, .int e, .int lo, .int hi]
  | .cyc n => .tuple [.str "cycle", .int (n : Nat)]
  | .mat n => .tuple [.str "matching", .int (n : Nat)]
  | .perm n d => .tuple [.str "permutation", .int (n : Nat), d]
  | .tree n => .tuple [.str "tree", .int (n : Nat)]
  | .str ms ac n => .tuple [.str "string", .tuple [.tuple (ms.map mvA), .tuple (ac.map fun i => .int (i : Nat))], .int (n : Nat)]
def rowW (c : Bool) : Str := if c = true then "choice" else "product"
mutual
def dt : S9 → PyData
  | .leaf l => ldt l
  | .row c xs => .tuple [.str (rowW c), .tuple (dts xs)]
  | .pow n x => .tuple [.str "power", .int (n : Nat), dt x]
  | .dec cs xs => .tuple [.str "decorated", cntsD cs, .tuple (dts xs)]
def dts : List S9 → List PyData
  | [] => []
  | x :: xs => dt x :: dts xs
end
theorem dts_map : ∀ xs : List S9, dts xs = xs.map dt
  | [] => by rw [dts]; rfl
  | x :: xs => by rw [dts, dts_map xs]; rfl
theorem dts_len (xs : List S9) : (dts xs).length = xs.length := by rw [dts_map, List.length_map]
/-! what stands inside, by its step -/
def enumS : Nat → List S9 → List (PyData × S9)
  | _, [] => []
  | k, x :: xs => (.int (k : Nat), x) :: enumS (k + 1) xs
def decS (p : (Str × Nat) × S9) : List (PyData × S9) := (List.range p.1.2).map fun j => (.tuple [.str p.1.1, .int (j : Nat)], p.2)
def nestS : S9 → List (PyData × S9)
  | .leaf _ => []
  | .row _ xs => enumS 0 xs
  | .pow n x => (List.range n).map fun k => (.int (k : Nat), x)
  | .dec cs xs => (cs.zip xs).flatMap decS
def findDec : List ((Str × Nat) × S9) → PyData → PyData → Option S9
  | [], _, _ => none
  | p :: r, l, o => if (isS p.1.1 l && btw 0 ((p.1.2 : Int) - 1) o) = true then some p.2 else findDec r l o
def nextDec (r : List ((Str × Nat) × S9)) : PyData → Option S9
  | .tuple [l, o] => findDec r l o
  | _ => none
def nextS : S9 → PyData → Option S9
  | .leaf _, _ => none
  | .row _ xs, d => if btw 0 ((xs.length : Int) - 1) d = true then xs[(intOf d).toNat]? else none
  | .pow n x, d => if btw 0 ((n : Int) - 1) d = true then some x else none
  | .dec cs xs, d => nextDec (cs.zip xs) d
theorem enum_get : ∀ (xs : List S9) (k : Nat) (d : PyData) (e : S9), (d, e) ∈ enumS k xs ↔ ∃ j : Nat, d = .int ((k + j : Nat) : Int) ∧ xs[j]? = some e
  | [], k, d, e => by simp [enumS]
  | x :: xs, k, d, e => by
    rw [enumS, List.mem_cons, enum_get xs (k + 1) d e]
    constructor
    · rintro (h | ⟨j, h1, h2⟩)
      · cases h
        exact ⟨0, rfl, rfl⟩
      · exact ⟨j + 1, by rw [h1]; congr 1; omega, h2⟩
    · rintro ⟨j, h1, h2⟩
      cases j with
      | zero =>
        left
        rw [h1]
        cases h2
        rfl
      | succ j => exact .inr ⟨j, by rw [h1]; congr 1; omega, h2⟩
theorem dec_mem {p : (Str × Nat) × S9} {d : PyData} {e : S9} : (d, e) ∈ decS p ↔ e = p.2 ∧ ∃ j : Nat, j < p.1.2 ∧ d = .tuple [.str p.1.1, .int (j : Nat)] := by
  unfold decS
  rw [List.mem_map]
  constructor
  · rintro ⟨j, hj, h⟩
    cases h
    exact ⟨rfl, j, List.mem_range.mp hj, rfl⟩
  · rintro ⟨rfl, j, hj, rfl⟩
    exact ⟨j, List.mem_range.mpr hj, rfl⟩
/-- the names of counts differ -/
def Diff : List ((Str × Nat) × S9) → Prop
  | [] => True
  | p :: r => (∀ q ∈ r, q.1.1 ≠ p.1.1) ∧ Diff r
theorem find_iff : ∀ {l : List ((Str × Nat) × S9)}, Diff l → ∀ (x y : PyData) (e : S9), findDec l x y = some e ↔ (.tuple [x, y], e) ∈ l.flatMap decS
  | [], _, x, y, e => by simp [findDec]
  | p :: r, hd, x, y, e => by
    rw [findDec, List.flatMap_cons, List.mem_append, dec_mem, ← find_iff hd.2 x y e]
    cases h : isS p.1.1 x && btw 0 ((p.1.2 : Int) - 1) y with
    | true =>
      rw [if_pos rfl]
      rw [Bool.and_eq_true] at h
      obtain ⟨i, rfl, h0, h1⟩ := btw_int h.2
      have hx := isS_iff.mp h.1
      subst hx
      constructor
      · intro he
        cases he
        exact .inl ⟨rfl, i.toNat, by omega, by rw [Int.toNat_of_nonneg h0]⟩
      · rintro (⟨rfl, _⟩ | hf)
        · rfl
        · have hm := (find_iff hd.2 _ _ e).mp hf
          obtain ⟨q, hq, hq2⟩ := List.mem_flatMap.mp hm
          obtain ⟨_, j, _, hj⟩ := dec_mem.mp hq2
          injection hj with hj
          injection hj with hj _
          injection hj with hj
          exact absurd hj.symm (hd.1 q hq)
    | false =>
      rw [if_neg Bool.false_ne_true]
      constructor
      · exact .inr
      · rintro (⟨rfl, j, hj, hd2⟩ | hf)
        · injection hd2 with hd2
          injection hd2 with h1 h2
          injection h2 with h2 _
          subst h1 h2
          have z : (isS p.1.1 (.str p.1.1) && btw 0 ((p.1.2 : Int) - 1) (.int (j : Nat))) = true := by
            rw [isS_iff.mpr rfl, btw_mk (by omega) (by omega)]
            rfl
          rw [z] at h
          cases h
        · exact hf
theorem diff_zip : ∀ {cs : Cn} (xs : List S9), (cs.map (·.1)).Nodup → Diff (cs.zip xs)
  | [], _, _ => trivial
  | _ :: _, [], _ => trivial
  | c :: cs, x :: xs, h => by
    rw [List.map_cons, List.nodup_cons] at h
    refine ⟨fun q hq e => h.1 ?_, diff_zip xs h.2⟩
    rw [← e]
    exact List.mem_map_of_mem (List.of_mem_zip (a := q.1) (b := q.2) hq).1
/-- the names of counts differ in every decorated part -/
def okD : S9 → Prop
  | .dec cs _ => (cs.map (·.1)).Nodup
  | _ => True
theorem next_iff (s : S9) (d : PyData) (e : S9) (hs : okD s) : nextS s d = some e ↔ (d, e) ∈ nestS s := by
  cases s with
  | leaf l => simp [nextS, nestS]
  | row c xs =>
    show (if btw 0 ((xs.length : Int) - 1) d = true then xs[(intOf d).toNat]? else none) = some e ↔ (d, e) ∈ enumS 0 xs
    rw [enum_get]
    cases h : btw 0 ((xs.length : Int) - 1) d with
    | true =>
      rw [if_pos rfl]
      obtain ⟨i, rfl, h0, h1⟩ := btw_int h
      constructor
      · intro he
        exact ⟨i.toNat, by congr 1; omega, he⟩
      · rintro ⟨j, hj, he⟩
        injection hj with hj
        have : (intOf (.int i)).toNat = j := by
          show i.toNat = j
          omega
        rw [this]
        exact he
    | false =>
      rw [if_neg Bool.false_ne_true]
      constructor
      · intro z
        cases z
      · rintro ⟨j, rfl, he⟩
        have hl := (List.getElem?_eq_some_iff.mp he).1
        rw [btw_mk (by omega) (by omega)] at h
        cases h
  | pow n x =>
    show (if btw 0 ((n : Int) - 1) d = true then some x else none) = some e ↔ (d, e) ∈ (List.range n).map fun k => (PyData.int (k : Nat), x)
    rw [List.mem_map]
    cases h : btw 0 ((n : Int) - 1) d with
    | true =>
      rw [if_pos rfl]
      obtain ⟨i, rfl, h0, h1⟩ := btw_int h
      constructor
      · intro he
        cases he
        exact ⟨i.toNat, List.mem_range.mpr (by omega), by rw [Int.toNat_of_nonneg h0]⟩
      · rintro ⟨k, _, hk⟩
        cases hk
        rfl
    | false =>
      rw [if_neg Bool.false_ne_true]
      constructor
      · intro z
        cases z
      · rintro ⟨k, hk, he⟩
        cases he
        have := List.mem_range.mp hk
        rw [btw_mk (by omega) (by omega)] at h
        cases h
  | dec cs xs =>
    have shape : ∀ d e, (d, e) ∈ (cs.zip xs).flatMap decS → ∃ x y, d = .tuple [x, y] := fun d e h => by
      obtain ⟨q, _, hq2⟩ := List.mem_flatMap.mp h
      obtain ⟨_, j, _, hj⟩ := dec_mem.mp hq2
      exact ⟨_, _, hj⟩
    by_cases hs : ∃ x y, d = .tuple [x, y]
    · obtain ⟨x, y, rfl⟩ := hs
      exact find_iff (diff_zip xs hs) x y e
    · constructor
      · intro h
        have h' : nextDec (cs.zip xs) d = some e := h
        unfold nextDec at h'
        split at h'
        · rename_i l o
          exact absurd ⟨l, o, rfl⟩ hs
        · cases h'
      · intro h
        exact absurd (shape d e h) hs
/-! ### the part at a path -/
def partAt : S9 → List PyData → Option S9
  | s, [] => some s
  | s, d :: ds => match nextS s d with
    | none => none
    | some e => partAt e ds
theorem partAt_snoc : ∀ (ds : List PyData) (s : S9) (d : PyData), partAt s (ds ++ [d]) = (partAt s ds).bind fun e => nextS e d
  | [], s, d => by
    show (match nextS s d with | none => none | some e => partAt e []) = nextS s d
    cases nextS s d <;> rfl
  | c :: ds, s, d => by
    show (match nextS s c with | none => none | some e => partAt e (ds ++ [d])) = (match nextS s c with | none => none | some e => partAt e ds).bind fun e => nextS e d
    cases nextS s c with
    | none => rfl
    | some e => exact partAt_snoc ds e d
end K9
set_option maxRecDepth 100000
set_option maxHeartbeats 8000000
namespace K9
open PySem PySem.Spec PyProof.Rows L2
/-! ### these parts as a system: next_part -/
def okL : L9 → Bool
  | .word cs => decide (cs.length ≤ 100)
  | .arr o => orderB 6 o
  | .mat n => decide (n ≤ 1000)
  | _ => true
mutual
def okS : S9 → Bool
  | .leaf l => okL l
  | .row _ xs => okSs xs
  | .pow _ x => okS x
  | .dec cs xs => okSs xs && (decide (cs.length ≤ 100) && (decide (xs.length = cs.length) && decide (cs.map (·.1)).Nodup))
def okSs : List S9 → Bool
  | [] => true
  | x :: xs => okS x && okSs xs
end
theorem okSs_mem : ∀ {xs : List S9} {x : S9}, okSs xs = true → x ∈ xs → okS x = true
  | [], _, _, h => by cases h
  | y :: xs, x, hb, h => by
    rw [okSs, Bool.and_eq_true] at hb
    rcases List.mem_cons.mp h with rfl | h
    · exact hb.1
    · exact okSs_mem hb.2 h
theorem okS_d {s : S9} (h : okS s = true) : okD s := by
  cases s with
  | dec cs xs =>
    rw [okS, Bool.and_eq_true, Bool.and_eq_true, Bool.and_eq_true] at h
    show (cs.map (·.1)).Nodup
    exact of_decide_eq_true h.2.2.2
  | _ => trivial
theorem next_ok {s e : S9} {d : PyData} (hs : okS s = true) (h : nextS s d = some e) : okS e = true := by
  have hm := (next_iff s d e (okS_d hs)).mp h
  cases s with
  | leaf l => cases hm
  | row c xs =>
    rw [okS] at hs
    obtain ⟨j, _, hj⟩ := (enum_get xs 0 d e).mp hm
    exact okSs_mem hs (List.mem_of_getElem? hj)
  | pow n x =>
    rw [okS] at hs
    obtain ⟨k, _, hk⟩ := List.mem_map.mp hm
    cases hk
    exact hs
  | dec cs xs =>
    rw [okS, Bool.and_eq_true] at hs
    obtain ⟨q, hq, hq2⟩ := List.mem_flatMap.mp hm
    obtain ⟨rfl, _⟩ := dec_mem.mp hq2
    exact okSs_mem hs.1 (List.of_mem_zip (a := q.1) (b := q.2) hq).2
def askL : L9 → Str → List PyData → Bool
  | .sub n k => subsetB n k
  | .word cs => wordB cs
  | .arr o => arrB o
  | .walk n s e _ _ => walkB n s e
  | .cyc n => cycleB n
  | .mat n => matchB n
  | .perm n _ => permB n
  | .tree n => treeB n
  | .str _ _ n => stringB n
def askS : S9 → Str → List PyData → Bool
  | .leaf l => askL l
  | .row c _ => fun z as => c && choiceB z as
  | .pow _ _ => fun _ _ => false
  | .dec cs _ => wordB cs
def hdL : L9 → Str
  | .sub _ _ => "subset"
  | .word _ => "word"
  | .arr _ => "arrangement"
  | .walk _ _ _ _ _ => "walk"
  | .cyc _ => "cycle"
  | .mat _ => "matching"
  | .perm _ _ => "permutation"
  | .tree _ => "tree"
  | .str _ _ _ => "string"
theorem ldt_hd (l : L9) : ∃ ds, ldt l = .tuple (.str (hdL l) :: ds) := by cases l <;> exact ⟨_, rfl⟩
def hds : List Str := ["subset", "word", "arrangement", "walk", "cycle", "matching", "permutation", "tree", "string"]
theorem hd_mem (l : L9) : hdL l ∈ hds := by cases l <;> simp [hdL, hds]
theorem hd_no : ∀ z ∈ hds, inV (.str z) [.str "product", .str "choice"] = false ∧ decide (V.str z = V.str "power") = false ∧ decide (V.str z = V.str "decorated") = false := by decide +kernel
theorem tup_hd {H : Hp} {v : V} {z : Str} {ds : List PyData} (h : Dat H v (.tuple (.str z :: ds))) : ∃ (a : Addr) (ps : List V), v = .ref a ∧ TP H a (.str z :: ps) ∧ DatAll H ps ds := by
  cases h with
  | @tup a ps _ h0 h1 =>
    cases h1 with
    | cons e t =>
      cases e
      exact ⟨a, _, rfl, h0, t⟩
theorem dt_ref {H : Hp} {v : V} {s : S9} (h : Dat H v (dt s)) : ∃ a : Addr, v = .ref a := by
  have : ∃ ds, dt s = .tuple ds := by
    cases s with
    | leaf l =>
      obtain ⟨ds, e⟩ := ldt_hd l
      exact ⟨_, by rw [dt]; exact e⟩
    | row c xs => exact ⟨_, by rw [dt]⟩
    | pow n x => exact ⟨_, by rw [dt]⟩
    | dec cs xs => exact ⟨_, by rw [dt]⟩
  obtain ⟨ds, e⟩ := this
  rw [e] at h
  cases h
  exact ⟨_, rfl⟩
def Y9 : Sys := ⟨S9, dt, nextS, fun s => okS s = true, fun s => askQ (askS s), dt_ref, next_ok⟩
theorem dat3 {H : Hp} {ps : List V} {d0 d1 d2 : PyData} (h : DatAll H ps [d0, d1, d2]) : ∃ v0 v1 v2, ps = [v0, v1, v2] ∧ Dat H v0 d0 ∧ Dat H v1 d1 ∧ Dat H v2 d2 := by
  match ps, h with
  | _, .cons a (.cons b (.cons c .nil)) => exact ⟨_, _, _, rfl, a, b, c⟩
theorem dat2 {H : Hp} {ps : List V} {d0 d1 : PyData} (h : DatAll H ps [d0, d1]) : ∃ v0 v1, ps = [v0, v1] ∧ Dat H v0 d0 ∧ Dat H v1 d1 := by
  match ps, h with
  | _, .cons a (.cons b .nil) => exact ⟨_, _, rfl, a, b⟩
theorem dats_get {H : Hp} {ys : List V} {xs : List S9} (h : DatAll H ys (dts xs)) {j : Nat} {e : S9} (he : xs[j]? = some e) : ∃ y, ys[j]? = some y ∧ Dat H y (dt e) := by
  rw [dts_map] at h
  exact h.at (by rw [List.getElem?_map, he]; rfl)
section
variable {P : Program} {w : World} {K : PySem.W.Frag} {mg : Str → Option Value} {base : Heap}
theorem sc_next : FnScope ["part", "step", "kind", "letter", "occurrence", "pair", "inner"] ["part", "step"] (defScope s_next) := ⟨rfl, rfl, rfl, by decide +kernel, rfl, by decide +kernel, by decide +kernel⟩
theorem ok_next {f fT fB : Addr} {fd fdT fdB : FuncData} (F : Fun K "next_part" "next_part" s_next f fd) (N : Nm mg) (T : DefOk K mg "is_tuple" sTup ["value", "least", "most"] fT fdT) (B : DefOk K mg "is_between" sBtw ["value", "low", "high"] fB fdB) (GB : FnOk P w K mg base CX0 2 fB fdB ["value", "low", "high"] spBtw) : FnOk P w K mg base CX0 3 f fd ["part", "step"] (spNext Y9) := by
  have GT : FnOk P w K mg base CX0 1 fT fdT ["value", "least", "most"] spTup := ok_tup T.F N
  refine F.ok sc_next (fun vs H Q E h => ?_) (fun cdv A outer s H vs Q E hr h => ?_)
  · obtain ⟨v, x, s, d, rfl, _⟩ := h
    rfl
  · obtain ⟨v, x, sp, d, rfl, hv, hx, hok, q0, q1⟩ := h
    replace q0 : ∀ H', Same H H' → nextS sp d = none → Q .non H' := q0
    replace q1 : ∀ (u : V) (e : S9) (H' : Hp), Same H H' → nextS sp d = some e → Dat H' u (dt e) → Q u H' := q1
    replace hv : Dat H v (dt sp) := hv
    replace hok : okS sp = true := hok
    have hu0 := hr.units0
    have hr1 : Room 1 _ := hr.mono (by decide)
    refine ⟨_, (pss_cons (ps_set (i := 2) sc_next.nd rfl (Or.inl rfl) (pe_ix ix_tup (pv 0) pe_int (fun _ _ => rfl)))
      (pss_cons (ps_if (PW.pt (pw_and (pt_cmpR op_in_seq (pv 2) (pe_tup (pa_cons pe_str (pa_cons pe_str pa_nil))) rfl) (pw_and1 (pt_val (pe_call GB hr rfl B.g B.F.kp B.b .nil pass0 (pa_cons (pv 1) (pa_cons pe_int (pa_cons (pe_op op_sub (pe_callB call_len_seq (by rfl) N.len PySem.boot_len (pa_cons (pe_ix ix_tup (pv 0) pe_int (fun _ _ => rfl)) pa_nil)) pe_int) pa_nil))))))))
        (pss_one (ps_ret (pe_ix ix_tup (pe_ix ix_tup (pv 0) pe_int (fun _ _ => rfl)) (pv 1) (fun _ _ => rfl))))
        pss_nil)
      (pss_cons (ps_if (PW.pt (pw_and (pt_cmpR op_eq (pv 2) pe_str (nomark _)) (pw_and1 (pt_val (pe_call GB hr rfl B.g B.F.kp B.b .nil pass0 (pa_cons (pv 1) (pa_cons pe_int (pa_cons (pe_op op_sub (pe_ix ix_tup (pv 0) pe_int (fun _ _ => rfl)) pe_int) pa_nil))))))))
        (pss_one (ps_ret (pe_ix ix_tup (pv 0) pe_int (fun _ _ => rfl))))
        pss_nil)
      (pss_cons (ps_if (PW.pt (pw_and (pt_cmpR op_eq (pv 2) pe_str (nomark _)) (pw_and1 (pt_val (pe_call GT hr1 rfl T.g T.F.kp T.b .nil pass0 (pa_cons (pv 1) (pa_cons pe_int (pa_cons pe_int pa_nil))))))))
        (pss_cons (ps_asg (pv 1) (pg_tup rfl (pgs_cons (pg_name (i := 3) sc_next.nd rfl (Or.inl rfl)) (pgs_cons (pg_name (i := 4) sc_next.nd rfl (Or.inl rfl)) pgs_nil))))
        (pss_one (ps_for PassesOwn.never rfl (RZ.pi_zipA rfl N.zip (pa_cons (pe_ix ix_tup (pv 0) pe_int (fun _ _ => rfl)) (pa_cons (pe_ix ix_tup (pv 0) pe_int (fun _ _ => rfl)) pa_nil))) (pg_tup rfl (pgs_cons (pg_name (i := 5) sc_next.nd rfl (Or.inl rfl)) (pgs_cons (pg_name (i := 6) sc_next.nd rfl (Or.inl rfl)) pgs_nil)))
          (pss_one (ps_if (PW.pt (pw_and (pt_cmpR (op_eqStr hu0) (pv 3) (pe_ix ix_tup (pv 5) pe_int (fun _ _ => rfl)) (nomark _)) (pw_and1 (pt_val (pe_call GB hr rfl B.g B.F.kp B.b .nil pass0 (pa_cons (pv 4) (pa_cons pe_int (pa_cons (pe_op op_sub (pe_ix ix_tup (pv 5) pe_int (fun _ _ => rfl)) pe_int) pa_nil))))))))
            (pss_one (ps_ret (pv 6)))
            pss_nil)))))
        pss_nil)
      (pss_one (ps_ret pe_non)))))), ?_⟩
    -- the ways that ask for nothing
    have none_of : ∀ (a0 : Addr) (z : Str) (ps : List V), v = .ref a0 → TP H a0 (.str z :: ps) → inV (.str z) [.str "product", .str "choice"] = false → decide (V.str z = V.str "power") = false → decide (V.str z = V.str "decorated") = false → nextS sp d = none →
        True := fun _ _ _ _ _ _ _ _ _ => trivial
    cases sp with
    | leaf l =>
      obtain ⟨ds, el⟩ := ldt_hd l
      have hv' : Dat H v (.tuple (.str (hdL l) :: ds)) := by rw [← el]; rw [dt] at hv; exact hv
      obtain ⟨a0, ps, rfl, h0, _⟩ := tup_hd hv'
      obtain ⟨e1, e2, e3⟩ := hd_no _ (hd_mem l)
      refine ⟨_, rfl, a0, _, _, _, rfl, rfl, sqT_rd h0, atI_nat (j := 0) rfl, ?_⟩
      refine ⟨_, rfl, (by show 2 ≤ sizeLine; decide), fun tp ntp => ⟨tp, _, rfl, .inr (SqT.of upd_same), rfl, rfl, _, rfl, ?_⟩⟩
      refine if_f e1 (if_f rfl ?_)
      refine ⟨_, rfl, rfl, _, rfl, if_f e2 (if_f rfl ?_)⟩
      refine ⟨_, rfl, rfl, _, rfl, if_f e3 (if_f rfl ?_)⟩
      exact q0 _ (same_new ntp) rfl
    | row c xs =>
      rw [dt] at hv
      cases hv with
      | @tup a0 ps _ h0 hps =>
        cases hps with
        | cons e0 t0 =>
          cases e0
          cases t0 with
          | @cons y1 r1 _ _ e1 t1 =>
            cases t1
            cases e1 with
            | @tup b ys _ hb hys =>
              have hl := hys.len
              rw [dts_len] at hl
              refine ⟨_, rfl, a0, _, _, _, rfl, rfl, sqT_rd h0, atI_nat (j := 0) rfl, ?_⟩
              refine ⟨_, rfl, (by show 2 ≤ sizeLine; decide), fun tp ntp => ⟨tp, _, rfl, .inr (SqT.of upd_same), rfl, rfl, _, rfl, ?_⟩⟩
              have S1 := same_new (o := HO.tup [.str "product", .str "choice"]) ntp
              have ein : inV (.str (rowW c)) [.str "product", .str "choice"] = true := by cases c <;> decide +kernel
              have ep : decide (V.str (rowW c) = V.str "power") = false := by cases c <;> decide +kernel
              have ed : decide (V.str (rowW c) = V.str "decorated") = false := by cases c <;> decide +kernel
              generalize upd H tp (.tup [.str "product", .str "choice"]) = H1 at S1 ⊢
              refine if_t ein ?_
              refine ⟨_, rfl, _, rfl, a0, _, _, _, rfl, rfl, sqT_rd (upR h0 S1), atI_nat (j := 1) rfl, b, ys, rfl, .inr (sqT_rd (upR hb S1)), _, _, rfl, rfl, x, d, 0, _, rfl, hx.same S1, fun H2 S2 => ⟨_, rfl, ?_⟩⟩
              have S := S1.trans S2
              rw [hl]
              have nx : nextS (.row c xs) d = if btw 0 ((xs.length : Int) - 1) d = true then xs[(intOf d).toNat]? else none := rfl
              cases hbt : btw 0 ((xs.length : Int) - 1) d with
              | true =>
                refine if_t rfl ?_
                obtain ⟨i, rfl, hi0, hi1⟩ := btw_int hbt
                cases hx
                rw [hbt, if_pos rfl] at nx
                have hi : i.toNat < xs.length := by omega
                have he : xs[i.toNat]? = some xs[i.toNat] := List.getElem?_eq_getElem hi
                obtain ⟨y, hy, dy⟩ := dats_get hys he
                have ei : (((i.toNat : Nat)) : Int) = i := Int.toNat_of_nonneg hi0
                refine ⟨_, rfl, a0, _, _, _, rfl, rfl, sqT_rd (upR h0 S), atI_nat (j := 1) rfl, _, rfl, b, ys, i, y, rfl, rfl, sqT_rd (upR hb S), by rw [← ei]; exact atI_nat hy, ?_⟩
                refine q1 y xs[i.toNat] H2 S (nx.trans ?_) (dy.same S)
                exact he
              | false =>
                rw [hbt, if_neg Bool.false_ne_true] at nx
                refine if_f rfl ?_
                refine ⟨_, rfl, rfl, _, rfl, if_f ep (if_f rfl ?_)⟩
                refine ⟨_, rfl, rfl, _, rfl, if_f ed (if_f rfl ?_)⟩
                exact q0 H2 S nx
    | pow n y =>
      rw [dt] at hv
      cases hv with
      | @tup a0 ps _ h0 hps =>
        obtain ⟨_, _, y2, rfl, i0, i1, dy⟩ := dat3 hps
        · cases i0
          cases i1
          refine ⟨_, rfl, a0, _, _, _, rfl, rfl, sqT_rd h0, atI_nat (j := 0) rfl, ?_⟩
          refine ⟨_, rfl, (by show 2 ≤ sizeLine; decide), fun tp ntp => ⟨tp, _, rfl, .inr (SqT.of upd_same), rfl, rfl, _, rfl, ?_⟩⟩
          have S1 := same_new (o := HO.tup [.str "product", .str "choice"]) ntp
          generalize upd H tp (.tup [.str "product", .str "choice"]) = H1 at S1 ⊢
          refine if_f (by decide +kernel) (if_f rfl ?_)
          refine ⟨_, rfl, rfl, _, rfl, if_t (by decide +kernel) ?_⟩
          refine ⟨_, rfl, _, rfl, a0, _, _, _, rfl, rfl, sqT_rd (upR h0 S1), atI_nat (j := 1) rfl, _, _, rfl, rfl, x, d, 0, _, rfl, hx.same S1, fun H2 S2 => ⟨_, rfl, ?_⟩⟩
          have S := S1.trans S2
          have nx : nextS (.pow n y) d = if btw 0 ((n : Int) - 1) d = true then some y else none := rfl
          cases hbt : btw 0 ((n : Int) - 1) d with
          | true =>
            rw [hbt, if_pos rfl] at nx
            refine if_t rfl ⟨_, rfl, a0, _, _, y2, rfl, rfl, sqT_rd (upR h0 S), atI_nat (j := 2) rfl, ?_⟩
            exact q1 y2 y H2 S nx (dy.same S)
          | false =>
            rw [hbt, if_neg Bool.false_ne_true] at nx
            refine if_f rfl ?_
            refine ⟨_, rfl, rfl, _, rfl, if_f (by decide +kernel) (if_f rfl ?_)⟩
            exact q0 H2 S nx
    | dec cs xs =>
      have hlx : xs.length = cs.length := by
        rw [okS, Bool.and_eq_true] at hok
        rw [Bool.and_eq_true, Bool.and_eq_true] at hok
        exact of_decide_eq_true hok.2.2.1
      rw [dt] at hv
      cases hv with
      | @tup a0 ps _ h0 hps =>
        obtain ⟨_, v1, v2, rfl, i0, i1, i2⟩ := dat3 hps
        obtain ⟨bc, yc, rfl, hbc, hyc⟩ : ∃ bc yc, v1 = .ref bc ∧ TP H bc yc ∧ DatAll H yc (cs.map fun c => .tuple [.str c.1, .int (c.2 : Nat)]) := by
          cases i1 with
          | tup h1 h2 => exact ⟨_, _, rfl, h1, h2⟩
        obtain ⟨b, ys, rfl, hb, hys⟩ : ∃ b ys, v2 = .ref b ∧ TP H b ys ∧ DatAll H ys (dts xs) := by
          cases i2 with
          | tup h1 h2 => exact ⟨_, _, rfl, h1, h2⟩
        · cases i0
          have hl := hys.len
          rw [dts_len] at hl
          have hlc : yc.length = cs.length := by rw [hyc.len, List.length_map]
          refine ⟨_, rfl, a0, _, _, _, rfl, rfl, sqT_rd h0, atI_nat (j := 0) rfl, ?_⟩
          refine ⟨_, rfl, (by show 2 ≤ sizeLine; decide), fun tp ntp => ⟨tp, _, rfl, .inr (SqT.of upd_same), rfl, rfl, _, rfl, ?_⟩⟩
          have S1 := same_new (o := HO.tup [.str "product", .str "choice"]) ntp
          generalize upd H tp (.tup [.str "product", .str "choice"]) = H1 at S1 ⊢
          refine if_f (by decide +kernel) (if_f rfl ?_)
          refine ⟨_, rfl, rfl, _, rfl, if_f (by decide +kernel) (if_f rfl ?_)⟩
          refine ⟨_, rfl, rfl, _, rfl, if_t (by decide +kernel) ?_⟩
          refine ⟨_, rfl, x, d, 2, 2, rfl, hx.same S1, fun H2 S2 => ⟨_, rfl, ?_⟩⟩
          have S := S1.trans S2
          have nx : nextS (.dec cs xs) d = nextDec (cs.zip xs) d := rfl
          cases ht : tupOf 2 2 d with
          | false =>
            refine if_f rfl (q0 H2 S (nx.trans ?_))
            unfold nextDec
            split
            · rename_i l o
              have : tupOf 2 2 (.tuple [l, o]) = true := rfl
              rw [this] at ht
              cases ht
            · rfl
          | true =>
            obtain ⟨l, o, rfl⟩ : ∃ l o, d = .tuple [l, o] := by
              cases d with
              | tuple ds =>
                have h' : (decide ((2 : Int) ≤ (ds.length : Int)) && decide ((ds.length : Int) ≤ 2)) = true := ht
                rw [Bool.and_eq_true] at h'
                have h1 := of_decide_eq_true h'.1
                have h2 := of_decide_eq_true h'.2
                match ds, h1, h2 with
                | [l, o], _, _ => exact ⟨l, o, rfl⟩
                | [], h1, _ => simp at h1
                | [_], h1, _ => simp at h1
                | _ :: _ :: _ :: _, _, h2 => simp at h2; omega
              | _ => cases ht
            refine if_t rfl ?_
            cases hx with
            | @tup ax zs _ hax hzs =>
              obtain ⟨xl, xo, rfl, dl, dO⟩ := dat2 hzs
              · refine ⟨_, rfl, ax, _, rfl, sqT_rd (upR hax S), rfl, _, _, rfl, _, _, rfl, rfl, ?_⟩
                refine ⟨_, rfl, a0, _, _, _, rfl, rfl, sqT_rd (upR h0 S), atI_nat (j := 1) rfl, _, rfl, a0, _, _, _, rfl, rfl, sqT_rd (upR h0 S), atI_nat (j := 2) rfl, bc, b, yc, ys, rfl, .inr ⟨sqT_rd (upR hbc S), sqT_rd (upR hb S), RZ.for_zipT (K := K) (by rw [hlc, hl, hlx]) (fun i σ Hx => ∃ (w5 w6 : Option V), σ = [some (.ref a0), some (.ref ax), some (.str "decorated"), some xl, some xo, w5, w6] ∧ Same H Hx ∧ findDec (cs.zip xs) l o = findDec ((cs.zip xs).drop i) l o)
                  ⟨none, none, rfl, S, rfl⟩ (fun i σ Hx ⟨_, _, _, Sx, _⟩ => ⟨sqT_rd (upR hbc Sx), sqT_rd (upR hb Sx)⟩) ?_ ?_⟩⟩
                · rintro i y1 y2 U σ Hx hi1 hi2 ⟨w5, w6, rfl, Sx, hf⟩ nU
                  have Su := Sx.trans (same_new (o := HO.tup [y1, y2]) nU)
                  refine ⟨U, _, rfl, SqT.of upd_same, rfl, _, _, rfl, _, _, rfl, rfl, ?_⟩
                  obtain ⟨d1, hd1, t1⟩ := hyc.get hi1
                  rw [List.getElem?_map] at hd1
                  obtain ⟨cc, hcc, rfl⟩ := Option.map_eq_some_iff.mp hd1
                  have t1' : Dat H y1 (cntD cc) := t1
                  obtain ⟨bp, rfl, hbp⟩ := cnt_at t1'
                  have hlt : i < xs.length := by
                    have := (List.getElem?_eq_some_iff.mp hi2).1
                    omega
                  have hxe : xs[i]? = some xs[i] := List.getElem?_eq_getElem hlt
                  obtain ⟨y', hy', dy'⟩ := dats_get hys hxe
                  rw [hi2] at hy'
                  cases hy'
                  have hz : (cs.zip xs)[i]? = some (cc, xs[i]) := by
                    rw [List.getElem?_zip_eq_some]
                    exact ⟨hcc, hxe⟩
                  have hdrop : (cs.zip xs).drop i = (cc, xs[i]) :: (cs.zip xs).drop (i + 1) := by
                    obtain ⟨hlt2, e⟩ := List.getElem?_eq_some_iff.mp hz
                    rw [← e]
                    exact List.drop_eq_getElem_cons hlt2
                  have ff : findDec (cs.zip xs) l o = if (isS cc.1 l && btw 0 ((cc.2 : Int) - 1) o) = true then some xs[i] else findDec ((cs.zip xs).drop (i + 1)) l o := by
                    rw [hf, hdrop, findDec]
                  have es : eqStr cc.1 l = isS cc.1 l := by
                    cases l with
                    | str y =>
                      show (y == cc.1) = decide (y = cc.1)
                      by_cases h : y = cc.1
                      · rw [decide_eq_true h, h]
                        exact beq_self_eq_true _
                      · rw [decide_eq_false h]
                        exact beq_eq_false_iff_ne.mpr h
                    | _ => rfl
                  refine ⟨_, rfl, _, rfl, bp, _, _, _, rfl, rfl, sqT_rd (upR hbp Su), atI_nat (j := 0) rfl, l, cc.1, dl.same Su, rfl, _, rfl, ?_⟩
                  rw [es]
                  cases e1 : isS cc.1 l with
                  | false =>
                    rw [e1] at ff
                    exact if_f rfl (if_f rfl ⟨_, _, rfl, Su, ff⟩)
                  | true =>
                    rw [e1] at ff
                    refine if_t rfl ?_
                    refine ⟨_, rfl, _, rfl, bp, _, _, _, rfl, rfl, sqT_rd (upR hbp Su), atI_nat (j := 1) rfl, _, _, rfl, rfl, xo, o, 0, _, rfl, dO.same Su, fun H3 S3 => ⟨_, rfl, ?_⟩⟩
                    have S3' := Su.trans S3
                    cases e2 : btw 0 ((cc.2 : Int) - 1) o with
                    | false =>
                      rw [e2] at ff
                      exact if_f rfl ⟨_, _, rfl, S3', ff⟩
                    | true =>
                      rw [e2] at ff
                      exact if_t rfl ⟨_, rfl, q1 _ xs[i] H3 S3' (nx.trans ff) (dy'.same S3')⟩
                · rintro σ Hx ⟨w5, w6, rfl, Sx, hf⟩
                  refine q0 Hx Sx (nx.trans (hf.trans ?_))
                  have : (cs.zip xs).drop yc.length = [] := by
                    rw [List.drop_eq_nil_iff, List.length_zip, hlc]
                    omega
                  rw [this]
                  rfl
end
end K9
set_option maxRecDepth 100000
set_option maxHeartbeats 8000000
namespace K9
open PySem PySem.Spec PyProof.Rows L2
theorem dat1 {H : Hp} {ps : List V} {d0 : PyData} (h : DatAll H ps [d0]) : ∃ v0, ps = [v0] ∧ Dat H v0 d0 := by
  match ps, h with
  | _, .cons a .nil => exact ⟨_, rfl, a⟩
section
variable {P : Program} {w : World} {K : PySem.W.Frag} {mg : Str → Option Value} {base : Heap}
/-! ### is_question of these parts -/
def spQuestN (K : PySem.W.Frag) (dC : Addr) : Sp := fun vs H Q _ => ∃ (a0 b : Addr) (zk : Str) (ps xs : List V) (q : List PyData), vs = [.ref a0, .ref b] ∧ TP H a0 (.str zk :: ps) ∧ PySem.W.nsIn K dC zk = some none ∧
  TP H b xs ∧ DatAll H xs q ∧ ∀ H', Same H H' → Q (.bl false) H'
theorem ok_questN {f : Addr} {fd : FuncData} {dC : Addr} {S : Addr → Option Sp} (F : Fun K "is_question" "is_question" s_quest f fd) (T : Nm mg) (Z : ChkG P w K mg base dC S) : FnOk P w K mg base CX0 9 f fd ["part", "question"] (spQuestN K dC) := by
  obtain ⟨esC, nC, DC⟩ := Z.k
  refine F.ok sc_quest (fun vs H Q E h => ?_) (fun cdv A outer s H vs Q E hr h => ?_)
  · obtain ⟨a0, b, zk, ps, xs, q, rfl, _⟩ := h
    rfl
  · obtain ⟨a0, b, zk, ps, xs, qs, rfl, h0, hns, hb, hx, q⟩ := h
    refine ⟨_, (pss_cons (ps_set (i := 2) sc_quest.nd rfl (Or.inl rfl) (pe_ix ix_tup (pv 0) pe_int (fun _ _ => rfl)))
      (pss_cons (ps_if (PW.pt (pw_or (pt_cmpR op_eq (pe_callB call_len_seq (by rfl) T.len PySem.boot_len (pa_cons (pv 1) pa_nil)) pe_int (nomark _)) (pw_or (pt_not (pt_val (pe_callB call_isi (by rfl) T.isinstance boot_isinstance (pa_cons (pe_ix ix_tup (pv 1) pe_int (fun _ _ => rfl)) (pa_cons (pe_bltn (v := .ty "str") rfl T.str (by decide +kernel) rfl) pa_nil))))) (pw_or1 (pt_cmpR (op_notInKd (X := _) DC) (pv 2) (pe_glob (v := .ref dC) rfl Z.g rfl) rfl)))))
        (pss_one (ps_ret pe_bl))
        pss_nil)
      (pss_cons (ps_set (i := 3) sc_quest.nd rfl (Or.inl rfl) (pe_ix (ix_kd (X := _) DC) (pe_glob (v := .ref dC) rfl Z.g rfl) (pv 2) (fun _ _ => rfl)))
      (pss_one (ps_ret (pe_callA (i := 3) (S := S) Z.held hr rfl (Or.inl rfl) (pa_cons (pv 0) (pa_cons (pe_ix ix_tup (pv 1) pe_int (fun _ _ => rfl)) (pa_cons (pe_slice sl_tupA (pv 1) (po_some pe_int) po_none) pa_nil))))))))), ?_⟩
    have q0 := q H (Same.refl H)
    refine ⟨_, rfl, a0, _, _, _, rfl, rfl, sqT_rd h0, atI_nat (j := 0) rfl, ?_⟩
    refine ⟨_, rfl, b, xs, rfl, .inr (sqT_rd hb), rfl, _, rfl, ?_⟩
    cases hx with
    | nil => exact if_t rfl (if_t rfl q0)
    | @cons x0 xs' d0 qs' c0 cs =>
      refine if_f (decide_eq_false fun y => ?_) ?_
      · have := V.int.inj y
        rw [List.length_cons] at this
        omega
      refine ⟨_, rfl, b, _, _, x0, rfl, rfl, sqT_rd hb, atI_nat (j := 0) rfl, x0, .ty "str", _, _, _, rfl, .ty _, c0.ty, kit_str _ d0, _, rfl, ?_⟩
      cases hs : isStr d0 with
      | false => exact if_t rfl (if_t rfl q0)
      | true =>
        refine if_f rfl ?_
        exact ⟨_, rfl, zk, _, rfl, rfl, hns, _, rfl, if_t rfl q0⟩
theorem fn_ex {ι : Type} {k : Nat} {f : Addr} {fd : FuncData} {ps : List Str} {sp : ι → Sp} (h : ∀ i, FnOk P w K mg base CX0 k f fd ps (sp i)) : FnOk P w K mg base CX0 k f fd ps (fun vs H Q E => ∃ i, sp i vs H Q E) :=
  ⟨fun vs H Q E ⟨i, q⟩ => (h i).len vs H Q E q, fun a b c d e f g i j k l m n ⟨t, q⟩ => (h t).run a b c d e f g i j k l m n q⟩
def aSub : Sp := fun vs H Q E => ∃ x : Nat × Nat, spQs (okSub x.1 x.2) (subsetB x.1 x.2) vs H Q E
def aWord : Sp := fun vs H Q E => ∃ cs : { cs : Cn // cs.length ≤ 100 }, spQs (okCnt cs.1) (wordB cs.1) vs H Q E
def aArr : Sp := fun vs H Q E => ∃ o : PyData, spQs (okArr o) (arrB o) vs H Q E
def aWalk : Sp := fun vs H Q E => ∃ x : Int × Int × Int, spQs (okWalk x.1 x.2.1 x.2.2) (walkB x.1 x.2.1 x.2.2) vs H Q E
def aCyc : Sp := fun vs H Q E => ∃ n : Int, spQs (okNum n) (cycleB n) vs H Q E
def aMat : Sp := fun vs H Q E => ∃ n : { n : Int // 0 ≤ n ∧ n ≤ 1000 }, spQs (okNum n.1) (matchB n.1) vs H Q E
def aPerm : Sp := fun vs H Q E => ∃ n : Int, spQs (okNum n) (permB n) vs H Q E
def aTree : Sp := fun vs H Q E => ∃ n : Int, spQs (okNum n) (treeB n) vs H Q E
def aStr : Sp := fun vs H Q E => ∃ n : Int, spQs (okStr n) (stringB n) vs H Q E
def aCho : Sp := spQs (fun _ _ => True) choiceB
structure Tab (P : Program) (w : World) (K : PySem.W.Frag) (mg : Str → Option Value) (base : Heap) (dC : Addr) (S : Addr → Option Sp) : Prop where
  Z : ChkG P w K mg base dC S
  n1 : PySem.W.nsIn K dC "product" = some none
  n2 : PySem.W.nsIn K dC "power" = some none
  s1 : ∃ fa : Addr, PySem.W.nsIn K dC "subset" = some (some (.ref fa)) ∧ S fa = some aSub
  s2 : ∃ fa : Addr, PySem.W.nsIn K dC "word" = some (some (.ref fa)) ∧ S fa = some aWord
  s3 : ∃ fa : Addr, PySem.W.nsIn K dC "arrangement" = some (some (.ref fa)) ∧ S fa = some aArr
  s4 : ∃ fa : Addr, PySem.W.nsIn K dC "walk" = some (some (.ref fa)) ∧ S fa = some aWalk
  s5 : ∃ fa : Addr, PySem.W.nsIn K dC "cycle" = some (some (.ref fa)) ∧ S fa = some aCyc
  s6 : ∃ fa : Addr, PySem.W.nsIn K dC "matching" = some (some (.ref fa)) ∧ S fa = some aMat
  s7 : ∃ fa : Addr, PySem.W.nsIn K dC "permutation" = some (some (.ref fa)) ∧ S fa = some aPerm
  s8 : ∃ fa : Addr, PySem.W.nsIn K dC "tree" = some (some (.ref fa)) ∧ S fa = some aTree
  s9 : ∃ fa : Addr, PySem.W.nsIn K dC "string" = some (some (.ref fa)) ∧ S fa = some aStr
  s10 : ∃ fa : Addr, PySem.W.nsIn K dC "choice" = some (some (.ref fa)) ∧ S fa = some aCho
  s11 : ∃ fa : Addr, PySem.W.nsIn K dC "decorated" = some (some (.ref fa)) ∧ S fa = some aWord
theorem ok_questI {f : Addr} {fd : FuncData} {dC : Addr} {S : Addr → Option Sp} (F : Fun K "is_question" "is_question" s_quest f fd) (T : Nm mg) (Z : Tab P w K mg base dC S) : FnOk P w K mg base CX0 9 f fd ["part", "question"] (spQuestI Y9) := by
  have G := fn_ex (P := P) (w := w) (K := K) (mg := mg) (base := base) (k := 9) (f := f) (fd := fd) (ps := ["part", "question"]) (sp := fun b : Bool => if b = true then spQuest K dC S else spQuestN K dC) fun b => by
    cases b with
    | true => exact ok_quest F T Z.Z
    | false => exact ok_questN F T Z.Z
  refine G.imp fun vs H Q E h => ?_
  obtain ⟨v, b, s, xs, q, rfl, hv, hok, hb, hx, hsh, k⟩ := h
  replace hv : Dat H v (dt s) := hv
  replace hok : okS s = true := hok
  have k : ∀ H', Same H H' → Q (.bl (askQ (askS s) q)) H' := k
  have go : ∀ (fa : Addr) (zk : Str) (sq : Sp) (ok : Hp → List V → Prop) (g : Str → List PyData → Bool) (a0 : Addr) (ps : List V), askS s = g → v = .ref a0 → TP H a0 (.str zk :: ps) → PySem.W.nsIn K dC zk = some (some (.ref fa)) → S fa = some sq → (∀ H', Same H H' → ok H' (.str zk :: ps)) → (∀ vs H Q E, spQs ok g vs H Q E → sq vs H Q E) →
      ∃ b0 : Bool, (if b0 = true then spQuest K dC S else spQuestN K dC) [v, .ref b] H Q E := fun fa zk sq ok g a0 ps hg hva h0 hn hS ho hsq => ⟨true, by
    rw [if_pos rfl]
    rw [hg] at k
    rw [hva]
    refine ⟨a0, b, fa, zk, ps, xs, q, sq, g, rfl, h0, hn, hS, fun z b2 xs' as H2 S2 hz hb2 hx2 hs2 k2 => hsq _ _ _ _ ?_, hb, hx, hsh, k⟩
    exact ⟨a0, b2, _, z, xs', as, rfl, upR h0 S2, ho H2 S2, hz, hb2, hx2, hs2, k2⟩⟩
  have no : ∀ (zk : Str) (a0 : Addr) (ps : List V), (∀ z as, askS s z as = false) → v = .ref a0 → TP H a0 (.str zk :: ps) → PySem.W.nsIn K dC zk = some none →
      ∃ b0 : Bool, (if b0 = true then spQuest K dC S else spQuestN K dC) [v, .ref b] H Q E := fun zk a0 ps hg hva h0 hn => ⟨false, by
    rw [if_neg Bool.false_ne_true]
    rw [hva]
    refine ⟨a0, b, zk, ps, xs, q, rfl, h0, hn, hb, hx, fun H' S' => ?_⟩
    have z := k H' S'
    have e : askQ (askS s) q = false := by
      unfold askQ
      split
      · exact hg _ _
      · rfl
    rw [e] at z
    exact z⟩
  cases s with
  | leaf l =>
    rw [dt] at hv
    rw [okS] at hok
    cases l with
    | sub n m =>
      obtain ⟨fa, e1, e2⟩ := Z.s1
      obtain ⟨a0, ps, rfl, h0, hps⟩ := tup_hd (show Dat H v (.tuple (.str "subset" :: [.int (n : Nat), .int (m : Nat)])) from hv)
      obtain ⟨v1, v2, rfl, i1, i2⟩ := dat2 hps
      cases i1
      cases i2
      exact go fa _ _ _ _ a0 _ rfl rfl h0 e1 e2 (fun _ _ => ⟨_, rfl⟩) fun _ _ _ _ h => ⟨(n, m), h⟩
    | word cs =>
      obtain ⟨fa, e1, e2⟩ := Z.s2
      obtain ⟨a0, ps, rfl, h0, hps⟩ := tup_hd (show Dat H v (.tuple (.str "word" :: [cntsD cs])) from hv)
      obtain ⟨v1, rfl, i1⟩ := dat1 hps
      exact go fa _ _ _ _ a0 _ rfl rfl h0 e1 e2 (fun _ S' => ⟨_, _, _, rfl, i1.same S'⟩) fun _ _ _ _ h => ⟨⟨cs, of_decide_eq_true hok⟩, h⟩
    | arr o =>
      obtain ⟨fa, e1, e2⟩ := Z.s3
      obtain ⟨a0, ps, rfl, h0, hps⟩ := tup_hd (show Dat H v (.tuple (.str "arrangement" :: [o])) from hv)
      obtain ⟨v1, rfl, i1⟩ := dat1 hps
      exact go fa _ _ _ _ a0 _ rfl rfl h0 e1 e2 (fun _ S' => ⟨_, _, _, rfl, i1.same S', hok⟩) fun _ _ _ _ h => ⟨o, h⟩
    | walk n s0 e0 lo hi =>
      obtain ⟨fa, e1, e2⟩ := Z.s4
      obtain ⟨a0, ps, rfl, h0, hps⟩ := tup_hd (show Dat H v (.tuple (.str "walk" :: [.int n, .int s0, .int e0, .int lo, .int hi])) from hv)
      match ps, hps, h0 with
      | _, .cons (.int _) (.cons (.int _) (.cons (.int _) (.cons (.int _) (.cons (.int _) .nil)))), h0 =>
        exact go fa _ _ _ _ a0 _ rfl rfl h0 e1 e2 (fun _ S' => ⟨_, _, _, rfl⟩) fun _ _ _ _ h => ⟨(n, s0, e0), h⟩
    | cyc n =>
      obtain ⟨fa, e1, e2⟩ := Z.s5
      obtain ⟨a0, ps, rfl, h0, hps⟩ := tup_hd (show Dat H v (.tuple (.str "cycle" :: [.int (n : Nat)])) from hv)
      obtain ⟨v1, rfl, i1⟩ := dat1 hps
      cases i1
      exact go fa _ _ _ _ a0 _ rfl rfl h0 e1 e2 (fun _ S' => ⟨_, _, rfl⟩) fun _ _ _ _ h => ⟨n, h⟩
    | mat n =>
      obtain ⟨fa, e1, e2⟩ := Z.s6
      obtain ⟨a0, ps, rfl, h0, hps⟩ := tup_hd (show Dat H v (.tuple (.str "matching" :: [.int (n : Nat)])) from hv)
      obtain ⟨v1, rfl, i1⟩ := dat1 hps
      cases i1
      have hok : n ≤ 1000 := of_decide_eq_true hok
      exact go fa _ aMat (okNum (n : Int)) (matchB (n : Int)) a0 _ rfl rfl h0 e1 e2 (fun _ S' => ⟨_, _, rfl⟩) fun _ _ _ _ h => ⟨⟨(n : Int), by omega, by omega⟩, h⟩
    | perm n d =>
      obtain ⟨fa, e1, e2⟩ := Z.s7
      obtain ⟨a0, ps, rfl, h0, hps⟩ := tup_hd (show Dat H v (.tuple (.str "permutation" :: [.int (n : Nat), d])) from hv)
      obtain ⟨v1, v2, rfl, i1, i2⟩ := dat2 hps
      cases i1
      exact go fa _ _ _ _ a0 _ rfl rfl h0 e1 e2 (fun _ S' => ⟨_, _, rfl⟩) fun _ _ _ _ h => ⟨n, h⟩
    | tree n =>
      obtain ⟨fa, e1, e2⟩ := Z.s8
      obtain ⟨a0, ps, rfl, h0, hps⟩ := tup_hd (show Dat H v (.tuple (.str "tree" :: [.int (n : Nat)])) from hv)
      obtain ⟨v1, rfl, i1⟩ := dat1 hps
      cases i1
      exact go fa _ _ _ _ a0 _ rfl rfl h0 e1 e2 (fun _ S' => ⟨_, _, rfl⟩) fun _ _ _ _ h => ⟨n, h⟩
    | str ms ac n =>
      obtain ⟨fa, e1, e2⟩ := Z.s9
      obtain ⟨a0, ps, rfl, h0, hps⟩ := tup_hd (show Dat H v (.tuple (.str "string" :: [.tuple [.tuple (ms.map mvA), .tuple (ac.map fun i => .int (i : Nat))], .int (n : Nat)])) from hv)
      obtain ⟨v1, v2, rfl, i1, i2⟩ := dat2 hps
      cases i2
      exact go fa _ _ _ _ a0 _ rfl rfl h0 e1 e2 (fun _ S' => ⟨_, _, _, rfl⟩) fun _ _ _ _ h => ⟨n, h⟩
  | row c ls =>
    rw [dt] at hv
    obtain ⟨a0, ps, rfl, h0, hps⟩ := tup_hd (show Dat H v (.tuple (.str (rowW c) :: [.tuple (dts ls)])) from hv)
    cases c with
    | false => exact no _ a0 _ (fun _ _ => rfl) rfl h0 Z.n1
    | true =>
      obtain ⟨fa, e1, e2⟩ := Z.s10
      exact go fa _ _ _ choiceB a0 _ (by funext z as; exact Bool.true_and _) rfl h0 e1 e2 (fun _ S' => trivial) fun _ _ _ _ h => h
  | pow n l =>
    rw [dt] at hv
    obtain ⟨a0, ps, rfl, h0, hps⟩ := tup_hd (show Dat H v (.tuple (.str "power" :: [.int (n : Nat), dt l])) from hv)
    exact no _ a0 _ (fun _ _ => rfl) rfl h0 Z.n2
  | dec cs ls =>
    rw [dt] at hv
    rw [okS, Bool.and_eq_true, Bool.and_eq_true] at hok
    obtain ⟨fa, e1, e2⟩ := Z.s11
    obtain ⟨a0, ps, rfl, h0, hps⟩ := tup_hd (show Dat H v (.tuple (.str "decorated" :: [cntsD cs, .tuple (dts ls)])) from hv)
    obtain ⟨v1, v2, rfl, i1, i2⟩ := dat2 hps
    exact go fa _ _ _ _ a0 _ rfl rfl h0 e1 e2 (fun _ S' => ⟨_, _, _, rfl, i1.same S'⟩) fun _ _ _ _ h => ⟨⟨cs, of_decide_eq_true hok.2.1⟩, h⟩
end
end K9
set_option maxRecDepth 100000
set_option maxHeartbeats 4000000
namespace L2
open PySem PySem.Spec PyProof.Rows
section
variable {X : Cx} {a b c d : Expr} {ta tb tc td : TE} {pos : Pos}
/-- a op b op' c op'' d -/
def tChain3 (r r' r'' : R2) (ta tb tc td : TE) : TE := fun σ H Q => ta σ H fun x H1 => tb σ H1 fun y H2 => r x y H2 fun z H3 => ∃ k, z = .bl k ∧
  (if k = true then tc σ H3 fun w H4 => r' y w H4 fun z2 H5 => ∃ k2, z2 = .bl k2 ∧ (if k2 = true then td σ H5 fun t H6 => r'' w t H6 Q else Q (.bl false) H5) else Q (.bl false) H3)
theorem pe_chain3 {op op' op'' : CmpOp} {r r' r'' : R2} (ho : OpR X (compareOp op) r) (ho' : OpR X (compareOp op') r') (ho'' : OpR X (compareOp op'') r'') (ha : PE X a ta) (hb : PE X b tb) (hc : PE X c tc) (hd : PE X d td)
    (hm : lastMarks [op, op', op''] [b, c, d] = false := by with_unfolding_all rfl) : PE X (.Compare a [op, op', op''] [b, c, d] pos) (tChain3 r r' r'' ta tb tc td) := by
  refine ⟨fun pins s σ H Q I h => ?_⟩
  refine Compare_chain (thn (ha.run pins s σ H _ I h) fun v s1 ⟨x, H1, I1, r1, q1⟩ => chain_link (thn (hb.run pins s1 σ H1 _ I1 q1) fun u s2 ⟨y, H2, I2, r2, q2⟩ =>
    thn (ho pins s2 σ H2 x y v u _ I2 r1 r2 q2) fun d s3 ⟨z, H3, I3, r3, k, e, q3⟩ => ?_)) hm
  subst e
  cases r3
  refine wpAny_truthy_bool ?_
  cases k with
  | false => exact ite_ff ⟨.bl false, H3, I3, rfl, q3⟩
  | true =>
    refine ite_tt (chain_link (thn (hc.run pins s3 σ H3 _ I3 q3) fun w' s4 ⟨z', H4, I4, r4, q4⟩ => thn (ho' pins s4 σ H4 y z' u w' _ I4 r2 r4 q4) fun d' s5 ⟨z2, H5, I5, r5, k2, e2, q5⟩ => ?_))
    subst e2
    cases r5
    refine wpAny_truthy_bool ?_
    cases k2 with
    | false => exact ite_ff ⟨.bl false, H5, I5, rfl, q5⟩
    | true => exact ite_tt (chain_last (thn (hd.run pins s5 σ H5 _ I5 q5) fun t' s6 ⟨z3, H6, I6, r6, q6⟩ => ho'' pins s6 σ H6 z' z3 w' t' Q I6 r4 r6 q6))
end
/-- a comprehension over a range with a step -/
theorem lc_rangeC {lo c : Int} {n : Nat} {g : TG} {tt : TT} {te : TE} {vs : List Nat} {σ : St} {H1 : Hp} {D : Addr} {Qd : Hp → Prop} (Pv : Nat → Hp → Prop) (h0 : Pv 0 (upd H1 D (.lst [])))
    (hs : ∀ i H, i < n → Pv i H → g (.int (lo + (i : Nat) * c)) (wipe σ vs) H fun σ2 H2 => wipe σ2 vs = wipe σ vs ∧ tt σ2 H2 fun b H3 =>
      if b = true then te σ2 H3 fun y H4 => ∃ acc, H4 D = some (.lst acc) ∧ acc.length < sizeLine ∧ Pv (i + 1) (upd H4 D (.lst (acc ++ [y]))) else Pv (i + 1) H3) (hd : ∀ H, Pv n H → Qd H) :
    ∃ W : Nat → Nat → Hp → Prop, (∃ m, W 0 m (upd H1 D (.lst []))) ∧ ∀ i m H, W i m H →
      ((Itc lo c n).stop i H ∧ Qd H) ∨ ((Itc lo c n).go i H ∧ ∃ Nx : Hp → Prop, (∀ H', Nx H' → ∃ m', m' < m ∧ W (i + 1) m' H') ∧ ∀ x H', (Itc lo c n).yld i H x H' → g x (wipe σ vs) H' fun σ2 H2 => wipe σ2 vs = wipe σ vs ∧ tt σ2 H2 fun b H3 =>
        if b = true then te σ2 H3 fun y H4 => ∃ acc, H4 D = some (.lst acc) ∧ acc.length < sizeLine ∧ Nx (upd H4 D (.lst (acc ++ [y]))) else Nx H3) := by
  refine ⟨fun i m H => m = n - i ∧ i ≤ n ∧ Pv i H, ⟨n, by simp, Nat.zero_le _, h0⟩, ?_⟩
  rintro i m H ⟨rfl, hi, p⟩
  by_cases hlt : i < n
  · refine .inr ⟨hlt, Pv (i + 1), fun H' p' => ⟨n - (i + 1), by omega, rfl, hlt, p'⟩, fun x H' y => ?_⟩
    obtain ⟨e, y⟩ := y
    subst e y
    exact hs i _ hlt p
  · have e : i = n := by omega
    subst e
    exact .inl ⟨Nat.le_refl _, hd H p⟩
/-- a comprehension over a text -/
theorem lc_str {z : Str} {g : TG} {tt : TT} {te : TE} {vs : List Nat} {σ : St} {H1 : Hp} {D : Addr} {Qd : Hp → Prop} (Pv : Nat → Hp → Prop) (h0 : Pv 0 (upd H1 D (.lst [])))
    (hs : ∀ i c H, z.cps[i]? = some c → Pv i H → g (.str ⟨#[c]⟩) (wipe σ vs) H fun σ2 H2 => wipe σ2 vs = wipe σ vs ∧ tt σ2 H2 fun b H3 =>
      if b = true then te σ2 H3 fun y H4 => ∃ acc, H4 D = some (.lst acc) ∧ acc.length < sizeLine ∧ Pv (i + 1) (upd H4 D (.lst (acc ++ [y]))) else Pv (i + 1) H3) (hd : ∀ H, Pv z.cps.size H → Qd H) :
    ∃ W : Nat → Nat → Hp → Prop, (∃ m, W 0 m (upd H1 D (.lst []))) ∧ ∀ i m H, W i m H →
      ((Its z).stop i H ∧ Qd H) ∨ ((Its z).go i H ∧ ∃ Nx : Hp → Prop, (∀ H', Nx H' → ∃ m', m' < m ∧ W (i + 1) m' H') ∧ ∀ x H', (Its z).yld i H x H' → g x (wipe σ vs) H' fun σ2 H2 => wipe σ2 vs = wipe σ vs ∧ tt σ2 H2 fun b H3 =>
        if b = true then te σ2 H3 fun y H4 => ∃ acc, H4 D = some (.lst acc) ∧ acc.length < sizeLine ∧ Nx (upd H4 D (.lst (acc ++ [y]))) else Nx H3) := by
  refine ⟨fun i m H => m = z.cps.size - i ∧ i ≤ z.cps.size ∧ Pv i H, ⟨z.cps.size, by simp, Nat.zero_le _, h0⟩, ?_⟩
  rintro i m H ⟨rfl, hi, p⟩
  by_cases hlt : i < z.cps.size
  · refine .inr ⟨hlt, Pv (i + 1), fun H' p' => ⟨z.cps.size - (i + 1), by omega, rfl, hlt, p'⟩, fun x H' y => ?_⟩
    obtain ⟨e, c, hc, y⟩ := y
    subst e y
    exact hs i c _ hc p
  · have e : i = z.cps.size := by omega
    subst e
    exact .inl ⟨Nat.le_refl _, hd H p⟩
/-- len of a list or a tuple -/
def rLenS (K : PySem.W.Frag) : List V → Hp → VK → Prop := fun xs H Q => ∃ p ys, xs = [.ref p] ∧ (SqL K H p ys ∨ SqT K H p ys) ∧ Q (.int ys.length) H
theorem cr_lenS {X : Cx} : CallR X (.builtin "len") (rLenS X.K) := call_len_seq
end L2
namespace K9
open PySem PySem.Spec PyProof.Rows L2
/-- without r -/
def noR (r : Addr) (H : Hp) : Hp := fun b => if b = r then none else H b
theorem noR_sub {r : Addr} {H : Hp} : Same (noR r H) H := fun b o e => by
  unfold noR at e
  split at e
  · cases e
  · exact e
theorem noR_upd {r : Addr} {H : Hp} {o : HO} : noR r (upd H r o) = noR r H := by
  funext b
  unfold noR
  by_cases e : b = r
  · rw [if_pos e, if_pos e]
  · rw [if_neg e, if_neg e, upd_ne e]
theorem noR_at {r b : Addr} {H : Hp} {o : HO} (h : H b = some o) (n : b ≠ r) : noR r H b = some o := by
  unfold noR
  rw [if_neg n]
  exact h
theorem noR_off {p q r : Addr} {H H' : Hp} (O : Off p q H H') : Same (hide p q (noR r H)) (hide p q (noR r H')) := fun b o e => by
  unfold hide noR at e ⊢
  split at e
  · cases e
  · rename_i h
    rw [if_neg h]
    split at e
    · cases e
    · rename_i h2
      rw [if_neg h2]
      exact O _ _ e (fun z => h (.inl z)) (fun z => h (.inr z))
theorem noR_hide {p q r : Addr} {H : Hp} : Same (hide p q (noR r H)) (hide p q H) := hide_same noR_sub
theorem dat_rep {H : Hp} {v : V} {d : PyData} (h : Dat H v d) : ∀ n : Nat, DatAll H (List.replicate n [v]).flatten (List.replicate n d)
  | 0 => .nil
  | n + 1 => by
    rw [List.replicate_succ, List.replicate_succ, List.flatten_cons]
    exact .cons h (dat_rep h n)
/-! ### displays of data: a reading that makes the datum d from variables whose data are known -/
def EnvOk (G : List (Nat × PyData)) (σ : L2.St) (H : Hp) : Prop := ∀ p ∈ G, ∃ v, σ[p.1]? = some (some v) ∧ Dat H v p.2
theorem EnvOk.same {G : List (Nat × PyData)} {σ : L2.St} {H H' : Hp} (E : EnvOk G σ H) (S : Same H H') : EnvOk G σ H' := fun p hp => by
  obtain ⟨v, a, b⟩ := E p hp
  exact ⟨v, a, b.same S⟩
def Mk (G : List (Nat × PyData)) (t : TE) (d : PyData) : Prop := ∀ (σ : L2.St) (H : Hp) (Q : VK), EnvOk G σ H → (∀ (v : V) (H' : Hp), Same H H' → Dat H' v d → Q v H') → t σ H Q
def Mks (G : List (Nat × PyData)) (t : TA) (ds : List PyData) : Prop := ∀ (σ : L2.St) (H : Hp) (Q : List V → Hp → Prop), EnvOk G σ H → (∀ (vs : List V) (H' : Hp), Same H H' → DatAll H' vs ds → Q vs H') → t σ H Q
theorem mk_str {G : List (Nat × PyData)} {x : Str} (h : x.length ≤ 1000) : Mk G (tC (.str x)) (.str x) := fun _ H Q _ q => q _ H (Same.refl _) (.str x h)
theorem mk_int {G : List (Nat × PyData)} {i : Int} : Mk G (tC (.int i)) (.int i) := fun _ H Q _ q => q _ H (Same.refl _) (.int i)
theorem mk_bl {G : List (Nat × PyData)} {b : Bool} : Mk G (tC (.bl b)) (.bool b) := fun _ H Q _ q => q _ H (Same.refl _) (.bl b)
theorem mk_non {G : List (Nat × PyData)} : Mk G (tC .non) .none := fun _ H Q _ q => q _ H (Same.refl _) .non
theorem mk_var {G : List (Nat × PyData)} {i : Nat} {d : PyData} (h : (i, d) ∈ G) : Mk G (tVar i) d := fun σ H Q E q => by
  obtain ⟨v, a, b⟩ := E _ h
  exact ⟨v, a, q v H (Same.refl _) b⟩
theorem mks_nil {G : List (Nat × PyData)} : Mks G tNil [] := fun _ H Q _ q => q [] H (Same.refl _) .nil
theorem mks_cons {G : List (Nat × PyData)} {t : TE} {u : TA} {d : PyData} {ds : List PyData} (h : Mk G t d) (hs : Mks G u ds) : Mks G (tCons t u) (d :: ds) := fun σ H Q E q =>
  h σ H _ E fun v H1 S1 d1 => hs σ H1 _ (E.same S1) fun vs H2 S2 d2 => q _ H2 (S1.trans S2) (.cons (d1.same S2) d2)
theorem mk_tup {G : List (Nat × PyData)} {u : TA} {ds : List PyData} (hs : Mks G u ds) (hl : ds.length ≤ 1000) : Mk G (tTup u) (.tuple ds) := fun σ H Q E q =>
  hs σ H _ E fun vs H1 S1 d1 => ⟨by rw [d1.len, sizeLine_eq]; omega, fun p np => q _ _ (S1.trans (same_new np)) (.tup (TP.of upd_same) (d1.same (same_new np)))⟩
theorem mk_lst {G : List (Nat × PyData)} {u : TA} {ds : List PyData} (hs : Mks G u ds) (hl : ds.length ≤ 1000) : Mk G (tLst u) (.list ds) := fun σ H Q E q =>
  hs σ H _ E fun vs H1 S1 d1 => ⟨by rw [d1.len, sizeLine_eq]; omega, fun p np => q _ _ (S1.trans (same_new np)) (.lst upd_same (d1.same (same_new np)))⟩
theorem mk_rep {G : List (Nat × PyData)} {K : PySem.W.Frag} {t : TE} {d : PyData} {n : Nat} (h : Mk G t d) (h2 : 2 ≤ n) (h10 : n ≤ 10) : Mk G (tOp (rRepT K) (tTup (tCons t tNil)) (tC (.int (n : Nat)))) (.tuple (List.replicate n d)) := fun σ H Q E q =>
  h σ H _ E fun v H1 S1 d1 => ⟨by show 1 ≤ sizeLine; decide, fun l nl => by
    have S2 := same_new (o := HO.tup [v]) nl
    refine ⟨l, (n : Nat), [v], rfl, rfl, SqT.of upd_same, by simp, by omega, by omega, by show 1 ≤ 1000; decide, fun p np => ?_⟩
    exact q _ _ ((S1.trans S2).trans (same_new np)) (.tup (TP.of upd_same) ((dat_rep (d1.same S2) n).same (same_new np)))⟩
/-! ### more displays; a list of data that grows -/
theorem mk_neg {G : List (Nat × PyData)} {i : Int} : Mk G (tUn (rU fun i => .int (-i)) (tC (.int i))) (.int (-i)) := fun _ H Q _ q => ⟨i, rfl, q _ H (Same.refl _) (.int (-i))⟩
theorem dat_isInt {H : Hp} {v : V} {i : Int} (h : Dat H v (.int i)) : v = .int i := by
  cases h
  rfl
theorem mk_op {G : List (Nat × PyData)} {t u : TE} {i j k : Int} {C : Int → Int → Prop} {g : Int → Int → V} (h : Mk G t (.int i)) (h2 : Mk G u (.int j)) (hc : C i j) (e : g i j = .int k) : Mk G (tOp (rI C g) t u) (.int k) := fun σ H Q E q =>
  h σ H _ E fun v H1 S1 d1 => h2 σ H1 _ (E.same S1) fun w H2 S2 d2 => ⟨i, j, dat_isInt d1, dat_isInt d2, hc, by rw [e]; exact q _ H2 (S1.trans S2) (.int k)⟩
theorem mk_op0 {G : List (Nat × PyData)} {t u : TE} {i j k : Int} {g : Int → Int → V} (h : Mk G t (.int i)) (h2 : Mk G u (.int j)) (e : g i j = .int k) : Mk G (tOp (rI0 g) t u) (.int k) := fun σ H Q E q =>
  h σ H _ E fun v H1 S1 d1 => h2 σ H1 _ (E.same S1) fun w H2 S2 d2 => ⟨i, j, dat_isInt d1, dat_isInt d2, by rw [e]; exact q _ H2 (S1.trans S2) (.int k)⟩
theorem mk_repI {G : List (Nat × PyData)} {K : PySem.W.Frag} {t : TE} {d : PyData} {i : Int} {n : Nat} (e : i = (n : Int)) (h : Mk G t d) (h2 : 2 ≤ n) (h10 : n ≤ 10) : Mk G (tOp (rRepT K) (tTup (tCons t tNil)) (tC (.int i))) (.tuple (List.replicate n d)) := by
  subst e
  exact mk_rep h h2 h10
theorem dat_tup {H : Hp} {v : V} {ds : List PyData} (h : Dat H v (.tuple ds)) : ∃ (a : Addr) (xs : List V), v = .ref a ∧ TP H a xs ∧ DatAll H xs ds := by
  cases h with
  | tup ha hx => exact ⟨_, _, rfl, ha, hx⟩
theorem mk_catT {G : List (Nat × PyData)} {K : PySem.W.Frag} {t u : TE} {l1 l2 : List PyData} (h : Mk G t (.tuple l1)) (h2 : Mk G u (.tuple l2)) (n1 : l1 ≠ []) (n2 : l2 ≠ []) (hl : l1.length + l2.length ≤ 1000) : Mk G (tOp (rCatT K) t u) (.tuple (l1 ++ l2)) := fun σ H Q E q =>
  h σ H _ E fun v H1 S1 d1 => h2 σ H1 _ (E.same S1) fun w H2 S2 d2 => by
    obtain ⟨a, xs, rfl, ha, hx⟩ := dat_tup (d1.same S2)
    obtain ⟨b, ys, rfl, hb, hy⟩ := dat_tup d2
    have lx := hx.len
    have ly := hy.len
    refine ⟨a, b, xs, ys, rfl, rfl, sqT_rd ha, sqT_rd hb, fun z => ?_, by rw [lx, ly, sizeLine_eq]; omega, fun z => ?_, fun _ p np => q _ _ ((S1.trans S2).trans (same_new np)) (.tup (TP.of upd_same) (datAll_append (hx.same (same_new np)) (hy.same (same_new np))))⟩
    · rw [z] at lx
      exact n1 (List.length_eq_zero_iff.mp lx.symm)
    · rw [z] at ly
      exact absurd (List.length_eq_zero_iff.mp ly.symm) n2
theorem dat_two {H : Hp} {vs : List V} {d e : PyData} (h : DatAll H vs [d, e]) : ∃ v w : V, vs = [v, w] ∧ Dat H v d ∧ Dat H w e := by
  cases h with
  | cons a h =>
    cases h with
    | cons b h =>
      cases h
      exact ⟨_, _, rfl, a, b⟩
theorem use_tup {G : List (Nat × PyData)} {σ : L2.St} {H : Hp} {Q : VK} {u : TA} {ds : List PyData} (M : Mks G u ds) (hl : ds.length ≤ 1000) (E : EnvOk G σ H) (k : ∀ (vs : List V) (H1 : Hp) (p : Addr), Same H H1 → DatAll H1 vs ds → H1 p = none → Q (.ref p) (upd H1 p (.tup vs))) : tTup u σ H Q :=
  M σ H _ E fun vs H1 S1 dd => ⟨by rw [dd.len, sizeLine_eq]; omega, fun p np => k vs H1 p S1 dd np⟩
theorem use_par {G : List (Nat × PyData)} {σ : L2.St} {H : Hp} {D : Ends} {u : TA} {d e : PyData} {i j : Nat} (M : Mks G u [d, e]) (E : EnvOk G σ H) (k : ∀ (v w : V) (H1 : Hp), Same H H1 → Dat H1 v d → Dat H1 w e → D.nx ((σ.set i (some v)).set j (some w)) H1) : tPar i j u D σ H :=
  M σ H _ E fun vs H1 S1 dd => by
    obtain ⟨v, w, rfl, a, b⟩ := dat_two dd
    exact ⟨v, w, rfl, k v w H1 S1 a b⟩
theorem use_call {G : List (Nat × PyData)} {σ : L2.St} {H : Hp} {Q : VK} {t : TE} {d : PyData} {sp : Sp} {E0 : XK} (M : Mk G t d) (E : EnvOk G σ H) (k : ∀ (v : V) (H1 : Hp), Same H H1 → Dat H1 v d → sp [v] H1 Q E0) : tCall sp [] E0 (tCons t tNil) σ H Q :=
  M σ H _ E fun v H1 S1 dd => k v H1 S1 dd
mutual
/-- no list within -/
def noL : PyData → Bool
  | .list _ => false
  | .tuple l => noLs l
  | _ => true
def noLs : List PyData → Bool
  | [] => true
  | d :: ds => noL d && noLs ds
end
mutual
theorem dat_noL {H : Hp} {L : Addr} {ys : List V} (hL : H L = some (.lst ys)) : ∀ {v : V} {d : PyData}, noL d = true → Dat H v d → Dat (noR L H) v d
  | _, _, _, .non => .non
  | _, _, _, .bl b => .bl b
  | _, _, _, .int i => .int i
  | _, _, _, .str x h => .str x h
  | _, _, h, .lst (a := a) ha hx => by
    rw [noL] at h
    cases h
  | _, _, h, .tup (a := a) ha hx => by
    rw [noL] at h
    refine .tup (fun C f g => ?_) (dat_noLs hL h hx)
    have ne : a ≠ L := fun e => ha.noL (e ▸ hL)
    exact ha C (fun e => f (noR_at e ne)) fun o e n => g o (noR_at e ne) n
  | _, _, _, .d0 (a := a) ha => by
    refine .d0 (noR_at ha fun e => ?_)
    rw [e, hL] at ha
    cases ha
theorem dat_noLs {H : Hp} {L : Addr} {ys : List V} (hL : H L = some (.lst ys)) : ∀ {vs : List V} {ds : List PyData}, noLs ds = true → DatAll H vs ds → DatAll (noR L H) vs ds
  | _, _, _, .nil => .nil
  | _, _, h, .cons t u => by
    rw [noLs, Bool.and_eq_true] at h
    exact .cons (dat_noL hL h.1 t) (dat_noLs hL h.2 u)
end
/-- the variable i holds a list of data, which no value holds -/
def ST (Hi : Hp) (G : List (Nat × PyData)) (i : Nat) (ds : List PyData) (σ : L2.St) (H : Hp) : Prop :=
  ∃ (L : Addr) (zs : List V) (H0 : Hp), σ[i]? = some (some (.ref L)) ∧ H L = some (.lst zs) ∧ H0 L = none ∧ Same Hi H0 ∧ Same H0 H ∧ DatAll H0 zs ds ∧ EnvOk G σ H0
theorem ST.env {Hi : Hp} {G : List (Nat × PyData)} {i : Nat} {ds : List PyData} {σ : L2.St} {H : Hp} (S : ST Hi G i ds σ H) : EnvOk G σ H := by
  obtain ⟨L, zs, H0, h1, h2, h3, h4, h5, h6, h7⟩ := S
  exact h7.same h5
theorem EnvOk.set {G : List (Nat × PyData)} {σ : L2.St} {H : Hp} {i : Nat} {v : V} (E : EnvOk G σ H) (hn : ∀ p ∈ G, p.1 ≠ i) : EnvOk G (σ.set i (some v)) H := fun p hp => by
  obtain ⟨u, a, b⟩ := E p hp
  exact ⟨u, by rw [List.getElem?_set_ne (fun z => hn p hp z.symm)]; exact a, b⟩
theorem EnvOk.put {G : List (Nat × PyData)} {σ : L2.St} {H : Hp} {i : Nat} {v : V} {d : PyData} (E : EnvOk G σ H) (hn : ∀ p ∈ G, p.1 ≠ i) (hi : i < σ.length) (h : Dat H v d) : EnvOk ((i, d) :: G) (σ.set i (some v)) H := fun p hp => by
  rcases List.mem_cons.mp hp with rfl | hp
  · exact ⟨v, List.getElem?_set_self hi, h⟩
  · exact E.set hn p hp
theorem at_len {σ : L2.St} {i : Nat} {x : Option V} (h : σ[i]? = some x) : i < σ.length := (List.getElem?_eq_some_iff.mp h).1
/-- found = [..] -/
theorem st_new {G : List (Nat × PyData)} {Hi : Hp} {i : Nat} {ds : List PyData} {σ : L2.St} {H : Hp} {u : TA} {Q : VK} (E : EnvOk G σ H) (S : Same Hi H) (M : Mks G u ds) (hl : ds.length ≤ 1000) (hn : ∀ p ∈ G, p.1 ≠ i) (hi : i < σ.length)
    (k : ∀ (p : Addr) (H' : Hp), ST Hi G i ds (σ.set i (some (.ref p))) H' → Q (.ref p) H') : tLst u σ H Q :=
  M σ H _ E fun vs H1 S1 d1 => ⟨by rw [d1.len, sizeLine_eq]; omega, fun p np => k p _ ⟨p, vs, H1, List.getElem?_set_self hi, upd_same, np, S.trans S1, same_new np, d1, (E.same S1).set hn⟩⟩
/-- found = found + [..] -/
theorem st_cat {G : List (Nat × PyData)} {Hi : Hp} {i : Nat} {ds es : List PyData} {σ : L2.St} {H : Hp} {u : TA} {Q : VK} (S : ST Hi G i ds σ H) (M : Mks G u es) (hl : ds.length + es.length ≤ 1000) (hn : ∀ p ∈ G, p.1 ≠ i)
    (k : ∀ (p : Addr) (H' : Hp), ST Hi G i (ds ++ es) (σ.set i (some (.ref p))) H' → Q (.ref p) H') : tOp rCat (tVar i) (tLst u) σ H Q := by
  obtain ⟨L, zs, H0, h1, h2, h3, h4, h5, h6, h7⟩ := S
  refine ⟨_, h1, M σ H _ (h7.same h5) fun vs H1 S1 d1 => ⟨by rw [d1.len, sizeLine_eq]; omega, fun l nl => ?_⟩⟩
  have Sl := same_new (o := HO.lst vs) nl
  have T := (h5.trans S1).trans Sl
  have lz := h6.len
  have lv := d1.len
  refine ⟨L, l, zs, vs, rfl, rfl, Sl _ _ (S1 _ _ h2), upd_same, by rw [lz, lv, sizeLine_eq]; omega, fun p np => ?_⟩
  exact k p _ ⟨p, zs ++ vs, _, List.getElem?_set_self (at_len h1), upd_same, np, h4.trans T, same_new np, datAll_append (h6.same T) (d1.same Sl), (h7.same T).set hn⟩
theorem noR_same {L : Addr} {H0 H : Hp} (n : H0 L = none) (S : Same H0 H) : Same H0 (noR L H) := fun b o e => noR_at (S b o e) fun z => by
  rw [z, n] at e
  cases e
theorem noR_to {L : Addr} {H : Hp} {o : HO} : Same (noR L H) (upd H L o) := fun b x e => by
  unfold noR at e
  by_cases c : b = L
  · rw [if_pos c] at e
    cases e
  · rw [if_neg c] at e
    rw [upd_ne c]
    exact e
/-- found.append(..) -/
theorem st_app {K : PySem.W.Frag} {G : List (Nat × PyData)} {Hi : Hp} {i : Nat} {ds : List PyData} {d : PyData} {σ : L2.St} {H : Hp} {t : TE} {Q : VK} (S : ST Hi G i ds σ H) (M : Mk G t d) (hf : noL d = true) (hl : ds.length ≤ 1000)
    (k : ∀ H' : Hp, ST Hi G i (ds ++ [d]) σ H' → Q .non H') : tBM K "list" rAppend (tVar i) (tCons t tNil) σ H Q := by
  obtain ⟨L, zs, H0, h1, h2, h3, h4, h5, h6, h7⟩ := S
  refine ⟨_, h1, .inl ⟨rfl, _, SqL.of h2⟩, M σ H _ (h7.same h5) fun v H1 S1 d1 => ?_⟩
  have lz := h6.len
  have hL := S1 _ _ h2
  have T := noR_same h3 (h5.trans S1)
  refine ⟨L, zs, v, rfl, rfl, hL, by rw [lz, sizeLine_eq]; omega, k _ ⟨L, zs ++ [v], noR L H1, h1, upd_same, if_pos rfl, h4.trans T, noR_to, datAll_append (h6.same T) (.cons (dat_noL hL hf d1) .nil), h7.same T⟩⟩
/-- another variable is stored -/
theorem st_set {G : List (Nat × PyData)} {Hi : Hp} {i j : Nat} {ds : List PyData} {d : PyData} {σ : L2.St} {H : Hp} {v : V} (S : ST Hi G i ds σ H) {H1 : Hp} (S1 : Same H H1) (d1 : Dat H1 v d) (hf : noL d = true) (hn : ∀ p ∈ G, p.1 ≠ j) (hij : j ≠ i) (hj : j < σ.length) :
    ST Hi ((j, d) :: G) i ds (σ.set j (some v)) H1 := by
  obtain ⟨L, zs, H0, h1, h2, h3, h4, h5, h6, h7⟩ := S
  have hL := S1 _ _ h2
  have T := noR_same h3 (h5.trans S1)
  exact ⟨L, zs, noR L H1, by rw [List.getElem?_set_ne hij]; exact h1, hL, if_pos rfl, h4.trans T, noR_sub, h6.same T, (h7.same T).put hn hj (dat_noL hL hf d1)⟩
theorem ST.out {Hi : Hp} {G : List (Nat × PyData)} {i : Nat} {ds : List PyData} {σ : L2.St} {H : Hp} (S : ST Hi G i ds σ H) : ∃ (L : Addr) (zs : List V), σ[i]? = some (some (.ref L)) ∧ H L = some (.lst zs) ∧ Same Hi H ∧ DatAll H zs ds := by
  obtain ⟨L, zs, H0, h1, h2, h3, h4, h5, h6, h7⟩ := S
  exact ⟨L, zs, h1, h2, h4.trans h5, h6.same h5⟩
/-! statements -/
section
variable {G : List (Nat × PyData)} {Hi : Hp} {i : Nat} {ds es : List PyData} {σ : L2.St} {H : Hp} {u : TA} {D : Ends} {R : TS}
theorem sq_tup {g : TG} (M : Mks G u ds) (hl : ds.length ≤ 1000) (E : EnvOk G σ H) (k : ∀ (vs : List V) (H1 : Hp) (p : Addr), Same H H1 → DatAll H1 vs ds → H1 p = none → g (.ref p) σ (upd H1 p (.tup vs)) (R D)) : tSeq (tAsg (tTup u) g) R D σ H := use_tup (Q := fun v H1 => g v σ H1 (R D)) M hl E k
theorem sq_new (E : EnvOk G σ H) (S : Same Hi H) (M : Mks G u ds) (hl : ds.length ≤ 1000) (hn : ∀ p ∈ G, p.1 ≠ i) (hi : i < σ.length)
    (k : ∀ (p : Addr) (H' : Hp), ST Hi G i ds (σ.set i (some (.ref p))) H' → R D (σ.set i (some (.ref p))) H') : tSeq (tAsg (tLst u) (gName i)) R D σ H := st_new (Q := fun v H1 => R D (σ.set i (some v)) H1) E S M hl hn hi k
theorem sq_cat (S : ST Hi G i ds σ H) (M : Mks G u es) (hl : ds.length + es.length ≤ 1000) (hn : ∀ p ∈ G, p.1 ≠ i)
    (k : ∀ (p : Addr) (H' : Hp), ST Hi G i (ds ++ es) (σ.set i (some (.ref p))) H' → R D (σ.set i (some (.ref p))) H') : tSeq (tAsg (tOp rCat (tVar i) (tLst u)) (gName i)) R D σ H := st_cat (Q := fun v H1 => R D (σ.set i (some v)) H1) S M hl hn k
theorem rt_cat (S : ST Hi G i ds σ H) (M : Mks G u es) (hl : ds.length + es.length ≤ 1000) (hn : ∀ p ∈ G, p.1 ≠ i)
    (k : ∀ (p : Addr) (H' : Hp), ST Hi G i (ds ++ es) (σ.set i (some (.ref p))) H' → D.rt (.ref p) H') : tRet (tOp rCat (tVar i) (tLst u)) D σ H := st_cat (Q := D.rt) S M hl hn k
theorem sq_app {K : PySem.W.Frag} {d : PyData} {t : TE} (S : ST Hi G i ds σ H) (M : Mk G t d) (hf : noL d = true) (hl : ds.length ≤ 1000)
    (k : ∀ H' : Hp, ST Hi G i (ds ++ [d]) σ H' → R D σ H') : tSeq (tDrop (tBM K "list" rAppend (tVar i) (tCons t tNil))) R D σ H := st_app (Q := fun _ H1 => R D σ H1) S M hf hl k
theorem sq_par {d e : PyData} {i j : Nat} (M : Mks G u [d, e]) (E : EnvOk G σ H) (k : ∀ (v w : V) (H1 : Hp), Same H H1 → Dat H1 v d → Dat H1 w e → R D ((σ.set i (some v)).set j (some w)) H1) : tSeq (tPar i j u) R D σ H := use_par (D := { D with nx := R D }) M E k
end
/-! ### readings that make known data: more of them -/
section
variable {G : List (Nat × PyData)} {t u w ta tb : TE}
/-- a test whose answer is known -/
def MkT (G : List (Nat × PyData)) (t : TT) (b : Bool) : Prop := ∀ (σ : L2.St) (H : Hp) (Q : Bool → Hp → Prop), EnvOk G σ H → (∀ H' : Hp, Same H H' → Q b H') → t σ H Q
theorem dat_bl {H : Hp} {v : V} {b : Bool} (h : Dat H v (.bool b)) : v = .bl b := by
  cases h
  rfl
theorem mkt {b : Bool} (h : Mk G t (.bool b)) : MkT G (tTest t) b := fun σ H Q E q => h σ H _ E fun v H1 S d => ⟨b, dat_bl d, q H1 S⟩
theorem mkt_b {b : Bool} (h : Mk G t (.bool b)) : MkT G (tB t) b := fun σ H Q E q => h σ H _ E fun v H1 S d => ⟨b, dat_bl d, q H1 S⟩
theorem mk_ifT {c : TT} {d : PyData} (h : MkT G c true) (ha : Mk G ta d) : Mk G (tIf c ta tb) d := fun σ H Q E q => h σ H _ E fun H1 S1 => (if_pos rfl : (if true = true then ta σ H1 Q else tb σ H1 Q) = _) ▸ ha σ H1 Q (E.same S1) fun v H2 S2 d2 => q v H2 (S1.trans S2) d2
theorem mk_ifF {c : TT} {d : PyData} (h : MkT G c false) (hb : Mk G tb d) : Mk G (tIf c ta tb) d := fun σ H Q E q => h σ H _ E fun H1 S1 => (if_neg Bool.false_ne_true : (if false = true then ta σ H1 Q else tb σ H1 Q) = _) ▸ hb σ H1 Q (E.same S1) fun v H2 S2 d2 => q v H2 (S1.trans S2) d2
theorem mk_cmp {i j : Int} {b : Bool} {g : Int → Int → V} (h : Mk G t (.int i)) (h2 : Mk G u (.int j)) (e : g i j = .bl b) : Mk G (tOp (rI0 g) t u) (.bool b) := fun σ H Q E q =>
  h σ H _ E fun v H1 S1 d1 => h2 σ H1 _ (E.same S1) fun w H2 S2 d2 => ⟨i, j, dat_isInt d1, dat_isInt d2, by rw [e]; exact q _ H2 (S1.trans S2) (.bl b)⟩
theorem mk_eq {i j : Int} {b : Bool} (h : Mk G t (.int i)) (h2 : Mk G u (.int j)) (e : decide (i = j) = b) : Mk G (tOp rEq t u) (.bool b) := fun σ H Q E q =>
  h σ H _ E fun v H1 S1 d1 => h2 σ H1 _ (E.same S1) fun w H2 S2 d2 => by
    rw [dat_isInt d1, dat_isInt d2]
    refine ⟨rfl, ?_⟩
    have z : decide (V.int i = V.int j) = b := by
      rw [← e]
      exact decide_eq_decide.mpr ⟨fun h => V.int.inj h, fun h => by rw [h]⟩
    rw [z]
    exact q _ H2 (S1.trans S2) (.bl b)
theorem mk_ne {i j : Int} {b : Bool} (h : Mk G t (.int i)) (h2 : Mk G u (.int j)) (e : decide (i = j) = !b) : Mk G (tOp rNe t u) (.bool b) := fun σ H Q E q =>
  h σ H _ E fun v H1 S1 d1 => h2 σ H1 _ (E.same S1) fun w H2 S2 d2 => by
    rw [dat_isInt d1, dat_isInt d2]
    refine ⟨rfl, ?_⟩
    have z : (!decide (V.int i = V.int j)) = b := by
      have y : decide (V.int i = V.int j) = decide (i = j) := decide_eq_decide.mpr ⟨fun h => V.int.inj h, fun h => by rw [h]⟩
      rw [y, e, Bool.not_not]
    rw [z]
    exact q _ H2 (S1.trans S2) (.bl b)
/-- a == b == c == d, all the same -/
theorem mk_chain3 {x : TE} {i : Int} (h1 : Mk G t (.int i)) (h2 : Mk G u (.int i)) (h3 : Mk G w (.int i)) (h4 : Mk G x (.int i)) : Mk G (tChain3 rEq rEq rEq t u w x) (.bool true) := fun σ H Q E q =>
  h1 σ H _ E fun v1 H1 S1 d1 => h2 σ H1 _ (E.same S1) fun v2 H2 S2 d2 => by
    rw [dat_isInt d1, dat_isInt d2]
    refine ⟨rfl, _, rfl, ?_⟩
    rw [decide_eq_true rfl, if_pos rfl]
    refine h3 σ H2 _ (E.same (S1.trans S2)) fun v3 H3 S3 d3 => ?_
    rw [dat_isInt d3]
    refine ⟨rfl, _, rfl, ?_⟩
    rw [decide_eq_true rfl, if_pos rfl]
    refine h4 σ H3 _ (E.same ((S1.trans S2).trans S3)) fun v4 H4 S4 d4 => ?_
    rw [dat_isInt d4]
    refine ⟨rfl, ?_⟩
    rw [decide_eq_true rfl]
    exact q _ H4 (((S1.trans S2).trans S3).trans S4) (.bl true)
theorem mk_chainLe {lo x hi : Int} {b : Bool} (h1 : Mk G t (.int lo)) (h2 : Mk G u (.int x)) (h3 : Mk G w (.int hi)) (e : (decide (lo ≤ x) && decide (x ≤ hi)) = b) : Mk G (tChain (rI0 fun i j => .bl (decide (i ≤ j))) (rI0 fun i j => .bl (decide (i ≤ j))) t u w) (.bool b) := fun σ H Q E q =>
  h1 σ H _ E fun v1 H1 S1 d1 => h2 σ H1 _ (E.same S1) fun v2 H2 S2 d2 => by
    refine ⟨lo, x, dat_isInt d1, dat_isInt d2, _, rfl, ?_⟩
    by_cases c : lo ≤ x
    · rw [decide_eq_true c] at e ⊢
      rw [if_pos rfl]
      refine h3 σ H2 _ (E.same (S1.trans S2)) fun v3 H3 S3 d3 => ⟨x, hi, dat_isInt d2, dat_isInt d3, ?_⟩
      have e' : decide (x ≤ hi) = b := e
      show Q (.bl (decide (x ≤ hi))) H3
      rw [e']
      exact q _ H3 ((S1.trans S2).trans S3) (.bl b)
    · rw [decide_eq_false c] at e ⊢
      rw [if_neg Bool.false_ne_true]
      obtain rfl : false = b := e
      exact q _ H2 (S1.trans S2) (.bl false)
theorem mk_orT (h : Mk G t (.bool true)) : Mk G (tOrV t u) (.bool true) := fun σ H Q E q => h σ H _ E fun v H1 S d => ⟨true, dat_bl d, (if_pos rfl : (if true = true then Q (.bl true) H1 else u σ H1 Q) = _) ▸ q _ H1 S (.bl true)⟩
theorem mk_orF {d : PyData} (h : Mk G t (.bool false)) (h2 : Mk G u d) : Mk G (tOrV t u) d := fun σ H Q E q => h σ H _ E fun v H1 S1 d1 => ⟨false, dat_bl d1, (if_neg Bool.false_ne_true : (if false = true then Q (.bl true) H1 else u σ H1 Q) = _) ▸ h2 σ H1 _ (E.same S1) fun w H2 S2 d2 => q _ H2 (S1.trans S2) d2⟩
theorem mk_andT {d : PyData} (h : Mk G t (.bool true)) (h2 : Mk G u d) : Mk G (tAndV t u) d := fun σ H Q E q => h σ H _ E fun v H1 S1 d1 => ⟨true, dat_bl d1, (if_pos rfl : (if true = true then u σ H1 Q else Q (.bl false) H1) = _) ▸ h2 σ H1 _ (E.same S1) fun w H2 S2 d2 => q _ H2 (S1.trans S2) d2⟩
theorem mk_isN {b : Bool} {d : PyData} (h : Mk G t d) (e : ∀ v H, Dat H v d → decide (v = V.non) = b) : Mk G (tOp (fun x y H Q => y = .non ∧ Q (.bl (decide (x = .non))) H) t (tC .non)) (.bool b) := fun σ H Q E q => h σ H _ E fun v H1 S d1 => ⟨rfl, by rw [e v H1 d1]; exact q _ H1 S (.bl b)⟩
theorem dat_lst {H : Hp} {v : V} {ds : List PyData} (h : Dat H v (.list ds)) : ∃ (a : Addr) (xs : List V), v = .ref a ∧ H a = some (.lst xs) ∧ DatAll H xs ds := by
  cases h with
  | lst ha hx => exact ⟨_, _, rfl, ha, hx⟩
theorem dat_ints {H : Hp} : ∀ {ns : List Int} {xs : List V}, DatAll H xs (ns.map PyData.int) → xs = ns.map V.int
  | [], _, .nil => rfl
  | n :: ns, _, .cons a b => by
    rw [dat_isInt a, dat_ints b]
    rfl
theorem mk_sum {K : PySem.W.Frag} {ns : List Int} (h : Mk G t (.list (ns.map PyData.int))) : Mk G (tCB (rSum K) (tCons t tNil)) (.int ns.sum) := fun σ H Q E q => h σ H _ E fun v H1 S d => by
  obtain ⟨a, xs, rfl, ha, hx⟩ := dat_lst d
  rw [dat_ints hx] at ha
  exact ⟨a, ns, rfl, SqL.of ha, q _ H1 S (.int _)⟩
theorem ints_dp {K : PySem.W.Frag} {H : Hp} : ∀ ns : List Int, DpAll K H (ns.map V.int) (ns.map PyData.int)
  | [] => .nil
  | n :: ns => .cons (.int n) (ints_dp ns)
theorem ints_shaped (ns : List Int) : SeqAt.shaped (.list (ns.map PyData.int)) = true := by
  have h1 : ∀ l : List Int, PyData.canLayAll0 (l.map PyData.int) = true := by
    intro l
    induction l with
    | nil => rfl
    | cons a l ih =>
      show (PyData.canLay0 (.int a) && PyData.canLayAll0 (l.map PyData.int)) = true
      rw [ih]
      rfl
  have h2 : ∀ l : List Int, PyData.depthAll (l.map PyData.int) = 0 := by
    intro l
    induction l with
    | nil => rfl
    | cons a l ih =>
      rw [List.map_cons, PyData.depthAll, ih]
      rfl
  unfold SeqAt.shaped
  rw [PyData.depth, h2]
  show (PyData.canLayAll0 (ns.map PyData.int) && true) = true
  rw [h1]
  rfl
/-- two lists of the same ints -/
theorem mk_eqL {K : PySem.W.Frag} {ns : List Int} (h : Mk G t (.list (ns.map PyData.int))) (h2 : Mk G u (.list (ns.map PyData.int))) : Mk G (tOp (rEqD K) t u) (.bool true) := fun σ H Q E q =>
  h σ H _ E fun v H1 S1 d1 => h2 σ H1 _ (E.same S1) fun w H2 S2 d2 => by
    obtain ⟨a, xs, rfl, ha, hx⟩ := dat_lst d1
    obtain ⟨b, ys, rfl, hb, hy⟩ := dat_lst d2
    rw [dat_ints hx] at ha
    rw [dat_ints hy] at hb
    refine ⟨_, _, .lst (SqL.of (S2 _ _ ha)) (ints_dp ns), .lst (SqL.of hb) (ints_dp ns), ints_shaped ns, ints_shaped ns, ?_⟩
    have e : PyData.eqv (.list (ns.map PyData.int)) (.list (ns.map PyData.int)) = true := SeqAt.eqv_refl _ (SeqAt.canLay_of_shaped (ints_shaped ns))
    rw [e]
    exact q _ H2 (S1.trans S2) (.bl true)
theorem mk_catL {l1 l2 : List PyData} (h : Mk G t (.list l1)) (h2 : Mk G u (.list l2)) (hl : l1.length + l2.length ≤ 1000) : Mk G (tOp rCat t u) (.list (l1 ++ l2)) := fun σ H Q E q =>
  h σ H _ E fun v H1 S1 d1 => h2 σ H1 _ (E.same S1) fun w H2 S2 d2 => by
    obtain ⟨a, xs, rfl, ha, hx⟩ := dat_lst (d1.same S2)
    obtain ⟨b, ys, rfl, hb, hy⟩ := dat_lst d2
    have lx := hx.len
    have ly := hy.len
    exact ⟨a, b, xs, ys, rfl, rfl, ha, hb, by rw [lx, ly, sizeLine_eq]; omega, fun p np => q _ _ ((S1.trans S2).trans (same_new np)) (.lst upd_same (datAll_append (hx.same (same_new np)) (hy.same (same_new np))))⟩
theorem mk_ixT {K : PySem.W.Frag} {ds : List PyData} {d : PyData} {i : Int} {j : Nat} (h : Mk G t (.tuple ds)) (e : i = (j : Int)) (hj : ds[j]? = some d) : Mk G (tOp (rIxT K) t (tC (.int i))) d := fun σ H Q E q => h σ H _ E fun v H1 S1 d1 => by
  obtain ⟨a, xs, rfl, ha, hx⟩ := dat_tup d1
  have hl := hx.len
  obtain ⟨x, hx1⟩ : ∃ x, xs[j]? = some x := ⟨xs[j]'(by rw [hl]; exact (List.getElem?_eq_some_iff.mp hj).1), List.getElem?_eq_getElem _⟩
  obtain ⟨d', hd', dx⟩ := hx.get hx1
  rw [hj] at hd'
  obtain rfl := Option.some.inj hd'
  subst e
  exact ⟨a, xs, _, x, rfl, rfl, sqT_rd ha, atI_nat hx1, q _ H1 S1 dx⟩
end
/-! ### statements over known data -/
theorem dat_int' {H : Hp} {i j : Int} (e : i = j) : Dat H (.int i) (.int j) := by
  subst e
  exact .int i
section
variable {G : List (Nat × PyData)} {i : Nat} {d : PyData} {σ : L2.St} {H : Hp} {te : TE} {D : Ends} {R A : TS} {c : TT}
theorem sq_set (M : Mk G te d) (E : EnvOk G σ H) (hn : G.all (fun p => p.1 != i) = true) (hi : i < σ.length) (k : ∀ (v : V) (H' : Hp), Same H H' → EnvOk ((i, d) :: G) (σ.set i (some v)) H' → R D (σ.set i (some v)) H') : tSeq (tAsg te (gName i)) R D σ H :=
  M σ H (fun v H1 => R D (σ.set i (some v)) H1) E fun v H1 S d1 => k v H1 S ((E.same S).put (fun p hp => bne_iff_ne.mp (List.all_eq_true.mp hn p hp)) hi d1)
theorem rt_mk (M : Mk G te d) (E : EnvOk G σ H) (k : ∀ (v : V) (H' : Hp), Same H H' → Dat H' v d → D.rt v H') : tRet te D σ H := M σ H D.rt E k
theorem sq_if0 (M : MkT G c false) (E : EnvOk G σ H) (k : ∀ H' : Hp, Same H H' → R D σ H') : tSeq (tIfS c A tNext) R D σ H := M σ H _ E fun H1 S => (if_neg Bool.false_ne_true : (if false = true then A { D with nx := R D } σ H1 else tNext { D with nx := R D } σ H1) = _) ▸ k H1 S
theorem sq_if1 {B : TS} (M : MkT G c true) (E : EnvOk G σ H) (k : ∀ H' : Hp, Same H H' → A { D with nx := R D } σ H') : tSeq (tIfS c A B) R D σ H := M σ H _ E fun H1 S => (if_pos rfl : (if true = true then A { D with nx := R D } σ H1 else B { D with nx := R D } σ H1) = _) ▸ k H1 S
end
section
variable {G : List (Nat × PyData)} {t u : TE} {c c2 : TT}
theorem mk_orTT {b : Bool} (h : MkT G c false) (h2 : MkT G c2 b) : MkT G (tOr c c2) b := fun σ H Q E q => h σ H _ E fun H1 S1 => (if_neg Bool.false_ne_true : (if false = true then Q true H1 else c2 σ H1 Q) = _) ▸ h2 σ H1 Q (E.same S1) fun H2 S2 => q H2 (S1.trans S2)
theorem mk_subN {x y z : Nat} (h : Mk G t (.int ((x : Nat) : Int))) (h2 : Mk G u (.int ((y : Nat) : Int))) (e : y + z = x) : Mk G (tOp (rI0 fun i j => .int (i - j)) t u) (.int ((z : Nat) : Int)) := mk_op0 h h2 (by
  show V.int ((x : Int) - (y : Int)) = _
  rw [show (x : Int) - (y : Int) = (z : Int) by omega])
theorem mk_addN {x y z : Nat} (h : Mk G t (.int ((x : Nat) : Int))) (h2 : Mk G u (.int ((y : Nat) : Int))) (e : x + y = z) : Mk G (tOp (rI0 fun i j => .int (i + j)) t u) (.int ((z : Nat) : Int)) := mk_op0 h h2 (by
  show V.int ((x : Int) + (y : Int)) = _
  rw [show (x : Int) + (y : Int) = (z : Int) by omega])
theorem mk_mulN {x y z : Nat} (h : Mk G t (.int ((x : Nat) : Int))) (h2 : Mk G u (.int ((y : Nat) : Int))) (hx : x < 2 ^ 14000) (hy : y < 2 ^ 14000) (e : x * y = z) : Mk G (tOp (rI CMulW fun i j => .int (i * j)) t u) (.int ((z : Nat) : Int)) :=
  mk_op h h2 (wide_mul (a := 14000) (b := 14000) (by rw [Int.natAbs_natCast]; exact hx) (by rw [Int.natAbs_natCast]; exact hy) (by decide) (by decide) (by decide)) (by rw [← e, Int.natCast_mul])
theorem mk_nat {y : Nat} {i : Int} (e : i = (y : Int)) : Mk G (tC (.int i)) (.int ((y : Nat) : Int)) := by
  subst e
  exact mk_int
theorem mk_eqN {x : Nat} (h : Mk G t (.int ((x : Nat) : Int))) (h2 : Mk G u (.int ((x : Nat) : Int))) : Mk G (tOp rEq t u) (.bool true) := mk_eq h h2 (decide_eq_true rfl)
theorem mk_neN {x : Nat} (h : Mk G t (.int ((x : Nat) : Int))) (h2 : Mk G u (.int ((x : Nat) : Int))) : Mk G (tOp rNe t u) (.bool false) := mk_ne h h2 (decide_eq_true rfl)
end
theorem lt_big {x y a : Nat} (h : x < 2 ^ a) (ha : a ≤ 14000) : x < 2 ^ 14000 := Nat.lt_of_lt_of_le h (Nat.pow_le_pow_right (by decide) ha)
section
variable {P : Program} {w : World} {K : PySem.W.Frag} {mg : Str → Option Value} {base : Heap}
end
/-! ### permutations, walks -/
theorem atI_back {α : Type} {xs : List α} {v : α} (j : Nat) (h1 : 1 ≤ j) (hj : j ≤ xs.length) (h : xs[xs.length - j]? = some v) : atI xs (-(j : Int)) = some v := by
  have e : ixN xs.length (-(j : Int)) = some (xs.length - j) := by
    unfold ixN
    rw [if_neg (by omega), if_pos (by omega)]
    congr 1
    omega
  unfold atI
  rw [e]
  exact h
def rngD (n : Nat) : List PyData := (List.range n).map fun i => .int ((i : Nat) : Int)
section
variable {G : List (Nat × PyData)} {t u : TE}
theorem mk_ixL {K : PySem.W.Frag} {ds : List PyData} {d : PyData} {j : Nat} (h : Mk G t (.list ds)) (h2 : Mk G u (.int ((j : Nat) : Int))) (hj : ds[j]? = some d) : Mk G (tOp (rIxL K) t u) d := fun σ H Q E q => h σ H _ E fun v H1 S1 d1 => h2 σ H1 _ (E.same S1) fun w H2 S2 d2 => by
  obtain ⟨a, xs, rfl, ha, hx⟩ := dat_lst (d1.same S2)
  have hl := hx.len
  obtain ⟨x, hx1⟩ : ∃ x, xs[j]? = some x := ⟨xs[j]'(by rw [hl]; exact (List.getElem?_eq_some_iff.mp hj).1), List.getElem?_eq_getElem _⟩
  obtain ⟨d', hd', dx⟩ := hx.get hx1
  rw [hj] at hd'
  obtain rfl := Option.some.inj hd'
  exact ⟨a, xs, _, x, rfl, dat_isInt d2, SqL.of ha, atI_nat hx1, q _ H2 (S1.trans S2) dx⟩
theorem ints_all (H : Hp) : ∀ ns : List Int, DatAll H (ns.map V.int) (ns.map PyData.int)
  | [] => .nil
  | n :: ns => .cons (.int n) (ints_all H ns)
theorem mk_tupRg {n : Nat} (h : Mk G t (.int ((n : Nat) : Int))) (hn : n ≤ 1000) : Mk G (tTupRg (tRg1 t)) (.tuple (rngD n)) := fun σ H Q E q => h σ H _ E fun v H1 S1 d1 => by
  refine ⟨(n : Int), dat_isInt d1, .of_le (by decide) (by omega) (by decide) (by omega), fun r nr => q _ _ (S1.trans (same_new nr)) (.tup (TP.of upd_same) ?_)⟩
  have e1 : rgV 0 ((n : Nat) : Int) = ((List.range n).map fun i : Nat => ((i : Nat) : Int)).map V.int := by
    unfold rgV
    rw [List.map_map, show (((n : Nat) : Int) - 0).toNat = n by omega]
    exact List.map_congr_left fun i _ => by
      show V.int (0 + (i : Int)) = V.int (i : Int)
      rw [Int.zero_add]
  have e2 : rngD n = ((List.range n).map fun i : Nat => ((i : Nat) : Int)).map PyData.int := by
    unfold rngD
    rw [List.map_map]
    rfl
  rw [e1, e2]
  exact ints_all _ _
end
section
variable {v : V} {H : Hp} {Q : VK} {E : XK}
end
theorem rng_len (n : Nat) : (rngD n).length = n := by
  unfold rngD
  rw [List.length_map, List.length_range]
section
variable {P : Program} {w : World} {K : PySem.W.Frag} {mg : Str → Option Value} {base : Heap}
end
/-! ### strings -/
section
variable {v : V} {H : Hp} {Q : VK} {E : XK}
end
theorem mk_lenS {G : List (Nat × PyData)} {t : TE} {z : Str} {m : Nat} (h : Mk G t (.str z)) (hm : z.length = m) (hl : m ≤ 1000) : Mk G (tCB (fun xs H Q => ∃ z : Str, xs = [.str z] ∧ z.length ≤ sizeLine ∧ Q (.int (z.length : Nat)) H) (tCons t tNil)) (.int ((m : Nat) : Int)) := fun σ H Q E q => h σ H _ E fun v H1 S1 d1 => by
  subst hm
  cases d1
  exact ⟨z, rfl, by rw [sizeLine_eq]; omega, q _ H1 S1 (.int _)⟩
section
variable {P : Program} {w : World} {K : PySem.W.Frag} {mg : Str → Option Value} {base : Heap}
end
/-! ### nested spaces -/
section
variable {v : V} {H : Hp} {Q : VK} {E : XK}
end
section
variable {v : V} {H : Hp} {Q : VK} {E : XK} {a b t c : Nat}
end
theorem ne_of {G : List (Nat × PyData)} {i : Nat} (h : G.all (fun p => p.1 != i) = true) : ∀ p ∈ G, p.1 ≠ i := fun p hp => bne_iff_ne.mp (List.all_eq_true.mp h p hp)
theorem ST.same {Hi : Hp} {G : List (Nat × PyData)} {i : Nat} {ds : List PyData} {σ : L2.St} {H : Hp} (S : ST Hi G i ds σ H) : Same Hi H := S.out.choose_spec.choose_spec.2.2.1
theorem ST.envL {Hi : Hp} {G : List (Nat × PyData)} {i : Nat} {ds : List PyData} {σ : L2.St} {H : Hp} (S : ST Hi G i ds σ H) : EnvOk ((i, .list ds) :: G) σ H := fun p hp => by
  rcases List.mem_cons.mp hp with rfl | hp
  · obtain ⟨L, zs, h1, h2, _, h4⟩ := S.out
    exact ⟨_, h1, .lst h2 h4⟩
  · exact S.env p hp
theorem sq_par3 {G : List (Nat × PyData)} {i j l : Nat} {d e : PyData} {σ : L2.St} {H : Hp} {t u : TE} {w : TA} {D : Ends} {R : TS} (M1 : Mk G t d) (M2 : Mk G u e) (E : EnvOk G σ H)
    (k : ∀ (v1 v2 : V) (H' : Hp), Same H H' → Dat H' v1 d → Dat H' v2 e → w σ H' fun vs H1 => ∃ x y z, v1 :: v2 :: vs = [x, y, z] ∧ R D (((σ.set i (some x)).set j (some y)).set l (some z)) H1) : tSeq (tPar3 i j l (tCons t (tCons u w))) R D σ H :=
  M1 σ H _ E fun v1 H1 S1 d1 => M2 σ H1 _ (E.same S1) fun v2 H2 S2 d2 => k v1 v2 H2 (S1.trans S2) (d1.same S2) d2
section
variable {P : Program} {w : World} {K : PySem.W.Frag} {mg : Str → Option Value} {base : Heap}
end
/-! ### words -/
theorem mk_tupL {K : PySem.W.Frag} {G : List (Nat × PyData)} {t : TE} {ds : List PyData} (h : Mk G t (.list ds)) : Mk G (tCB (fun xs H Q => ∃ p ys, xs = [.ref p] ∧ ((SqL K H p ys ∧ ∀ l, H l = none → Q (.ref l) (upd H l (.tup ys))) ∨ (SqT K H p ys ∧ Q (.ref p) H))) (tCons t tNil)) (.tuple ds) := fun σ H Q E q => h σ H _ E fun v H1 S1 d1 => by
  obtain ⟨a, xs, rfl, ha, hx⟩ := dat_lst d1
  exact ⟨a, xs, rfl, .inl ⟨SqL.of ha, fun l nl => q _ _ (S1.trans (same_new nl)) (.tup (TP.of upd_same) (hx.same (same_new nl)))⟩⟩
section
variable {P : Program} {w : World} {K : PySem.W.Frag} {mg : Str → Option Value} {base : Heap}
end
/-! ### the law's orders, arrangements -/
theorem cutV_nat (xs : List V) (a b : Nat) : cutV xs (some ((a : Nat) : Int)) (some ((a : Int) + (b : Int))) = (xs.drop a).take b := by
  unfold cutV
  rw [show (a : Int) + (b : Int) = ((a + b : Nat) : Int) by omega, HT.sIx_nat, HT.sIx_nat]
  by_cases h : a ≤ xs.length
  · rw [Nat.min_eq_left h]
    by_cases h2 : a + b ≤ xs.length
    · rw [Nat.min_eq_left h2, show a + b - a = b by omega]
    · rw [Nat.min_eq_right (by omega), List.take_of_length_le (by rw [List.length_drop]; omega), List.take_of_length_le (by rw [List.length_drop]; omega)]
  · have m1 : min a xs.length = xs.length := Nat.min_eq_right (by omega)
    rw [m1, List.drop_of_length_le (Nat.le_refl _), List.drop_of_length_le (by omega)]
    simp
theorem cutV_to (xs : List V) (b : Nat) : cutV xs none (some ((b : Nat) : Int)) = xs.take b := by
  unfold cutV
  rw [HT.sIx_nat, HT.sIx_none, List.drop_zero, Nat.sub_zero]
  by_cases h2 : b ≤ xs.length
  · rw [Nat.min_eq_left h2]
  · rw [Nat.min_eq_right (by omega), List.take_of_length_le (Nat.le_refl _), List.take_of_length_le (by omega)]
theorem cutV_from (xs : List V) (a : Nat) : cutV xs (some ((a : Nat) : Int)) none = xs.drop a := by
  unfold cutV
  rw [HT.sIx_nat, HT.sIx_none]
  by_cases h : a ≤ xs.length
  · rw [Nat.min_eq_left h, List.take_of_length_le (by rw [List.length_drop]; omega)]
  · rw [Nat.min_eq_right (by omega), List.drop_of_length_le (Nat.le_refl _), List.drop_of_length_le (by omega)]
    simp
section
variable {P : Program} {w : World} {K : PySem.W.Frag} {mg : Str → Option Value} {base : Heap}
end
theorem dat_strs {H : Hp} : ∀ {ns : List Str} {xs : List V}, DatAll H xs (ns.map PyData.str) → xs = ns.map V.str
  | [], _, .nil => rfl
  | n :: ns, _, .cons a b => by
    rw [dat_strs b]
    cases a
    rfl
theorem strs_all (H : Hp) : ∀ ns : List Str, (∀ z ∈ ns, z.length ≤ 1000) → DatAll H (ns.map V.str) (ns.map PyData.str)
  | [], _ => .nil
  | n :: ns, h => .cons (.str n (h n (by simp))) (strs_all H ns fun z hz => h z (by simp [hz]))
section
variable {G : List (Nat × PyData)} {t u : TE}
theorem mk_lenL {K : PySem.W.Frag} {ds : List PyData} {n : Nat} (h : Mk G t (.list ds)) (e : ds.length = n) : Mk G (tCB (rLenS K) (tCons t tNil)) (.int ((n : Nat) : Int)) := fun σ H Q E q => h σ H _ E fun v H1 S1 d1 => by
  obtain ⟨a, xs, rfl, ha, hx⟩ := dat_lst d1
  have hl := hx.len
  subst e
  exact ⟨a, xs, rfl, .inl (SqL.of ha), by rw [hl]; exact q _ H1 S1 (.int _)⟩
end
section
variable {P : Program} {w : World} {K : PySem.W.Frag} {mg : Str → Option Value} {base : Heap}
end
end K9
set_option maxRecDepth 100000
set_option maxHeartbeats 8000000
namespace K9
open PySem PySem.Spec PyProof.Rows L2
/-! ### a set of keys of one kind, with what its walk wants (L2.SetR for any kind) -/
def GdE {P : Program} {w : World} {κ : Type} [DecidableEq κ] (knd : PySem.KeyKind P w κ) (dec : Value → κ) (e : Int × Value) : Prop := knd.is (dec e.2) e.2 = true ∧ e.1 = knd.hash (dec e.2) ∧ e.2.scannable = true
def SetX {P : Program} {w : World} {κ : Type} [DecidableEq κ] (knd : PySem.KeyKind P w κ) (dec : Value → κ) (h : Heap) (a : Addr) (S : κ → Bool) (n : Nat) : Prop :=
  ∃ o es ep t, h.get? a = some o ∧ o.ExactSet ∧ o.data = .set es ep t ∧ (∀ e ∈ es.toList, GdE knd dec e) ∧ (es.toList.map fun e => dec e.2).Nodup ∧ (∀ k, S k = true ↔ k ∈ es.toList.map fun e => dec e.2) ∧
    es.size < scanBound ∧ t.fits es.size = true ∧ es.size = n ∧ Ris t.place.toList ∧ (w.params.followText "set-order" = true ∨ t.led = true)
section
variable {P : Program} {w : World} {κ : Type} [DecidableEq κ] {knd : PySem.KeyKind P w κ} {dec : Value → κ} {h h' : Heap} {a : Addr} {S : κ → Bool} {n : Nat}
theorem SetX.at (R : SetX knd dec h a S n) (k : ∀ o, h.get? a = some o → h'.get? a = some o) : SetX knd dec h' a S n := by
  obtain ⟨o, es, ep, t, ho, r⟩ := R
  exact ⟨o, es, ep, t, k o ho, r⟩
theorem SetX.as {S' : κ → Bool} (R : SetX knd dec h a S n) (e : ∀ k, S' k = S k) : SetX knd dec h a S' n := (funext e : S' = S) ▸ R
theorem gd_elems {l : List (Int × Value)} (g : ∀ e ∈ l, GdE knd dec e) : ElemsOf knd l := fun e he => ⟨⟨_, (g e he).1, (g e he).2.1⟩, (g e he).2.2⟩
theorem gd_is {e : Int × Value} (g : GdE knd dec e) (k : κ) : knd.is k e.2 = true ↔ dec e.2 = k := by
  constructor
  · intro z
    exact knd.inj _ _ _ g.1 z
  · rintro rfl
    exact g.1
theorem gd_mem {l : List (Int × Value)} (g : ∀ e ∈ l, GdE knd dec e) (k : κ) : k ∈ (l.map fun e => dec e.2) ↔ ∃ e ∈ l, knd.is k e.2 = true := by
  rw [List.mem_map]
  constructor
  · rintro ⟨e, he, q⟩
    exact ⟨e, he, (gd_is (g e he) k).2 q⟩
  · rintro ⟨e, he, q⟩
    exact ⟨e, he, (gd_is (g e he) k).1 q⟩
variable {A : Around} {E : Value → Shared → Prop} {s : Shared}
theorem setX_tail {g : Bool → Sem Unit} (hg : ∀ (b : Bool) (s₁ : Shared) (Q' : Unit → Shared → Prop), Q' () s₁ → wpAny (model P w) A (g b) Q' E s₁)
    {o : Obj} {es : Array (Int × Value)} {ep : Nat} {t : SetTable} (ho : s.heap.get? a = some o) (hex : o.ExactSet) (hd : o.data = .set es ep t)
    {es1 : Array (Int × Value)} {t2 : SetTable} {S' : κ → Bool} (g1 : ∀ e ∈ es1.toList, GdE knd dec e) (nd1 : (es1.toList.map fun e => dec e.2).Nodup) (m1 : ∀ k, S' k = true ↔ k ∈ es1.toList.map fun e => dec e.2)
    (hb1 : es1.size < scanBound) (hf2 : t2.fits es1.size = true) (hr : Ris t2.place.toList) (hl : w.params.followText "set-order" = true ∨ t2.led = true) {wasDummy : Bool} {R : Option Bool → Shared → Prop}
    (hR : ∀ h', Heap.SameBut a s.heap h' → SetX knd dec h' a S' es1.size → R (some true) { s with heap := h' }) :
    wpAny (model P w) A (do
        storeSet a es1 t2
        if (!wasDummy && t2.tooFull) = true then do
            g (relayAll t2 es1 (SetTable.grown es1.size)).2.2
            storeSet a (relayAll t2 es1 (SetTable.grown es1.size)).1 (relayAll t2 es1 (SetTable.grown es1.size)).2.1
            pure (some true)
          else pure (some true)) R E s := by
  refine wpAny_bind (wpAny_storeSet_of ho hd ?_ (fits_of_scanBound hb1))
  have ho1 := store_at (es' := es1) (t' := t2) ho hd
  have sb1 := Heap.SameBut.update s.heap a (Obj.putSet es1 t2)
  split
  · have pm := relayAll_perm t2 es1 (SetTable.grown es1.size)
    have hf3 := relayAll_fits t2 es1 (SetTable.grown es1.size)
    have hr3 := relayAll_ris t2 es1 (SetTable.grown es1.size)
    have hl3 := relayAll_led t2 es1 (SetTable.grown es1.size)
    generalize relayAll t2 es1 (SetTable.grown es1.size) = Z at pm hf3 hr3 hl3 ⊢
    obtain ⟨es2, t3, gave⟩ := Z
    dsimp only at pm hf3 hr3 hl3 ⊢
    have hsz : es2.size = es1.size := by rw [← Array.length_toList, pm.length_eq, Array.length_toList]
    have hb2 : es2.size < scanBound := by rw [hsz]; exact hb1
    have pk := pm.map fun e => dec e.2
    refine wpAny_bind (hg _ _ _ (wpAny_bind (wpAny_storeSet_of ho1 rfl ?_ (fits_of_scanBound hb2))))
    have ho2 := store_at (es' := es2) (t' := t3) ho1 rfl
    refine wpAny_pure (hR _ (sb1.trans (Heap.SameBut.update _ a _)) ?_)
    exact ⟨_, es2, _, t3, ho2, hex, rfl, fun e he => g1 e (pm.mem_iff.mp he), pk.nodup_iff.mpr nd1, fun k => (m1 k).trans pk.mem_iff.symm, hb2, hf3, hsz, hr3, hl.imp id fun z => by rw [hl3]; exact z⟩
  · exact wpAny_pure (hR _ sb1 ⟨_, es1, _, t2, ho1, hex, rfl, g1, nd1, m1, hb1, hf2, rfl, hr, hl⟩)
theorem setX_add {k : κ} {x : Value} {Q : Bool → Shared → Prop} (hkey : knd.is k x = true) (hdx : dec x = k) (hsc : x.scannable = true) (R : SetX knd dec s.heap a S n) (room : n + 1 < scanBound)
    (hQ : ∀ h', Heap.SameBut a s.heap h' → SetX knd dec h' a (fun j => S j || decide (j = k)) (if S k = true then n else n + 1) → Q (!S k) { s with heap := h' }) :
    wpAny (model P w) A (setAddHashed a x (knd.hash k)) Q E s := by
  obtain ⟨o, es, ep, t, ho, hex, hd, g, nd, hm, hb, hf, hn, hr, hl⟩ := R
  have hel : ElemsOf knd es.toList := gd_elems g
  unfold setAddHashed setAddHashedIn
  refine wpAny_holding (wpAny_bind (wpAny_setState_of ho hd hf ?_))
  dsimp only
  rw [byScan_of hsc hb hel]
  simp only [↓reduceIte]
  unfold setAddByScan
  refine wpAny_bind ?_
  refine wpAny_bind (wpAny_rule ?_)
  refine wpAny_bind (wpAny_setScan_of hkey ho hd hf hel ?_)
  cases hfi : List.findIdx? (fun e => knd.is k e.2) es.toList with
  | some j =>
    dsimp only
    obtain ⟨hj, pj, _⟩ := List.findIdx?_eq_some_iff_getElem.mp hfi
    have hSk : S k = true := (hm k).2 ((gd_mem g k).2 ⟨es.toList[j], List.getElem_mem hj, pj⟩)
    refine wpAny_pure (wpAny_pure ?_)
    have q := hQ s.heap (Heap.SameBut.refl a s.heap) ⟨o, es, ep, t, ho, hex, hd, g, nd, fun i => by
      rw [Bool.or_eq_true, decide_eq_true_eq, ← hm i]
      exact ⟨fun z => z.elim id (fun e => e ▸ hSk), .inl⟩, hb, hf, by rw [if_pos hSk]; exact hn, hr, hl⟩
    rw [hSk] at q
    exact q
  | none =>
    dsimp only
    have hnk : k ∉ es.toList.map fun e => dec e.2 := fun z => by
      obtain ⟨e, he, q⟩ := (gd_mem g k).1 z
      have c := List.findIdx?_eq_none_iff.mp hfi e he
      rw [q] at c
      cases c
    have hSk : S k = false := by
      cases q : S k with
      | false => rfl
      | true => exact absurd ((hm k).1 q) hnk
    have hgw : ∀ (b : Bool) {s₁ : Shared} {Q' : Unit → Shared → Prop}, Q' () s₁ → wpAny (model P w) A (match b with | true => rule "set.scan.the-table-gave-way" | false => pure ()) Q' E s₁ :=
      fun b s₁ Q' q => by cases b <;> first | exact wpAny_pure q | exact wpAny_rule q
    have pm := layNew_perm t es (knd.hash k) x
    have hf1 := layNew_fits t es (knd.hash k) x
    have hr1 := layNew_ris t es (knd.hash k) x hr
    have hl1 := layNew_led t es (knd.hash k) x
    generalize layNew t es (knd.hash k) x = Z at pm hf1 hr1 hl1 ⊢
    obtain ⟨es1, t1, wasDummy, gave⟩ := Z
    dsimp only at pm hf1 hr1 hl1 ⊢
    rw [Array.toList_push] at pm
    have pc : es1.toList.Perm ((knd.hash k, x) :: es.toList) := pm.trans (List.perm_append_singleton _ _)
    have pk : (es1.toList.map fun e => dec e.2).Perm (k :: es.toList.map fun e => dec e.2) := by
      have z := pc.map fun e => dec e.2
      rw [List.map_cons, hdx] at z
      exact z
    have g1 : ∀ e ∈ es1.toList, GdE knd dec e := fun e he => by
      rcases List.mem_cons.mp (pc.mem_iff.mp he) with z | z
      · rw [z]
        refine ⟨?_, ?_, hsc⟩
        · show knd.is (dec x) x = true
          rw [hdx]
          exact hkey
        · show knd.hash k = knd.hash (dec x)
          rw [hdx]
      · exact g e z
    have nd1 : (es1.toList.map fun e => dec e.2).Nodup := pk.nodup_iff.mpr (List.nodup_cons.mpr ⟨hnk, nd⟩)
    have m1 : ∀ i, (S i || decide (i = k)) = true ↔ i ∈ es1.toList.map fun e => dec e.2 := fun i => by
      rw [Bool.or_eq_true, decide_eq_true_eq, hm i, pk.mem_iff, List.mem_cons]
      exact Or.comm
    have hsz : es1.size = n + 1 := by rw [← Array.length_toList, pc.length_eq, List.length_cons, Array.length_toList, hn]
    have hb1 : es1.size < scanBound := by rw [hsz]; exact room
    have hled : w.params.followText "set-order" = true ∨ t1.led = true := hl.imp id fun z => by rw [hl1]; exact z
    have fin : ∀ h', Heap.SameBut a s.heap h' → SetX knd dec h' a (fun j => S j || decide (j = k)) es1.size → Q true { s with heap := h' } := fun h' sb r => by
      have q := hQ h' sb
      rw [hSk] at q
      rw [hsz] at r
      exact q r
    refine wpAny_bind (hgw _ ?_)
    split
    · refine wpAny_bind ?_
      rw [hashByValue_scannable 8 hsc]
      refine wpAny_pure ?_
      refine setX_tail ?_ ho hex hd g1 nd1 m1 hb1 ?_ ?_ ?_ ?_
      · intro b s₁ Q' q; cases b <;> first | exact wpAny_pure q | exact wpAny_rule q
      · first | (split <;> first | exact hf1 | exact SetTable.fits_plain_off hf1) | exact hf1
      · first | (split <;> exact hr1) | exact hr1
      · first | (split <;> exact hled) | exact hled
      · intro h' sb r; dsimp only; exact wpAny_pure (fin h' sb r)
    · refine wpAny_bind (wpAny_pure ?_)
      simp only [↓reduceIte]
      refine setX_tail ?_ ho hex hd g1 nd1 m1 hb1 hf1 hr1 hled ?_
      · intro b s₁ Q' q; cases b <;> first | exact wpAny_pure q | exact wpAny_rule q
      · intro h' sb r; dsimp only; exact wpAny_pure (fin h' sb r)
end
end K9
set_option maxRecDepth 100000
set_option maxHeartbeats 8000000
namespace K9
open PySem PySem.Spec PyProof.Rows L2
/-! ### set(keys) -/
section
variable {P : Program} {w : World} {κ : Type} [DecidableEq κ] {knd : PySem.KeyKind P w κ} {dec : Value → κ} {A : Around} {E : Value → Shared → Prop} {s : Shared}
theorem setX_fresh {h : Heap} {a : Addr} {ks : List κ} (ho : h.get? a = some { cls := .type "set", dict := none, data := .set #[] 0 (.fresh 0 0 (!w.params.followText "set-order")) }) : SetX knd dec h a (fun j => decide (j ∈ ks.take 0)) 0 :=
  ⟨_, #[], 0, _, ho, ⟨rfl, rfl, rfl⟩, rfl, (fun e he => by simp at he), (by simp), (fun k => by simp), (by decide), (by rfl), rfl, List.Pairwise.nil, by
    show _ ∨ (!w.params.followText "set-order") = true
    cases w.params.followText "set-order"
    · exact .inr rfl
    · exact .inl rfl⟩
theorem setX_loop {I : Addr} {fp wr : List Addr} {G : Array GenState → Array GenState → Prop} {n : Nat} {Pv : Nat → Value → Prop} {St : Nat → Shared → Prop} {R : Result → Shared → Prop}
    (W : WalksS P w A.in1 I fp wr G n Pv St) (S : Addr) (hSf : S ∉ fp) (ks : List κ) (hn : n = ks.length) (hb : ks.length + 1 < scanBound) (hval : ∀ i v, Pv i v → ∃ k, ks[i]? = some k ∧ knd.is k v = true ∧ dec v = k ∧ v.scannable = true) :
    ∀ (k i : Nat) (s : Shared), n - i = k → i ≤ n → St i s → (∃ c, c ≤ i ∧ SetX knd dec s.heap S (fun j => decide (j ∈ ks.take i)) c) →
      (∀ s' c, Moved (S :: wr) G s s' → c ≤ n → SetX knd dec s'.heap S (fun j => decide (j ∈ ks)) c → R (.ok (.ret .none)) s') →
      codeAny (model P w) A (.builtin "set.update.loop" ⟨[.ref S, .ref I], []⟩) R s := by
  have hSw : S ∉ wr := fun h => hSf (W.sub _ h)
  have hsub : ∀ b ∈ wr, b ∈ S :: wr := fun b hb => List.mem_cons_of_mem _ hb
  intro k
  induction k with
  | zero =>
    intro i s hk' hi hst ⟨c, hc, hS⟩ hR
    have hin : i = n := by omega
    subst hin
    refine codeAny_builtin F.entry_set_update_loop ?_
    rw [Around.under_plainId F.plain_set_update_loop _]
    show wpAny _ A.in1 (pyNext (.ref I) >>= _) _ _ s
    refine wpAny_bind (W.done s _ _ hst fun s' hm => ?_)
    show wpAny _ A.in1 (ret Value.none) _ _ s'
    have e : ks.take i = ks := List.take_of_length_le (by omega)
    rw [e] at hS
    exact wpAny_pure (hR s' c (hm.mono hsub) hc (hS.at fun o e => hm.heap S o hSw e))
  | succ k ih =>
    intro i s hk' hi hst ⟨c, hc, hS⟩ hR
    have hlt : i < n := by omega
    refine codeAny_builtin F.entry_set_update_loop ?_
    rw [Around.under_plainId F.plain_set_update_loop _]
    show wpAny _ A.in1 (pyNext (.ref I) >>= _) _ _ s
    refine wpAny_bind (W.item i s _ _ hlt hst fun v s' hP hst' hm => ?_)
    obtain ⟨z, hz, hkey, hdx, hsc⟩ := hval i v hP
    have hS' : SetX knd dec s'.heap S (fun j => decide (j ∈ ks.take i)) c := hS.at fun o e => hm.heap S o hSw e
    show wpAny _ A.in1 (holding [v] (setAdd S v) >>= _) _ _ s'
    refine wpAny_bind (wpAny_holding ?_)
    unfold setAdd
    refine wpAny_holding ?_
    refine wpAny_bind (knd.pyHash hkey ?_)
    refine setX_add (s := { s' with toks := s'.toks + 1 }) hkey hdx hsc hS' (by omega) fun h' hsb hS2 => ?_
    have hS3 : SetX knd dec h' S (fun j => decide (j ∈ ks.take (i + 1))) (if decide (z ∈ ks.take i) = true then c else c + 1) := hS2.as fun j => by
      rw [List.take_add_one, hz]
      simp [List.mem_append]
    have hc3 : (if decide (z ∈ ks.take i) = true then c else c + 1) ≤ i + 1 := by
      split <;> omega
    refine wpAny_pure ⟨plainId_quiet F.plain_set_update_loop _, ih (i + 1) _ (by omega) hlt (W.frame _ s' _ _ hst' (Nat.le_succ _) fun b hb o e => ?_) ⟨_, hc3, hS3⟩ fun s'' c2 hm'' hc'' hS'' => ?_⟩
    · rw [hsb.2 b (fun h : b = S => hSf (by rw [← h]; exact hb))]; exact e
    · refine hR s'' c2 (Moved.trans W.gtrans ((hm.mono hsub).then_heap (Nat.le_succ _) fun b o hb e => ?_) hm'') hc'' hS''
      rw [hsb.2 b (fun h : b = S => hb (by rw [h]; exact List.mem_cons_self))]; exact e
theorem call_setX_tuple {l : Addr} {items : Array Value} (ks : List κ) {Q : Value → Shared → Prop} (hh : A.handled = none) (hl : s.heap.IsTuple l items) (hlen : items.size = ks.length) (hit : ∀ (i : Nat) (v : Value), items[i]? = some v → ∃ k, ks[i]? = some k ∧ knd.is k v = true ∧ dec v = k ∧ v.scannable = true) (hb : ks.length + 1 < scanBound)
    (h : ∀ (h' : Heap) (tk c : Nat), SetX knd dec h' s.heap.objs.size (fun j => decide (j ∈ ks)) c → c ≤ ks.length → (∀ b o, s.heap.get? b = some o → h'.get? b = some o) → Q (.ref s.heap.objs.size) { s with heap := h', toks := tk }) :
    wpAny (model P w) A (call (.type "set") [.ref l]) Q E s := by
  obtain ⟨c, tl, hmro⟩ := F.called_set.mro
  have hmade := F.called_set.made
  have hsub := F.called_set.sub
  refine wpAny_call (codeAny_of_tree ?_)
  show wpAny _ _ (callAny (.type "set") _) _ _ _
  refine wpAny_pure ⟨Code.quiet_builtin _ (by decide +kernel), codeAny_builtin F.entry_type_call ?_⟩
  rw [Around.under_plain (weight_type_call_type "set" [.ref l] []) rfl]
  have h1 := F.called_set.notType
  have h2 := F.called_set.canCreate
  have hct := F.typeCall_set_1 (.ref l)
  repeat (any_goals (first | assumption | wp_step))
  refine codeAny_mono (code_set_led1 (.ref l) (E := E) (Q₁ := fun obj s₁ => obj = .ref s.heap.objs.size ∧ s₁ = { s with heap := s.heap.push { cls := .type "set", dict := none, data := .set #[] 0 (.fresh 0 0 (!w.params.followText "set-order")) } }) ⟨rfl, rfl⟩) fun r s₁ hr => ?_
  cases r with
  | error e => exact hr
  | ok fl =>
    cases fl with
    | ret obj =>
      obtain ⟨rfl, rfl⟩ := hr
      have hS : (s.heap.push { cls := .type "set", dict := none, data := .set #[] 0 (.fresh 0 0 (!w.params.followText "set-order")) }).get? s.heap.objs.size = some { cls := .type "set", dict := none, data := .set #[] 0 (.fresh 0 0 (!w.params.followText "set-order")) } := Heap.get?_push_size _ rfl
      have hT : Shared.TypeIs { s with heap := s.heap.push { cls := .type "set", dict := none, data := .set #[] 0 (.fresh 0 0 (!w.params.followText "set-order")) } } (.ref s.heap.objs.size) "set" := ⟨_, hS, rfl⟩
      have hli := F.called_set.init.lookup
      have hbi := F.called_set.init.bind (.ref s.heap.objs.size)
      repeat (any_goals (first | assumption | wp_step))
      refine codeAny_mono (codeAny_call_builtin (R := wants (fun r s₂ => r = .none ∧ ∃ h' tk c, s₂ = { s with heap := h', toks := tk } ∧ SetX knd dec h' s.heap.objs.size (fun j => decide (j ∈ ks)) c ∧ c ≤ ks.length ∧
          (∀ b o, s.heap.get? b = some o → h'.get? b = some o)) E) F.called_set.init.plain F.entry_set_init (check_set_init_1 hT ?_)) fun r₂ s₂ hr₂ => ?_
      · obtain ⟨ol, hol, hcl, nl, hdl⟩ := hl
        obtain ⟨ocls, odict, odata, oslots⟩ := ol
        simp only at hcl hdl
        subst hcl; subst hdl
        have hol' : (s.heap.push { cls := .type "set", dict := none, data := .set #[] 0 (.fresh 0 0 (!w.params.followText "set-order")) }).get? l = some { cls := .type "tuple", dict := odict, data := .seq items nl, slots := oslots } := Heap.get?_push_of_some _ hol
        have hsls := F.sub_tuple_set
        have hslf := F.sub_tuple_frozenset
        have hne : (Value.type "tuple" == Value.type "dict") = false := by decide
        have hl1 : (s.heap.push { cls := .type "set", dict := none, data := .set #[] 0 (.fresh 0 0 (!w.params.followText "set-order")) }).IsTuple l items := ⟨_, hol', rfl, nl, rfl⟩
        unfold Builtin.«set.__init__» noKeywords Builtin.Frozenset.updateFrom
        generalize hPI : pyIter = PI
        wp_walk
        subst hPI
        refine wpAny_pyIter_tuple hl1 ?_
        refine wpAny_bind (wpAny_runValue ?_)
        have hlS : l < s.heap.objs.size := Heap.lt_size hol
        have hh3 : A.in1.in1.in1.handled = none := by simp [hh]
        have hneI : l ≠ (s.heap.push { cls := .type "set", dict := none, data := .set #[] 0 (.fresh 0 0 (!w.params.followText "set-order")) }).objs.size := by
          rw [Heap.size_push]; exact Nat.ne_of_lt (Nat.lt_succ_of_lt hlS)
        have hSf : s.heap.objs.size ∉ [(s.heap.push { cls := .type "set", dict := none, data := .set #[] 0 (.fresh 0 0 (!w.params.followText "set-order")) }).objs.size, l] := by
          rw [Heap.size_push]; simp only [List.mem_cons, List.mem_singleton, List.not_mem_nil, or_false, not_or]
          exact ⟨Nat.ne_of_lt (Nat.lt_succ_self _), Nat.ne_of_gt hlS⟩
        refine setX_loop (knd := knd) (dec := dec) ((Walks.tuple hh3 _ l hneI items).toS) s.heap.objs.size
          hSf ks hlen hb hit (items.size - 0) 0 _ (by omega) (Nat.zero_le _)
          ⟨⟨_, Heap.get?_push_size _ rfl, rfl, rfl⟩, (hl1.push _)⟩ ?hS0 ?hR
        case hS0 =>
          have hget : ((s.heap.push { cls := .type "set", dict := none, data := .set #[] 0 (.fresh 0 0 (!w.params.followText "set-order")) }).push { cls := .type "tuple_iterator", data := .fields #[.ref l, .int 0 0] }).get? s.heap.objs.size
              = some { cls := .type "set", dict := none, data := .set #[] 0 (.fresh 0 0 (!w.params.followText "set-order")) } := Heap.get?_push_of_some _ hS
          exact ⟨0, Nat.le_refl 0, setX_fresh hget⟩
        case hR =>
          intro s' c' hm hc' hS'
          obtain ⟨h', g2, d', tk', os'⟩ := s'
          have eg : g2 = s.gens := hm.gens
          have ed : d' = s.drawn := hm.drawn
          have eo : os' = s.os := hm.os
          subst eg; subst ed; subst eo
          show wpAny _ _ _ _ _ _
          refine wpAny_pure ?_
          show wpAny _ _ (ret Value.none) _ _ _
          rw [hlen] at hc'
          refine wpAny_pure ⟨rfl, h', tk', c', rfl, hS', hc', fun b o e => ?_⟩
          have hb0 : b < s.heap.objs.size := Heap.lt_size e
          have hb1 : b ≠ s.heap.objs.size := Nat.ne_of_lt hb0
          have hb2 : b ≠ (s.heap.push { cls := .type "set", dict := none, data := .set #[] 0 (.fresh 0 0 (!w.params.followText "set-order")) }).objs.size := by
            rw [Heap.size_push]; exact Nat.ne_of_lt (Nat.lt_succ_of_lt hb0)
          exact hm.heap b o (by simp only [List.mem_cons, List.mem_singleton, List.not_mem_nil, or_false, not_or]; exact ⟨hb1, hb2⟩) (Heap.get?_push_of_some _ (Heap.get?_push_of_some _ e))
      · cases r₂ with
        | error e => exact hr₂
        | ok fl₂ =>
          cases fl₂ with
          | ret r =>
            obtain ⟨rfl, h', tk, c', rfl, hS', hc', hk'⟩ := hr₂
            repeat (any_goals (first | assumption | wp_step))
            exact h _ _ _ hS' hc' hk'
          | _ => exact hr₂.elim
    | _ => exact hr.elim
theorem call_setX_list {l : Addr} {items : Array Value} (ks : List κ) {Q : Value → Shared → Prop} (hh : A.handled = none) (hl : s.heap.IsList l items) (hlen : items.size = ks.length) (hit : ∀ (i : Nat) (v : Value), items[i]? = some v → ∃ k, ks[i]? = some k ∧ knd.is k v = true ∧ dec v = k ∧ v.scannable = true) (hb : ks.length + 1 < scanBound)
    (h : ∀ (h' : Heap) (tk c : Nat), SetX knd dec h' s.heap.objs.size (fun j => decide (j ∈ ks)) c → c ≤ ks.length → (∀ b o, s.heap.get? b = some o → h'.get? b = some o) → Q (.ref s.heap.objs.size) { s with heap := h', toks := tk }) :
    wpAny (model P w) A (call (.type "set") [.ref l]) Q E s := by
  obtain ⟨c, tl, hmro⟩ := F.called_set.mro
  have hmade := F.called_set.made
  have hsub := F.called_set.sub
  refine wpAny_call (codeAny_of_tree ?_)
  show wpAny _ _ (callAny (.type "set") _) _ _ _
  refine wpAny_pure ⟨Code.quiet_builtin _ (by decide +kernel), codeAny_builtin F.entry_type_call ?_⟩
  rw [Around.under_plain (weight_type_call_type "set" [.ref l] []) rfl]
  have h1 := F.called_set.notType
  have h2 := F.called_set.canCreate
  have hct := F.typeCall_set_1 (.ref l)
  repeat (any_goals (first | assumption | wp_step))
  refine codeAny_mono (code_set_led1 (.ref l) (E := E) (Q₁ := fun obj s₁ => obj = .ref s.heap.objs.size ∧ s₁ = { s with heap := s.heap.push { cls := .type "set", dict := none, data := .set #[] 0 (.fresh 0 0 (!w.params.followText "set-order")) } }) ⟨rfl, rfl⟩) fun r s₁ hr => ?_
  cases r with
  | error e => exact hr
  | ok fl =>
    cases fl with
    | ret obj =>
      obtain ⟨rfl, rfl⟩ := hr
      have hS : (s.heap.push { cls := .type "set", dict := none, data := .set #[] 0 (.fresh 0 0 (!w.params.followText "set-order")) }).get? s.heap.objs.size = some { cls := .type "set", dict := none, data := .set #[] 0 (.fresh 0 0 (!w.params.followText "set-order")) } := Heap.get?_push_size _ rfl
      have hT : Shared.TypeIs { s with heap := s.heap.push { cls := .type "set", dict := none, data := .set #[] 0 (.fresh 0 0 (!w.params.followText "set-order")) } } (.ref s.heap.objs.size) "set" := ⟨_, hS, rfl⟩
      have hli := F.called_set.init.lookup
      have hbi := F.called_set.init.bind (.ref s.heap.objs.size)
      repeat (any_goals (first | assumption | wp_step))
      refine codeAny_mono (codeAny_call_builtin (R := wants (fun r s₂ => r = .none ∧ ∃ h' tk c, s₂ = { s with heap := h', toks := tk } ∧ SetX knd dec h' s.heap.objs.size (fun j => decide (j ∈ ks)) c ∧ c ≤ ks.length ∧
          (∀ b o, s.heap.get? b = some o → h'.get? b = some o)) E) F.called_set.init.plain F.entry_set_init (check_set_init_1 hT ?_)) fun r₂ s₂ hr₂ => ?_
      · obtain ⟨ol, hol, hcl, nl, hdl⟩ := hl
        obtain ⟨ocls, odict, odata, oslots⟩ := ol
        simp only at hcl hdl
        subst hcl; subst hdl
        have hol' : (s.heap.push { cls := .type "set", dict := none, data := .set #[] 0 (.fresh 0 0 (!w.params.followText "set-order")) }).get? l = some { cls := .type "list", dict := odict, data := .seq items nl, slots := oslots } := Heap.get?_push_of_some _ hol
        have hsls := F.sub_list_set
        have hslf := F.sub_list_frozenset
        have hne : (Value.type "list" == Value.type "dict") = false := by decide
        have hl1 : (s.heap.push { cls := .type "set", dict := none, data := .set #[] 0 (.fresh 0 0 (!w.params.followText "set-order")) }).IsList l items := ⟨_, hol', rfl, nl, rfl⟩
        unfold Builtin.«set.__init__» noKeywords Builtin.Frozenset.updateFrom
        generalize hPI : pyIter = PI
        wp_walk
        subst hPI
        refine wpAny_pyIter_list hl1 ?_
        refine wpAny_bind (wpAny_runValue ?_)
        have hlS : l < s.heap.objs.size := Heap.lt_size hol
        have hh3 : A.in1.in1.in1.handled = none := by simp [hh]
        have hneI : l ≠ (s.heap.push { cls := .type "set", dict := none, data := .set #[] 0 (.fresh 0 0 (!w.params.followText "set-order")) }).objs.size := by
          rw [Heap.size_push]; exact Nat.ne_of_lt (Nat.lt_succ_of_lt hlS)
        have hSf : s.heap.objs.size ∉ [(s.heap.push { cls := .type "set", dict := none, data := .set #[] 0 (.fresh 0 0 (!w.params.followText "set-order")) }).objs.size, l] := by
          rw [Heap.size_push]; simp only [List.mem_cons, List.mem_singleton, List.not_mem_nil, or_false, not_or]
          exact ⟨Nat.ne_of_lt (Nat.lt_succ_self _), Nat.ne_of_gt hlS⟩
        refine setX_loop (knd := knd) (dec := dec) ((Walks.list hh3 _ l hneI items).toS) s.heap.objs.size
          hSf ks hlen hb hit (items.size - 0) 0 _ (by omega) (Nat.zero_le _)
          ⟨⟨_, Heap.get?_push_size _ rfl, rfl, rfl⟩, (hl1.push _)⟩ ?hS0 ?hR
        case hS0 =>
          have hget : ((s.heap.push { cls := .type "set", dict := none, data := .set #[] 0 (.fresh 0 0 (!w.params.followText "set-order")) }).push { cls := .type "list_iterator", data := .fields #[.ref l, .int 0 0] }).get? s.heap.objs.size
              = some { cls := .type "set", dict := none, data := .set #[] 0 (.fresh 0 0 (!w.params.followText "set-order")) } := Heap.get?_push_of_some _ hS
          exact ⟨0, Nat.le_refl 0, setX_fresh hget⟩
        case hR =>
          intro s' c' hm hc' hS'
          obtain ⟨h', g2, d', tk', os'⟩ := s'
          have eg : g2 = s.gens := hm.gens
          have ed : d' = s.drawn := hm.drawn
          have eo : os' = s.os := hm.os
          subst eg; subst ed; subst eo
          show wpAny _ _ _ _ _ _
          refine wpAny_pure ?_
          show wpAny _ _ (ret Value.none) _ _ _
          rw [hlen] at hc'
          refine wpAny_pure ⟨rfl, h', tk', c', rfl, hS', hc', fun b o e => ?_⟩
          have hb0 : b < s.heap.objs.size := Heap.lt_size e
          have hb1 : b ≠ s.heap.objs.size := Nat.ne_of_lt hb0
          have hb2 : b ≠ (s.heap.push { cls := .type "set", dict := none, data := .set #[] 0 (.fresh 0 0 (!w.params.followText "set-order")) }).objs.size := by
            rw [Heap.size_push]; exact Nat.ne_of_lt (Nat.lt_succ_of_lt hb0)
          exact hm.heap b o (by simp only [List.mem_cons, List.mem_singleton, List.not_mem_nil, or_false, not_or]; exact ⟨hb1, hb2⟩) (Heap.get?_push_of_some _ (Heap.get?_push_of_some _ e))
      · cases r₂ with
        | error e => exact hr₂
        | ok fl₂ =>
          cases fl₂ with
          | ret r =>
            obtain ⟨rfl, h', tk, c', rfl, hS', hc', hk'⟩ := hr₂
            repeat (any_goals (first | assumption | wp_step))
            exact h _ _ _ hS' hc' hk'
          | _ => exact hr₂.elim
    | _ => exact hr.elim
end
end K9
set_option maxRecDepth 100000
set_option maxHeartbeats 8000000
namespace K9
open PySem PySem.Spec PyProof.Rows L2
/-! ### sorted of such a set; the rules -/
def strV : Value → Str
  | .str x _ => x
  | _ => Str.empty
def intV : Value → Int
  | .int k _ => k
  | _ => 0
section
variable {P : Program} {w : World} {A : Around} {E : Value → Shared → Prop} {s : Shared} {a : Addr}
theorem sorted_any {κ : Type} [DecidableEq κ] {knd : PySem.KeyKind P w κ} {dec : Value → κ} {μ : KeyKind} (hO : μ.OneLt) {S : κ → Bool} {n : Nat} {Q : Value → Shared → Prop} (R : SetX knd dec s.heap a S n) (hh : A.handled = none) (h1000 : n ≤ 1000)
    (hkk : ∀ vs : List Value, (∀ v ∈ vs, knd.is (dec v) v = true) → KeysOf μ (pairsOf vs) ∧ ∀ v₁ v₂ rest, vs = v₁ :: v₂ :: rest → keyKind' (v₁ :: v₂ :: rest).toArray = pure oneType')
    (hQ : ∀ s' p (vs : List Value) (st' : SortSt) (c : Nat), (∀ b o, s.heap.get? b = some o → s'.heap.get? b = some o) → s'.gens = s.gens → s'.os = s.os → s.heap.objs.size ≤ p → (∀ v ∈ vs, knd.is (dec v) v = true) → (vs.map dec).Nodup → (∀ k, k ∈ vs.map dec ↔ S k = true) → vs.length = n →
      (arrOf st').Perm (pairsOf vs) → SortedToK μ (arrOf st') (pairsOf vs).size → s'.heap.get? p = some (seqObj "list" ((arrOf st').map (·.2)) c) → Q (.ref p) s') :
    wpAny (model P w) A (call (.builtin "sorted") [.ref a]) Q E s := by
  obtain ⟨o, es, ep, t, ho, hex, hd, g, nd, hm, hb, hf, hn, hr, hl⟩ := R
  refine Calls.call_function_entry kind_sorted plain_sorted entry_sorted (args_sorted1 _) ?_
  unfold Builtin.«sorted»
  refine wpAny_bind (m := checkCount "sorted" 1 1 _) (wpAny_pure ?_)
  refine wpAny_bind (collect_set (A := A.in1) hh ⟨o, ho, hex.1, hd⟩ hf hb hr hl fun s1 vs k1 hz g1 o1 pm => ?_)
  have hvl : vs.length = n := by rw [pm.length_eq, List.length_map, Array.length_toList]; exact hn
  have hgood : ∀ v ∈ vs, knd.is (dec v) v = true := fun v hv => by
    obtain ⟨e, he, q⟩ := List.mem_map.mp (pm.mem_iff.mp hv)
    rw [← q]
    exact (g e he).1
  have pk : (vs.map dec).Perm (es.toList.map fun e => dec e.2) := by
    have q := pm.map dec
    rw [List.map_map] at q
    exact q
  obtain ⟨hK, hkk2⟩ := hkk vs hgood
  refine wpAny_bind (wpAny_newList ?_ (by rw [hvl, sizeLine_eq]; omega))
  have hoL : (s1.heap.push (seqObj "list" vs.toArray 0)).get? s1.heap.objs.size = some (seqObj "list" vs.toArray 0) := Heap.get?_push_size _ rfl
  refine wpAny_bind (wpAny_holding (wpAny_call_entry slot_list_sort ⟨_, hoL, rfl⟩ entry_list_sort (list_sort_treeKAny hO hoL hK hkk2 (by rw [hvl, sizeLine_eq]; omega) fun st' a1 a2 => ⟨_, rfl, ?_⟩) (args_list_sort _)))
  obtain ⟨c, hc⟩ := sortedHeap_at (vs := vs) (out := (arrOf st').map (·.2)) hoL
  refine wpAny_pure ⟨_, rfl, hQ _ s1.heap.objs.size vs st' c (fun b u e => ?_) g1 o1 hz hgood (pk.nodup_iff.mpr nd) (fun k => by rw [pk.mem_iff, ← hm k]) hvl a1 a2 hc⟩
  have q := k1 b u e
  have hlt := Heap.lt_size q
  show (sortedHeap (s1.heap.push (seqObj "list" vs.toArray 0)) s1.heap.objs.size vs _).get? b = some u
  rw [sortedHeap_old (Nat.ne_of_lt hlt) (by rw [size_push']; exact Nat.lt_succ_of_lt hlt)]
  exact Heap.get?_push_of_some _ q
theorem strs_are : ∀ {vs : List Value}, (∀ v ∈ vs, (PySem.strKind P w).is (strV v) v = true) → StrsAre vs (vs.map strV)
  | [], _ => .nil
  | v :: vs, h => by
    obtain ⟨t, e⟩ := Value.isStrOf_shape (h v List.mem_cons_self)
    have ih := strs_are (vs := vs) fun u hu => h u (List.mem_cons_of_mem _ hu)
    rw [List.map_cons, e]
    exact .cons _ t ih
theorem ints_are : ∀ {vs : List Value}, (∀ v ∈ vs, (PySem.intKind P w).is (intV v) v = true) → IntsAre vs (vs.map intV)
  | [], _ => .nil
  | v :: vs, h => by
    have ih := ints_are (vs := vs) fun u hu => h u (List.mem_cons_of_mem _ hu)
    have z := h v List.mem_cons_self
    cases v with
    | int k t => exact .cons k t ih
    | _ => cases z
end
section
variable {P : Program} {w : World} {κ : Type} [DecidableEq κ]
def SetHO (knd : PySem.KeyKind P w κ) (dec : Value → κ) (a : Addr) (S : κ → Bool) (n : Nat) : HO := .ext fun h => SetX knd dec h a S n
theorem setHO_new {knd : PySem.KeyKind P w κ} {dec : Value → κ} {H : Hp} {h : Heap} {a : Addr} {S : κ → Bool} {n : Nat} (R : SetX knd dec h a S n) : ObjOk P w H h a (SetHO knd dec a S n) := by
  have ⟨o, _, _, _, ho, _⟩ := R
  exact ⟨R, ⟨o, ho⟩, fun h1 h2 p k => SetX.at p k⟩
end
section
variable {X : Cx}
def rSetOf {P : Program} {w : World} {κ : Type} [DecidableEq κ] (K : PySem.W.Frag) (knd : PySem.KeyKind P w κ) (dec : Value → κ) (mk : κ → V) : List V → Hp → VK → Prop := fun xs H Q => ∃ (l : Addr) (ks : List κ), xs = [.ref l] ∧ (SqL K H l (ks.map mk) ∨ SqT K H l (ks.map mk)) ∧ ks.length ≤ 1000 ∧
  ∀ p c, H p = none → c ≤ ks.length → Q (.ref p) (upd H p (SetHO knd dec p (fun j => decide (j ∈ ks)) c))
theorem cr_setOf {κ : Type} [DecidableEq κ] {knd : PySem.KeyKind X.prog X.w κ} {dec : Value → κ} {mk : κ → V} (hc : X.calm = true) (hk : ∀ k v, RelV (mk k) v → knd.is k v = true ∧ dec v = k ∧ v.scannable = true) : CallR X (.type "set") (rSetOf X.K knd dec mk) := by
  intro pins s σ H xs us Q I r h
  obtain ⟨l, ks, rfl, hs, hz, q⟩ := h
  rw [Vals.ref1 r]
  have fin : ∀ (h' : Heap) (tk c : Nat), SetX knd dec h' s.heap.objs.size (fun j => decide (j ∈ ks)) c → c ≤ ks.length → (∀ b o, s.heap.get? b = some o → h'.get? b = some o) → EP X pins σ Q (.ref s.heap.objs.size) { s with heap := h', toks := tk } := fun h' tk c R hcl hk' =>
    ⟨.ref _, upd H s.heap.objs.size (SetHO knd dec s.heap.objs.size (fun j => decide (j ∈ ks)) c), I.laid (t' := tk) hk' (Nat.le_refl _) (setHO_new R), rfl, q _ c (I.hok.fresh (Nat.le_refl _)) hcl⟩
  have at_ : ∀ {its : List Value}, Vals (ks.map mk) its → its.toArray.size = ks.length ∧ ∀ (i : Nat) (v : Value), its.toArray[i]? = some v → ∃ k, ks[i]? = some k ∧ knd.is k v = true ∧ dec v = k ∧ v.scannable = true := fun {its} rv => by
    have hl := rv.length
    rw [List.length_map] at hl
    refine ⟨by rw [List.size_toArray]; omega, fun i v hv => ?_⟩
    have hv' : its[i]? = some v := by simpa using hv
    obtain ⟨hi, _⟩ := List.getElem?_eq_some_iff.mp hv'
    have hik : i < ks.length := by omega
    obtain ⟨u, hu, ru⟩ := rv.get (x := mk ks[i]) (by rw [List.getElem?_map, List.getElem?_eq_getElem hik]; rfl)
    rw [hv'] at hu
    cases hu
    exact ⟨ks[i], List.getElem?_eq_getElem hik, hk _ _ ru⟩
  rcases hs with hs | hs
  · obtain ⟨its, rv, hl, _⟩ := I.list hs
    obtain ⟨e1, e2⟩ := at_ rv
    exact call_setX_list ks (I.ok.hd hc) hl.isList e1 e2 (by unfold scanBound; omega) fin
  · obtain ⟨its, rv, pt, _⟩ := I.tuple hs
    obtain ⟨e1, e2⟩ := at_ rv
    exact call_setX_tuple ks (I.ok.hd hc) pt e1 e2 (by unfold scanBound; omega) fin
def rSortX {P : Program} {w : World} : List V → Hp → VK → Prop := fun xs H Q => ∃ (a : Addr) (S : Str → Bool) (n : Nat), xs = [.ref a] ∧ H a = some (SetHO (PySem.strKind P w) strV a S n) ∧ n ≤ 1000 ∧
  ∀ (ys : List Str) (p : Addr), ys.Nodup → sortedS ys = true → (∀ y, y ∈ ys ↔ S y = true) → ys.length = n → H p = none → Q (.ref p) (upd H p (.lst (ys.map V.str)))
def rSortN {P : Program} {w : World} : List V → Hp → VK → Prop := fun xs H Q => ∃ (a : Addr) (S : Int → Bool) (n : Nat), xs = [.ref a] ∧ H a = some (SetHO (PySem.intKind P w) intV a S n) ∧ n ≤ 1000 ∧
  ∀ (ys : List Int) (p : Addr), ys.Nodup → ys.Pairwise (· ≤ ·) → (∀ y, y ∈ ys ↔ S y = true) → ys.length = n → H p = none → Q (.ref p) (upd H p (.lst (ys.map V.int)))
theorem cr_sortX (hc : X.calm = true) : CallR X (.builtin "sorted") (rSortX (P := X.prog) (w := X.w)) := by
  intro pins s σ H vs us Q I r h
  obtain ⟨a, S, n, rfl, ha, hn, q⟩ := h
  rw [Vals.ref1 r]
  have R : SetX (PySem.strKind X.prog X.w) strV s.heap a S n := (I.hok a _ ha).1
  refine sorted_any strKind_oneLt R (I.ok.hd hc) hn (fun vs hv => ⟨(strs_are hv).keysOf, fun v₁ v₂ rest e => keyKind_strs (by rw [← e]; exact strs_are hv)⟩) fun s' p vs st' c k g o hp hv nd hm hl a1 a2 hg => ?_
  obtain ⟨ys, h1, h2, h3⟩ := sorted_out_str (strs_are hv) a1 a2
  have hlen : (ys.map V.str).length ≤ sizeLine := by
    rw [List.length_map, h2.length_eq, List.length_map, hl, sizeLine_eq]
    omega
  have hn' : H p = none := I.hok.fresh hp
  have J : Inv X pins σ (upd H p (.lst (ys.map V.str))) { s with heap := s'.heap, gens := s'.gens, drawn := s'.drawn, toks := s'.toks } :=
    I.call (ch := []) (Un.laid k hp hn') (I.hok.laid k hp ⟨hlen, _, c, vals_of_strs h1, hg⟩) (by rw [g]; exact I.bare) (fun _ z => nomatch z)
  have e : s' = { s with heap := s'.heap, gens := s'.gens, drawn := s'.drawn, toks := s'.toks } := by
    cases s'
    cases s
    cases o
    rfl
  rw [e]
  exact ⟨.ref p, _, J, rfl, q ys p (h2.nodup_iff.mpr nd) h3 (fun y => by rw [h2.mem_iff, hm]) (by rw [h2.length_eq, List.length_map, hl]) hn'⟩
theorem cr_sortN (hc : X.calm = true) : CallR X (.builtin "sorted") (rSortN (P := X.prog) (w := X.w)) := by
  intro pins s σ H vs us Q I r h
  obtain ⟨a, S, n, rfl, ha, hn, q⟩ := h
  rw [Vals.ref1 r]
  have R : SetX (PySem.intKind X.prog X.w) intV s.heap a S n := (I.hok a _ ha).1
  refine sorted_any intKind_oneLt R (I.ok.hd hc) hn (fun vs hv => ⟨(ints_are hv).keysOfInt, fun v₁ v₂ rest e => keyKind_ints (by rw [← e]; exact ints_are hv)⟩) fun s' p vs st' c k g o hp hv nd hm hl a1 a2 hg => ?_
  obtain ⟨ys, h1, h2, h3⟩ := sorted_out (ints_are hv) a1 (sortedTo_of_int a2)
  have hlen : (ys.map V.int).length ≤ sizeLine := by
    rw [List.length_map, h2.length_eq, List.length_map, hl, sizeLine_eq]
    omega
  have hn' : H p = none := I.hok.fresh hp
  have J : Inv X pins σ (upd H p (.lst (ys.map V.int))) { s with heap := s'.heap, gens := s'.gens, drawn := s'.drawn, toks := s'.toks } :=
    I.call (ch := []) (Un.laid k hp hn') (I.hok.laid k hp ⟨hlen, _, c, vals_of_ints h1, hg⟩) (by rw [g]; exact I.bare) (fun _ z => nomatch z)
  have e : s' = { s with heap := s'.heap, gens := s'.gens, drawn := s'.drawn, toks := s'.toks } := by
    cases s'
    cases s
    cases o
    rfl
  rw [e]
  exact ⟨.ref p, _, J, rfl, q ys p (h2.nodup_iff.mpr nd) h3 (fun y => by rw [h2.mem_iff, hm]) (by rw [h2.length_eq, List.length_map, hl]) hn'⟩
theorem key_str {P : Program} {w : World} (k : Str) (v : Value) (h : RelV (V.str k) v) : (PySem.strKind P w).is k v = true ∧ strV v = k ∧ v.scannable = true := by
  obtain ⟨t, rfl⟩ := h
  refine ⟨?_, rfl, rfl⟩
  show Value.isStrOf k (.str k t) = true
  simp [Value.isStrOf, Value.isStr]
theorem key_int {P : Program} {w : World} (k : Int) (v : Value) (h : RelV (V.int k) v) : (PySem.intKind P w).is k v = true ∧ intV v = k ∧ v.scannable = true := by
  obtain ⟨t, rfl⟩ := h
  exact ⟨PySem.intKind_is P w k t, rfl, rfl⟩
end
end K9
set_option maxRecDepth 100000
set_option maxHeartbeats 8000000
namespace K9
open PySem PySem.Spec PyProof.Rows L2
/-! ### tuples whose object stays known: written ones, tuple(list); dict of such a tuple of pairs; list(d.values()) -/
def tTupF (t : TA) : TE := fun σ H Q => t σ H fun xs H1 => xs.length ≤ sizeLine ∧ ∀ (p : Addr) (o : Obj), H1 p = none → o.dict = none → Q (.ref p) (upd H1 p (.frz o (.tup xs)))
/-- the tuple's object is known -/
def Fz (H : Hp) (v : V) : Prop := ∃ (a : Addr) (o : Obj) (xs : List V), v = .ref a ∧ H a = some (.frz o (.tup xs)) ∧ o.dict = none
theorem Fz.same {H H' : Hp} {v : V} (h : Fz H v) (S : Same H H') : Fz H' v := by
  obtain ⟨a, o, xs, e, h, n⟩ := h
  exact ⟨a, o, xs, e, S _ _ h, n⟩
theorem TP.fz {H : Hp} {a : Addr} {o : Obj} {xs : List V} (h : H a = some (.frz o (.tup xs))) (n : o.dict = none) : TP H a xs := fun _ _ g => g o h n
section
variable {X : Cx}
theorem pe_tupF {es : List Expr} {t : TA} {x1 : Nat} {pos : Pos} (h : PA X es t) : PE X (.Tuple es x1 pos) (tTupF t) := by
  refine ⟨fun pins s σ H Q I hq => ?_⟩
  refine wpAny_Tuple_spliced (thn (h.run pos pins s σ H _ I hq) fun us s1 ⟨xs, H1, I1, r, z, q⟩ => ⟨by rw [← r.length]; exact z, ?_⟩)
  have hf : H1 s1.heap.objs.size = none := I1.hok.fresh (Nat.le_refl _)
  exact ⟨.ref s1.heap.objs.size, upd H1 s1.heap.objs.size (.frz _ (.tup xs)), I1.laid (t' := s1.toks) (fun b u e => Heap.get?_push_of_some _ e) (Nat.le_refl _) (show ObjOk X.prog X.w _ _ _ (.frz _ (.tup xs)) from ⟨Heap.get?_push_size _ rfl, z, us, r, ⟨_, Heap.get?_push_size _ rfl, rfl, _, rfl⟩⟩), rfl, q _ _ hf rfl⟩
def rTupF (K : PySem.W.Frag) : List V → Hp → VK → Prop := fun xs H Q => ∃ p ys, xs = [.ref p] ∧ SqL K H p ys ∧ ∀ (l : Addr) (o : Obj), H l = none → o.dict = none → Q (.ref l) (upd H l (.frz o (.tup ys)))
theorem call_tupF : CallR X (.type "tuple") (rTupF X.K) := by
  intro pins s σ H xs us Q I r h
  obtain ⟨p, ys, rfl, hq, q⟩ := h
  rw [Vals.ref1 r]
  obtain ⟨its, r', pl, hz⟩ := I.list hq
  have hlen := r'.length
  refine call_tuple_list pl.isList (fun h' kp => ?_) (by simp only [List.size_toArray] <;> omega)
  have I1 : Inv X pins σ H { s with heap := h' } := I.kept (t' := s.toks) kp
  exact ⟨.ref h'.objs.size, upd H h'.objs.size (.frz _ (.tup ys)), I1.laid (t' := s.toks) (fun b o e => Heap.get?_push_of_some _ e) (Nat.le_refl _) (show ObjOk X.prog X.w _ _ _ (.frz _ (.tup ys)) from ⟨Heap.get?_push_size _ rfl, hz, its, r', IsTup.new _ _⟩), rfl, q _ _ (I1.hok.fresh (Nat.le_refl _)) rfl⟩
theorem pairs2 {pins : List (Addr × Obj)} {σ : L2.St} {H : Hp} {s : Shared} (I : Inv X pins σ H s) : ∀ {ps : List Addr} {kvs : List (Key × V)}, Paired (fun p kv => SqT X.K H p [kV kv.1, kv.2]) ps kvs →
    ∃ (prs : List (Key × Value)) (us : List (Value × Value)), KV kvs prs ∧ prs.length = ps.length ∧ us.length = ps.length ∧ ∀ (j : Nat) (k v : Value), us[j]? = some (k, v) → ∃ (b : Addr) (key : Key), ps[j]? = some b ∧ IsTup s.heap b #[k, v] ∧ prs[j]? = some (key, v) ∧ keyIs key k = true
  | _, _, .nil => ⟨[], [], .nil, rfl, rfl, fun j k v e => by simp at e⟩
  | _, _, .cons (a := p) (b := kv) h t => by
    obtain ⟨prs, us, r, hl, hl2, hp⟩ := pairs2 I t
    obtain ⟨its, rv, ht, _⟩ := I.tuple h
    obtain ⟨u, y, ei, ru, ry⟩ := vals2 rv
    subst ei
    refine ⟨(kv.1, y) :: prs, (u, y) :: us, .cons ⟨rfl, ry⟩ r, by rw [List.length_cons, List.length_cons, hl], by rw [List.length_cons, List.length_cons, hl2], fun j k v e => ?_⟩
    cases j with
    | zero =>
      have e' : (u, y) = (k, v) := Option.some.inj e
      cases e'
      exact ⟨p, kv.1, rfl, ht, rfl, kV_is (P := X.prog) (w := X.w) ru⟩
    | succ j =>
      obtain ⟨b, key, e1, e2, e3, e4⟩ := hp j k v (by simpa using e)
      exact ⟨b, key, by simpa using e1, e2, by simpa using e3, e4⟩
def rDictF (K : PySem.W.Frag) : List V → Hp → VK → Prop := fun xs H Q => ∃ (a : Addr) (o : Obj) (ps : List Addr) (kvs : List (Key × V)), xs = [.ref a] ∧ H a = some (.frz o (.tup (ps.map V.ref))) ∧ o.dict = none ∧ Paired (fun p kv => SqT K H p [kV kv.1, kv.2]) ps kvs ∧
  ∀ p, H p = none → Q (.ref p) (upd H p (.dK (mergeK [] kvs)))
theorem call_dictF (hc : X.calm = true) : CallR X (.type "dict") (rDictF X.K) := by
  intro pins s σ H xs us Q I r q
  obtain ⟨a, o, ps, kvs, rfl, hq, hn, hp, q⟩ := q
  rw [Vals.ref1 r]
  obtain ⟨ho, hz, its, rv, o2, ho2, hc2, n2, hd2⟩ := I.hok a _ hq
  rw [ho] at ho2
  cases ho2
  have ei := refs_at rv
  subst ei
  rw [List.length_map] at hz
  obtain ⟨prs, us, rel, hl, hl2, hpr⟩ := pairs2 I hp
  refine PySem.call_dict_pairs (knd := mixKind X.prog X.w) (kvs := prs) (PySem.PairArg.tuple a ((ps.map Value.ref).toArray) (fun j => ps.getD j 0) us) (I.ok.hd hc) ⟨⟨o, n2, ho, hc2, hn, hd2⟩, ?_, ?_⟩ ⟨by rw [hl, hl2], fun i key v e => ?_⟩ (by rw [hl2]; exact hz) fun h' tk hd' k => ?_
  · rw [List.size_toArray, List.length_map, hl2]
  · intro j k v e
    obtain ⟨b, key, e1, e2, e3, e4⟩ := hpr j k v e
    have eb : ps.getD j 0 = b := by
      rw [List.getD_eq_getElem?_getD, e1]
      rfl
    refine ⟨?_, .inl ?_⟩
    · show _ = some (Value.ref (ps.getD j 0))
      rw [eb, List.getElem?_toArray, List.getElem?_map, e1]
      rfl
    · show s.heap.IsTuple (ps.getD j 0) #[k, v]
      rw [eb]
      exact e2
  · obtain ⟨b, ky, e1, e2, e3, e4⟩ := hpr i key v e
    exact ⟨ky, e3, e4⟩
  · have hm : (s.heap.objs.size == sysModules) = false := beq_eq_false_iff_ne.mpr (Nat.ne_of_gt I.big)
    have hlen : (mergeK [] kvs).length ≤ sizeLine := by
      refine Nat.le_trans (length_mergeK kvs []) ?_
      rw [List.length_nil, Nat.zero_add, rel.length, hl]
      exact hz
    exact ⟨.ref s.heap.objs.size, upd H s.heap.objs.size (.dK (mergeK [] kvs)), I.laid (t' := tk) (fun b o e => k b o (by simp) e) (Nat.le_refl _) (show ObjOk X.prog X.w _ _ _ (.dK (mergeK [] kvs)) from ⟨hlen, hm, merged [] prs, KV.merge rel .nil, hd'⟩), rfl, q _ (I.hok.fresh (Nat.le_refl _))⟩
end
/-- list(e.values()) -/
def tListVals (te : TE) : TE := fun σ H Q => te σ H fun x H1 => ∃ (d : Addr) (kvs : List (Key × V)), x = .ref d ∧ H1 d = some (.dK kvs) ∧ ∀ p, H1 p = none → Q (.ref p) (upd H1 p (.lst (kvs.map (·.2))))
theorem kv_vals : ∀ {kvs : List (Key × V)} {vs : List (Key × Value)}, KV kvs vs → Vals (kvs.map (·.2)) (vs.map (·.2))
  | _, _, .nil => .nil
  | _, _, .cons h t => .cons h.2 (kv_vals t)
section
variable {X : Cx} {e : Expr} {te : TE} {p apos cpos pos : Pos}
theorem pe_listVals (hc : X.calm = true) (he : PE X e te) (hg : Gl X "list") (hm : X.mg "list" = none) (hv : bootBuiltins "list" = some (.type "list")) (hbase : attributeBase e "values" X.env (eval e X.env) = eval e X.env := by rfl) (hline : (apos.endLine == cpos.line) = true := by rfl)
    (hs : starEach [.Call (.Attribute e "values" apos) [] [] cpos] X.env = (false, eval (.Call (.Attribute e "values" apos) [] [] cpos) X.env) :: starEach [] X.env := by rfl) :
    PE X (.Call (.Name "list" p) [.Call (.Attribute e "values" apos) [] [] cpos] [] pos) (tListVals te) := by
  refine ⟨fun pins s σ H Q I hq => ?_⟩
  refine wpAny_Call_Name_kw (ld_blt I hg hm hv ?_)
  refine PyProof.Rows.callWith_type1 ?_ hs rfl
  rw [hs]
  show wpAny _ _ (spliced ((false, eval (.Call (.Attribute e "values" apos) [] [] cpos) X.env) :: backTo pos (starEach [] X.env))) _ _ s
  refine Calls.spliced_cons ?_
  refine wpAny_Call_method (T := "dict") (id := "dict.values") hbase rfl hline F.plainAttrs_dict F.slot_dict_values F.type_dict_values (thn (he.run pins s σ H _ I hq) fun u s1 ⟨x, H1, I1, rx, d, kvs, ex, hd, q⟩ => ?_)
  subst ex
  obtain rfl : u = Value.ref d := rx
  obtain ⟨hz, hs0, vs, kv, hdo⟩ := I1.hok d _ hd
  obtain ⟨ep, hat⟩ := hdo.dictAt
  have lk : kvs.length = vs.length := Paired.length kv
  have I2 : Inv X pins σ H1 { s1 with heap := s1.heap.push { cls := .type "dict_values", data := .fields #[.ref d] } } := I1.kept (t' := s1.toks) fun b ob q => Heap.get?_push_of_some _ q
  refine ⟨hdo.typeIs, hdo.mapOf.noDict, ?_⟩
  show wpAny _ _ (callWith cpos (.builtin "dict.values") [.ref d] [] []) _ X.xe s1
  refine method_meetsIn F.slot_dict_values F.entry_dict_values rfl (PySem.evalArgs_none ⟨rfl, hdo.typeIs, F.args_dict_values_1 _, _, meets_dict_values (mixKind X.prog X.w) d hs0, ⟨vs, hdo⟩, ?_⟩)
  refine Calls.spliced_nil ?_
  refine PySem.W.kdl_call (PySem.W.kdl_values (knd := mixKind X.prog X.w) (kvs := vs) (ep := ep)) (I1.ok.hd hc) ⟨⟨_, Heap.get?_push_size _ rfl, rfl, rfl⟩, hat.push _⟩ (by omega) fun h' tk acc c hk hS hacc => ?_
  have ev : acc.toList = vs.map (·.2) := PySem.W.kdl_vals_eq acc.toList (by rw [Array.length_toList]; exact hacc.1) fun j v hv => hacc.2 j v (by rw [← Array.getElem?_toList]; exact hv)
  have J := I2.laid (a := (s1.heap.push { cls := .type "dict_values", data := .fields #[.ref d] }).objs.size) (o := .lst (kvs.map (·.2))) (t' := tk) hk (Nat.le_refl _) (show ObjOk X.prog X.w _ h' _ (.lst (kvs.map (·.2))) from ⟨by rw [List.length_map]; exact hz, acc.toList, c, by rw [ev]; exact kv_vals kv, hS⟩)
  exact ⟨.ref _, _, J, rfl, q _ (I2.hok.fresh (Nat.le_refl _))⟩
end
end K9
set_option maxRecDepth 100000
set_option maxHeartbeats 8000000
namespace K9
open PySem PySem.Spec PyProof.Rows L2
/-! ### the law's own small checks -/
abbrev s_names : Stmt := top 37
abbrev s_is_index : Stmt := top 50
abbrev s_is_name : Stmt := top 51
def letters : Str := "abcdefghijklmnopqrstuvwxyz"
theorem az_in (c : Nat) : azB c = decide (c ∈ letters.cps.toList) := by
  by_cases h : c < 128
  · have z : ∀ c : Fin 128, azB c.val = decide (c.val ∈ letters.cps.toList) := by decide +kernel
    exact z ⟨c, h⟩
  · have e1 : azB c = false := by
      unfold azB
      have z : ("z" : Str).cps.toList < [c] := by
        show [122] < [c]
        exact List.Lex.rel (by omega)
      rw [decide_eq_true z, Bool.not_true, Bool.and_false]
    have e2 : ¬ c ∈ letters.cps.toList := fun m => by
      have z : ∀ x ∈ letters.cps.toList, x < 128 := by decide +kernel
      exact h (z c m)
    rw [e1, decide_eq_false e2]
def spIdx : Sp := fun vs H Q _ => ∃ (v : V) (d : PyData) (b : Int), vs = [v, .int b] ∧ Dat H v d ∧ ∀ H', Same H H' → Q (.bl (btw 0 (b - 1) d)) H'
theorem six_in (n : Nat) : inV (.int (n : Nat)) [.int 1, .int 2, .int 3, .int 4, .int 5, .int 6] = (decide (1 ≤ (n : Int)) && decide ((n : Int) ≤ 6)) := by
  by_cases h : n < 7
  · have z : ∀ n : Fin 7, inV (.int (n.val : Nat)) [.int 1, .int 2, .int 3, .int 4, .int 5, .int 6] = (decide (1 ≤ ((n.val : Nat) : Int)) && decide (((n.val : Nat) : Int) ≤ 6)) := by decide +kernel
    exact z ⟨n, h⟩
  · rw [decide_eq_false (show ¬ (n : Int) ≤ 6 by omega), Bool.and_false]
    unfold inV
    rw [List.any_eq_false]
    intro x hx
    simp only [List.mem_cons, List.not_mem_nil, or_false] at hx
    rcases hx with rfl | rfl | rfl | rfl | rfl | rfl <;> simp [eqV] <;> omega
section
variable {P : Program} {w : World} {K : PySem.W.Frag} {mg : Str → Option Value} {base : Heap}
theorem sc_is_index : FnScope ["_law_given", "_law_bound"] ["_law_given", "_law_bound"] (defScope s_is_index) := ⟨rfl, rfl, rfl, by decide +kernel, rfl, by decide +kernel, by decide +kernel⟩
theorem sc_lname : FnScope ["_law_given", "_law_sign"] ["_law_given"] (defScope s_is_name) := ⟨rfl, rfl, rfl, by decide +kernel, rfl, by decide +kernel, by decide +kernel⟩
theorem okl_index {f : Addr} {fd : FuncData} (F : Fun K "_law_is_index" "_law_is_index" s_is_index f fd) (T : Nm mg) : FnOk P w K mg base CX0 1 f fd ["_law_given", "_law_bound"] spIdx := by
  refine F.ok sc_is_index (fun vs H Q E h => ?_) (fun cdv A outer s H vs Q E hr h => ?_)
  · obtain ⟨v, d, b, rfl, _⟩ := h
    rfl
  · obtain ⟨v, d, b, rfl, hd, q⟩ := h
    refine ⟨_, (pss_one (ps_ret (pe_and (pe_callB call_isi (by rfl) T.isinstance boot_isinstance (pa_cons (pv 0) (pa_cons (pe_bltn (v := .ty "int") rfl T.int (by decide +kernel) rfl) pa_nil))) (pe_and (pe_not (pe_callB call_isi (by rfl) T.isinstance boot_isinstance (pa_cons (pv 0) (pa_cons (pe_bltn (v := .ty "bool") rfl T.bool (by decide +kernel) rfl) pa_nil)))) (pe_one (pe_chain op_le op_lt pe_int (pv 0) (pv 1))))))), ?_⟩
    have q0 := q H fun _ _ e => e
    refine ⟨_, rfl, v, .ty "int", _, _, _, rfl, .ty _, hd.ty, kit_int _ d, _, rfl, ?_⟩
    cases d with
    | int i =>
      cases hd
      refine ⟨_, rfl, V.int i, .ty "bool", _, _, _, rfl, .ty _, (Dat.int i : Dat H _ _).ty, kit_bool _ _, _, rfl, _, rfl, _, rfl, _, _, rfl, rfl, _, rfl, ?_⟩
      by_cases h : 0 ≤ i
      · have e : btw 0 (b - 1) (.int i) = decide (i < b) := by
          show (decide (0 ≤ i) && decide (i ≤ b - 1)) = _
          rw [decide_eq_true h, Bool.true_and]
          exact decide_eq_decide.mpr ⟨fun _ => by omega, fun _ => by omega⟩
        rw [e] at q0
        refine if_t (decide_eq_true h) ?_
        exact ⟨_, rfl, _, _, rfl, rfl, q0⟩
      · have e : btw 0 (b - 1) (.int i) = false := by
          show (decide (0 ≤ i) && decide (i ≤ b - 1)) = _
          rw [decide_eq_false h, Bool.false_and]
        rw [e] at q0
        exact if_f (decide_eq_false h) q0
    | bool b => exact ⟨_, rfl, v, .ty "bool", _, _, _, rfl, .ty _, hd.ty, kit_bool _ _, _, rfl, _, rfl, q0⟩
    | none => exact q0
    | str x => exact q0
    | list ds => exact q0
    | tuple ds => exact q0
    | dict kv => exact q0
theorem okl_lname {f : Addr} {fd : FuncData} (F : Fun K "_law_is_name" "_law_is_name" s_is_name f fd) (T : Nm mg) : FnOk P w K mg base CX0 1 f fd ["_law_given"] (spP nameB) := by
  refine F.ok sc_lname (fun vs H Q E h => ?_) (fun cdv A outer s H vs Q E hr h => ?_)
  · obtain ⟨v, d, rfl, _⟩ := h
    rfl
  · obtain ⟨v, d, rfl, hd, q⟩ := h
    have hu0 := hr.units0
    have q0 := q H fun _ _ e => e
    refine ⟨_, (pss_cons (ps_if (PW.pt (pw_or (pt_not (pt_val (pe_callB call_isi (by rfl) T.isinstance boot_isinstance (pa_cons (pv 0) (pa_cons (pe_bltn (v := .ty "str") rfl T.str (by decide +kernel) rfl) pa_nil))))) (pw_or1 (pt_cmpR op_notIn_seq (pe_callB call_len_str (by rfl) T.len PySem.boot_len (pa_cons (pv 0) pa_nil)) (pe_tup (pa_cons pe_int (pa_cons pe_int (pa_cons pe_int (pa_cons pe_int (pa_cons pe_int (pa_cons pe_int pa_nil))))))) rfl))))
        (pss_one (ps_ret pe_bl))
        pss_nil)
      (pss_one (ps_ret (pe_cmpR (op_empty hu0) (pe_lc (own := [("_law_sign", 1)]) (g := (gName 1)) rfl sc_lname.nd (pi_str (pv 0)) (blkOk_by (N := ["_law_given", "_law_sign"]) (sc := defScope s_is_name) (by decide +kernel))
          (fun _ _ _ _ _ => (pg_name (i := 1) sc_lname.nd rfl (Or.inl rfl))) (fun _ _ _ _ _ => pts_one (pt_cmpR op_notIn_sign (pv 1) pe_str rfl)) (fun _ _ _ _ _ => (pv 1))) (pe_lst pa_nil) (nomark _))))), ?_⟩
    refine ⟨_, rfl, v, .ty "str", _, _, _, rfl, .ty _, hd.ty, kit_str _ d, _, rfl, ?_⟩
    cases d with
    | str x =>
      cases hd with
      | str _ hx =>
        refine if_f rfl ?_
        refine ⟨_, rfl, x, rfl, Nat.le_trans hx (by decide), (by show 6 ≤ sizeLine; decide), fun p np => ⟨p, _, rfl, .inr (SqT.of upd_same), rfl, rfl, _, rfl, ?_⟩⟩
        have six : inV (.int (x.length : Nat)) [.int 1, .int 2, .int 3, .int 4, .int 5, .int 6] = (decide (1 ≤ (x.length : Int)) && decide ((x.length : Int) ≤ 6)) := six_in x.length
        show if (if true = true then !inV (.int (x.length : Nat)) [.int 1, .int 2, .int 3, .int 4, .int 5, .int 6] else _) = true then _ else _
        rw [if_pos rfl, six]
        have S0 := same_new (o := HO.tup [.int 1, .int 2, .int 3, .int 4, .int 5, .int 6]) np
        have q2 := q _ S0
        have en : nameB (.str x) = ((decide (1 ≤ (x.length : Int)) && decide ((x.length : Int) ≤ 6)) && x.cps.toList.all azB) := rfl
        cases h6 : (decide (1 ≤ (x.length : Int)) && decide ((x.length : Int) ≤ 6)) with
        | false =>
          rw [en, h6] at q2
          exact if_t rfl q2
        | true =>
          refine if_f rfl ?_
          rw [h6, Bool.true_and] at en
          have S6 := hx
          generalize upd H p (.tup [.int 1, .int 2, .int 3, .int 4, .int 5, .int 6]) = H1 at S0 ⊢
          refine ⟨_, rfl, x, rfl, fun D nD => lc_it (walk_str (z := x)) (fun j Hx => Same H1 Hx ∧ ∃ cs : List Nat, Hx D = some (.lst (cs.map fun c => V.str ⟨#[c]⟩)) ∧ cs.length ≤ j ∧ cs.isEmpty = (x.cps.toList.take j).all azB) ⟨same_new nD, [], upd_same, Nat.le_refl _, rfl⟩ (fun _ _ _ _ => trivial) ?_ ?_⟩
          · rintro j y Hx Hy hj ⟨S, cs, hD, hl, he⟩ ⟨rfl, c, hc, rfl⟩
            have hcl : x.cps.toList[j]? = some c := by simpa using hc
            have et : (x.cps.toList.take (j + 1)).all azB = ((x.cps.toList.take j).all azB && azB c) := by
              rw [List.take_add_one, hcl, List.all_append]
              simp
            refine ⟨rfl, _, rfl, c, letters, rfl, rfl, _, rfl, ?_⟩
            rw [az_in c] at et
            cases hm : decide (c ∈ letters.cps.toList) with
            | true =>
              rw [hm, Bool.and_true, ← he] at et
              exact if_f rfl ⟨S, cs, hD, by omega, et.symm⟩
            | false =>
              rw [hm, Bool.and_false] at et
              refine if_t rfl ⟨_, rfl, _, hD, ?_, grow nD S, cs ++ [c], ?_, ?_, ?_⟩
              · rw [List.length_map, sizeLine_eq]
                have : j < x.cps.size := hj
                have : x.cps.size = x.length := rfl
                omega
              · rw [upd_same, List.map_append]
                rfl
              · rw [List.length_append]
                show cs.length + 1 ≤ j + 1
                omega
              · rw [et]
                cases cs <;> rfl
          · rintro Hx ⟨S, cs, hD, hl, he⟩
            refine ⟨(by show 0 ≤ sizeLine; decide), fun e ne => ⟨D, e, cs.map fun c => V.str ⟨#[c]⟩, rfl, rfl, .inl ⟨same_new ne _ _ hD, upd_same⟩, ?_⟩⟩
            have q1 := q _ (S0.trans (S.trans (same_new (o := HO.lst []) ne)))
            have el : x.cps.toList.take x.cps.size = x.cps.toList := List.take_of_length_le (by simp)
            rw [el] at he
            rw [en, ← he] at q1
            have e2 : (cs.map fun c => V.str ⟨#[c]⟩).isEmpty = cs.isEmpty := by cases cs <;> rfl
            show Q (.bl (cs.map fun c => V.str ⟨#[c]⟩).isEmpty) _
            rw [e2]
            exact q1
    | int i => exact if_t rfl q0
    | bool b => exact if_t rfl q0
    | none => exact if_t rfl q0
    | tuple ds => exact if_t rfl q0
    | list ds => exact if_t rfl q0
    | dict kv => exact if_t rfl q0
end
end K9
set_option maxRecDepth 100000
set_option maxHeartbeats 8000000
namespace K9
open PySem PySem.Spec PyProof.Rows L2
/-! ### the law's names of an order -/
theorem none_back {H H' : Hp} (S : Same H H') {p : Addr} (h : H' p = none) : H p = none := by
  cases e : H p with
  | none => rfl
  | some o =>
    rw [S _ _ e] at h
    cases h
def iOr (t u : TI) : TI := fun σ H R => t σ H R ∨ u σ H R
theorem pi_or {X : Cx} {tg e : Expr} {t u : TI} (h : PI X tg e t) (h' : PI X tg e u) : PI X tg e (iOr t u) := ⟨fun pins s σ H R I z => z.elim (h.run pins s σ H R I) (h'.run pins s σ H R I)⟩
theorem order_word {n : Nat} {d0 d1 : PyData} (h : orderB (n + 1) (.tuple [d0, d1]) = true) : ∃ z : Str, d0 = .str z := by
  rw [orderB, Bool.and_eq_true] at h
  have h2 : (if eqStr "item" d0 = true then nameB d1 else ((eqStr "series" d0 || eqStr "parallel" d0) && (tupOf 2 6 d1 && (tupItems d1).all (orderB n)))) = true := h.2
  cases d0 with
  | str z => exact ⟨z, rfl⟩
  | _ => cases h2
section
variable {P : Program} {w : World} {K : PySem.W.Frag} {mg : Str → Option Value} {base : Heap}
theorem sc_lnames : FnScope ["_law_order_here", "_law_found", "_law_part"] ["_law_order_here"] (defScope s_names) := ⟨rfl, rfl, rfl, by decide +kernel, rfl, by decide +kernel, by decide +kernel⟩
theorem lnames_body {f : Addr} {fd : FuncData} {k : Nat} {sp : Sp} (F : Fun K "_law_names" "_law_names" s_names f fd) (b : L2.Binds K fd ["_law_order_here"] []) (g : mg "_law_names" = some (.ref f)) (G : FnOk P w K mg base CX0 k f fd ["_law_order_here"] sp) (n : Nat)
    (hn : ∀ m, n = m + 1 → n ≤ 6 → ∀ (x : V) (d : PyData) (H : Hp) (R : VK), Dat H x d → orderB m d = true → (∀ p H', Same H H' → H p = none → H' p = some (.lst ((namesN m d).map V.str)) → R (.ref p) H') → sp [x] H R E0) : FnOk P w K mg base CX0 (k + 1) f fd ["_law_order_here"] (spNames n) := by
  refine F.ok sc_lnames (fun vs H Q E h => ?_) (fun cdv A outer s H vs Q E hr h => ?_)
  · obtain ⟨v, d, rfl, _⟩ := h
    rfl
  · obtain ⟨v, d, rfl, h6, hd, ho, q⟩ := h
    refine ⟨_, (pss_cons (ps_set (i := 1) sc_lnames.nd rfl (Or.inl rfl) (pe_ifExp (pt_cmpR op_eq (pe_ix ix_tup (pv 0) pe_int (fun _ _ => rfl)) pe_str (nomark _)) (pe_lst (pa_cons (pe_ix ix_tup (pv 0) pe_int (fun _ _ => rfl)) pa_nil)) (pe_lst pa_nil)))
      (pss_cons (ps_for PassesOwn.never rfl (pi_or (pi_list (pe_ifExp (pt_cmpR op_ne (pe_ix ix_tup (pv 0) pe_int (fun _ _ => rfl)) pe_str (nomark _)) (pe_ix ix_tup (pv 0) pe_int (fun _ _ => rfl)) (pe_lst pa_nil))) (pi_tup (pe_ifExp (pt_cmpR op_ne (pe_ix ix_tup (pv 0) pe_int (fun _ _ => rfl)) pe_str (nomark _)) (pe_ix ix_tup (pv 0) pe_int (fun _ _ => rfl)) (pe_lst pa_nil)))) (pg_name (i := 2) sc_lnames.nd rfl (Or.inl rfl))
        (pss_one (ps_set (i := 1) sc_lnames.nd rfl (Or.inl rfl) (pe_op op_cat (pv 1) (pe_call G hr rfl g F.kp b .nil pass0 (pa_cons (pv 2) pa_nil))))))
      (pss_one (ps_ret (pv 1))))), ?_⟩
    cases n with
    | zero => exact Bool.noConfusion ((show false = true from ho) : false = true)
    | succ m =>
      have hlen := names_len _ _ ho
      have h66 : 6 ^ (m + 1) ≤ 46656 := Nat.pow_le_pow_right (by decide) h6
      obtain ⟨d0, d1, rfl, hh⟩ := order_cases ho
      obtain ⟨z, rfl⟩ := order_word ho
      have eN : namesN (m + 1) (.tuple [.str z, d1]) = if eqStr "item" (.str z) = true then [strOf d1] else (tupItems d1).flatMap (namesN m) := by rw [namesN]; rfl
      rw [eN] at q hlen
      have ez : eqStr "item" (.str z) = decide (V.str z = V.str "item") := by
        show (z == "item") = _
        rw [dec_str]
        by_cases h : z = "item"
        · rw [decide_eq_true h, beq_iff_eq.mpr h]
        · rw [decide_eq_false h, beq_eq_false_iff_ne.mpr h]
      rw [ez] at q hlen hh
      obtain ⟨a, xs, rfl, ha, hx⟩ := dat_tup hd
      obtain ⟨x0, x1, rfl, c0, c1⟩ := dat_two hx
      cases c0
      have st : ∀ {H' : Hp} {R : VK}, Same H H' → ∀ {j : Nat} {x : V}, [V.str z, x1][j]? = some x → R x H' → tOp (rIxT K) (tVar 0) (tC (.int (j : Nat))) [some (V.ref a), none, none] H' R := fun {H' R} S j x hj hR => ⟨_, rfl, a, _, _, x, rfl, rfl, sqT_rd (upR ha S), atI_nat hj, hR⟩
      refine ⟨_, rfl, a, _, _, _, rfl, rfl, sqT_rd ha, atI_nat (j := 0) rfl, rfl, _, rfl, ?_⟩
      rcases hh with ⟨h0, hn1⟩ | ⟨h0, es, rfl, l2, l6, hes⟩
      · have q1 : ∀ p H', Same H H' → H p = none → H' p = some (.lst ([strOf d1].map V.str)) → Q (.ref p) H' := by
          rw [h0] at q
          exact q
        refine if_t h0 ⟨_, rfl, a, _, _, _, rfl, rfl, sqT_rd ha, atI_nat (j := 1) rfl, (by show 1 ≤ sizeLine; decide), fun L nL => ?_⟩
        have S1 := same_new (o := HO.lst [x1]) nL
        refine Or.inl ⟨_, rfl, a, _, _, _, rfl, rfl, sqT_rd (upR ha S1), atI_nat (j := 0) rfl, rfl, _, rfl, ?_⟩
        refine if_f (by rw [h0]; rfl) ⟨(by show 0 ≤ sizeLine; decide), fun e ne => ⟨e, rfl, ⟨_, SqL.of upd_same⟩, ?_⟩⟩
        refine for_list (K := K) (xs := []) (fun _ σ Hx => σ[1]? = some (some (.ref L)) ∧ Same H Hx ∧ Hx L = some (.lst [x1]) ∧ Hx e = some (.lst [])) ⟨rfl, S1.trans (same_new ne), same_new (o := HO.lst []) ne _ _ upd_same, upd_same⟩ (fun _ _ _ _ h => SqL.of h.2.2.2) (fun i x _ _ h => by simp at h) ?_
        rintro σ Hx ⟨e1, S, e2, _⟩
        refine ⟨_, e1, q1 L Hx S nL ?_⟩
        rw [e2, dat_name c1 hn1]
        rfl
      · obtain ⟨a2, ys, rfl, ha2, hx2⟩ := dat_tup c1
        have q1 : ∀ p H', Same H H' → H p = none → H' p = some (.lst ((es.flatMap (namesN m)).map V.str)) → Q (.ref p) H' := by
          rw [h0] at q
          exact q
        have hlen1 : (es.flatMap (namesN m)).length ≤ 6 ^ (m + 1) := by
          rw [h0] at hlen
          exact hlen
        have hl2 := hx2.len
        refine if_f h0 ⟨(by show 0 ≤ sizeLine; decide), fun L nL => ?_⟩
        have S1 := same_new (o := HO.lst []) nL
        refine Or.inr ⟨_, rfl, a, _, _, _, rfl, rfl, sqT_rd (upR ha S1), atI_nat (j := 0) rfl, rfl, _, rfl, ?_⟩
        refine if_t (by rw [h0]; rfl) ⟨_, rfl, a, _, _, _, rfl, rfl, sqT_rd (upR ha S1), atI_nat (j := 1) rfl, a2, rfl, ⟨_, sqT_rd (upR ha2 S1)⟩, ?_⟩
        refine for_tup (K := K) (xs := ys) (fun i σ Hx => ∃ (L : Addr) (w2 : Option V), σ = [some (.ref a), some (.ref L), w2] ∧ Same H Hx ∧ H L = none ∧ Hx L = some (.lst (((es.take i).flatMap (namesN m)).map V.str))) ⟨L, none, rfl, S1, nL, by rw [upd_same]; rfl⟩ (fun i σ Hx _ ⟨_, _, _, S, _⟩ => sqT_rd (upR ha2 S)) ?_ ?_
        · rintro i x σ Hx hxi ⟨L, w2, rfl, S, nL, hL⟩
          obtain ⟨e, hei, te⟩ := hx2.get hxi
          refine ⟨_, rfl, _, rfl, hn m rfl h6 x e Hx _ (te.same S) (hes e (List.mem_of_getElem? hei)) fun p H1 S2 np hp => ?_⟩
          have tot := flat_take (f := namesN m) es (i + 1)
          rw [flat_pre hei, List.length_append] at tot
          refine ⟨L, p, _, _, rfl, rfl, S2 _ _ hL, hp, by rw [List.length_map, List.length_map, sizeLine_eq]; omega, fun q2 nq => ⟨q2, _, rfl, (S.trans S2).trans (same_new nq), none_back (S.trans S2) nq, ?_⟩⟩
          rw [upd_same, ← List.map_append, flat_pre hei]
        · rintro σ Hx ⟨L, w2, rfl, S, nL, hL⟩
          refine ⟨_, rfl, q1 L Hx S nL ?_⟩
          rw [hL, hl2, List.take_length]
theorem okl_names {f : Addr} {fd : FuncData} (F : Fun K "_law_names" "_law_names" s_names f fd) (b : L2.Binds K fd ["_law_order_here"] []) (g : mg "_law_names" = some (.ref f)) : ∀ n : Nat, FnOk P w K mg base CX0 (1 + n) f fd ["_law_order_here"] (spNames n)
  | 0 => by
    have z := lnames_body (P := P) (w := w) (base := base) (k := 0) (sp := fun _ _ _ _ => False) F b g fn_none 0 fun m e => by cases e
    exact z
  | n + 1 => by
    have G := okl_names F b g n
    have z := lnames_body F b g G (n + 1) fun m e l6 x d H R hd ho hR => by
      obtain rfl : n = m := Nat.succ.inj e
      exact ⟨x, d, rfl, by omega, hd, ho, hR⟩
    rw [show 1 + (n + 1) = 1 + n + 1 by omega]
    exact z
end
end K9
set_option maxRecDepth 1000000
set_option maxHeartbeats 4000000
namespace K9
open PySem PySem.Spec PyProof.Rows L2
/-! ### list(enumerate(a tuple)) -/
section
variable {prog : Program} {w : World} {A : Around} {E : Value → Shared → Prop} {s : Shared}
theorem en_no_len : typeLookup (.type "enumerate") "__len__" = pure none := am_miss_of_fast (by decide +kernel)
theorem en_no_hint : typeLookup (.type "enumerate") "__length_hint__" = pure none := am_miss_of_fast (by decide +kernel)
/-- next, where the pair given out before still stands -/
theorem en_held {e it t T : Addr} {i : Nat} {items : Array Value} {x old : Value} {f : Bool} {oT : Obj} {Q : Value → Shared → Prop}
    (he : IsEnumHeld s.heap e it i old T f) (hT : s.heap.get? T = some oT) (hTe : T ≠ e) (hTi : T ≠ it) (hit : s.heap.IsTupleIter it t i) (ht : s.heap.IsTuple t items) (hx : items[i]? = some x) (hne : e ≠ it)
    (hQ : ∀ h', IsEnumHeld h' e it ((i : Int) + 1) old T true → h'.IsTupleIter it t (i + 1) → h'.get? s.heap.objs.size = some { cls := .type "tuple", data := .seq #[.int i s.toks, x] } →
      (∀ b o, b ≠ e → b ≠ it → s.heap.get? b = some o → h'.get? b = some o) → Q (.ref s.heap.objs.size) { s with heap := h', toks := s.toks + 1 }) :
    wpAny (model prog w) A (Builtin.«enumerate.__next__» ⟨[.ref e], []⟩) (fun fin s' => ∃ v, fin = .done (.ret v) ∧ Q v s') E s := by
  obtain ⟨hp, g, d, tk, os⟩ := s
  have hel : e < hp.objs.size := Heap.lt_size he
  show wpAny _ _ (field (.ref e) 2 >>= _) _ _ _
  refine wpAny_bind (wpAny_field he rfl (x := .ref it) rfl (wpAny_bind (wpAny_nextOf_tuple_item hit ht hx fun h1 it1 s1 => ?_)))
  have s1 : Heap.SameBut it hp h1 := s1
  have e1 : IsEnumHeld h1 e it i old T f := (s1.2 e hne).trans he
  show wpAny _ _ (field (.ref e) 3 >>= _) _ _ ⟨h1, g, d, tk, os⟩
  refine wpAny_bind (wpAny_field e1 rfl (x := rawInt i) rfl ?_)
  show wpAny _ _ (field (.ref e) 4 >>= _) _ _ ⟨h1, g, d, tk, os⟩
  refine wpAny_bind (wpAny_field e1 rfl (x := .none) rfl ?_)
  show wpAny _ _ (mkInt i >>= _) _ _ ⟨h1, g, d, tk, os⟩
  refine wpAny_bind (wpAny_mkInt ?_)
  show wpAny _ _ (setField (.ref e) 3 (rawInt ((i : Int) + 1)) >>= _) _ _ ⟨h1, g, d, tk + 1, os⟩
  refine wpAny_bind (wpAny_setField_rec e1 (by simp) fun h2 e2 s2 => ?_)
  have s2 : Heap.SameBut e h1 h2 := s2
  have e2 : IsEnumHeld h2 e it ((i : Int) + 1) old T f := e2
  show wpAny _ _ (setField (.ref e) 4 .none >>= _) _ _ ⟨h2, g, d, tk + 1, os⟩
  refine wpAny_bind (wpAny_setField_rec e2 (by simp) fun h3 e3 s3 => ?_)
  have s3 : Heap.SameBut e h2 h3 := s3
  have e3 : IsEnumHeld h3 e it ((i : Int) + 1) old T f := e3
  have z3 : h3.objs.size = hp.objs.size := by rw [s3.1, s2.1, s1.1]
  show wpAny _ _ (newTuple [.int i tk, x] >>= _) _ _ ⟨h3, g, d, tk + 1, os⟩
  refine wpAny_bind (wpAny_newTuple ?_)
  have e4 : IsEnumHeld (h3.push { cls := .type "tuple", data := .seq #[.int i tk, x] }) e it ((i : Int) + 1) old T f := Heap.get?_push_of_some _ e3
  have t4 : (h3.push { cls := .type "tuple", data := .seq #[.int i tk, x] }).get? hp.objs.size = some { cls := .type "tuple", data := .seq #[.int i tk, x] } := by
    rw [← z3]
    exact Heap.get?_push_size _ rfl
  have k4 : ∀ b o, b ≠ e → b ≠ it → hp.get? b = some o → (h3.push { cls := .type "tuple", data := .seq #[.int i tk, x] }).get? b = some o := fun b o be bi hb =>
    Heap.get?_push_of_some _ (s3.extBut b o be (s2.extBut b o be (s1.extBut b o bi hb)))
  have it4 : (h3.push { cls := .type "tuple", data := .seq #[.int i tk, x] }).IsTupleIter it t (i + 1) := it1.at fun o q => Heap.get?_push_of_some _ ((s3.2 it (Ne.symm hne)).trans ((s2.2 it (Ne.symm hne)).trans q))
  show wpAny _ _ (Builtin.SmallTypes.ownedTupleIsFree (.ref e) >>= _) _ _ ⟨_, g, d, tk + 1, os⟩
  rw [z3]
  generalize h3.push { cls := .type "tuple", data := .seq #[.int i tk, x] } = h4 at e4 t4 k4 it4 ⊢
  refine wpAny_bind (wpAny_tupleHeld_enum (s := ⟨h4, g, d, tk + 1, os⟩) e4 (k4 T oT hTe hTi hT) fun h5 e5 s5 => ?_)
  have s5 : Heap.SameBut e h4 h5 := s5
  simp only [Bool.false_eq_true, if_false]
  exact wpAny_pure ⟨_, rfl, hQ h5 e5 (it4.at fun o q => (s5.2 it (Ne.symm hne)).trans q) (s5.extBut _ _ (Nat.ne_of_gt hel) t4) fun b o be bi hb => s5.extBut b o be (k4 b o be bi hb)⟩
/-- what stands between two nexts: the pair given out last is held, or none was given out -/
def EnSt (e it t : Addr) (items : Array Value) (i : Nat) (h : Heap) : Prop := h.IsTupleIter it t i ∧ h.IsTuple t items ∧ ((∃ old, IsEnum h e it i old) ∨ ∃ old T f oT, IsEnumHeld h e it i old T f ∧ h.get? T = some oT ∧ T ≠ e ∧ T ≠ it)
theorem en_item {e it t : Addr} {items : Array Value} {i : Nat} {x : Value} {Q : Option Value → Shared → Prop} (hh : A.handled = none) (st : EnSt e it t items i s.heap) (hx : items[i]? = some x) (hne : e ≠ it) (hte : t ≠ e) (hti : t ≠ it)
    (hQ : ∀ h' tk k, EnSt e it t items (i + 1) h' → h'.get? s.heap.objs.size = some { cls := .type "tuple", data := .seq #[.int i k, x] } → (∀ b o, b ≠ e → b ≠ it → s.heap.get? b = some o → h'.get? b = some o) → Q (some (.ref s.heap.objs.size)) { s with heap := h', toks := tk }) :
    wpAny (model prog w) A (pyNext (.ref e)) Q E s := by
  obtain ⟨hit, ht, he⟩ := st
  have hil : s.heap.objs.size ≠ it := let ⟨_, q, _⟩ := hit; Nat.ne_of_gt (Heap.lt_size q)
  have ec : ((i + 1 : Nat) : Int) = (i : Int) + 1 := by omega
  have hi : i < items.size := (Array.getElem?_eq_some_iff.mp hx).1
  rcases he with ⟨old, he⟩ | ⟨old, T, f, oT, he, hT, r1, r2⟩
  · refine wpAny_pyNext_enum_itemC (Draws.tuple (prog := prog) (w := w) (A := A.in1) hh it t hti items) he ⟨hit, ht⟩ hi hne (by simp [hne, Ne.symm hte]) fun y h' tk hy ho hst hT hsz hk => ?_
    obtain rfl : x = y := Option.some.inj (hx.symm.trans hy)
    exact hQ h' _ tk ⟨hst.1, hst.2, .inr ⟨_, s.heap.objs.size, false, _, by rw [ec]; exact ho, hT, Nat.ne_of_gt (Heap.lt_size he), hil⟩⟩ hT hk
  · have hTy : s.TypeIs (.ref e) "enumerate" := ⟨_, he, rfl⟩
    unfold pyNext
    refine wpAny_bind (wpAny_attempt (wpAny_callSpecial?_slot (name := Str.ofString "__next__") hTy F.slot_enumerate_next
      (wpAny_call_entry F.slot_enumerate_next hTy F.entry_enumerate_next
        (en_held he hT r1 r2 hit ht hx hne fun h' a1 a2 a3 a4 => wpAny_pure (hQ h' _ _ ⟨a2, ht.at fun o q => a4 t o hte hti q, .inr ⟨old, T, true, oT, by rw [ec]; exact a1, a4 _ _ r1 r2 hT, r1, r2⟩⟩ a3 a4)) (F.args_enumerate_next_1 _))))
theorem en_end {e it t : Addr} {items : Array Value} {Q : Option Value → Shared → Prop} (hh : A.handled = none) (st : EnSt e it t items items.size s.heap) (hne : e ≠ it) (hte : t ≠ e) (hti : t ≠ it)
    (hQ : ∀ h', (∀ b o, b ≠ it → s.heap.get? b = some o → h'.get? b = some o) → Q none { s with heap := h' }) : wpAny (model prog w) A (pyNext (.ref e)) Q E s := by
  obtain ⟨hit, ht, he⟩ := st
  rcases he with ⟨old, he⟩ | ⟨old, T, f, oT, he, hT, r1, r2⟩
  · exact wpAny_pyNext_enum_endD (Draws.tuple (prog := prog) (w := w) (A := A.in1) hh it t hti items) he ⟨hit, ht⟩ fun h' hk => hQ h' hk
  · have hTy : s.TypeIs (.ref e) "enumerate" := ⟨_, he, rfl⟩
    unfold pyNext
    refine wpAny_bind (wpAny_attempt (wpAny_callSpecial?_slot (name := Str.ofString "__next__") hTy F.slot_enumerate_next
      (wpAny_call_entry F.slot_enumerate_next hTy F.entry_enumerate_next ?_ (F.args_enumerate_next_1 _))))
    show wpAny _ _ (field (.ref e) 2 >>= _) _ _ _
    refine wpAny_bind (wpAny_field he rfl (x := .ref it) rfl (wpAny_bind (wpAny_nextOf_tuple_end hh hit ht (by simp) fun h' x he' hx' => ?_)))
    obtain ⟨o, ho, hc⟩ := hx'
    exact wpAny_bind (wpAny_isInstance (T := "StopIteration") (b := true) ⟨o, ho, hc⟩ isSubtype_stop (wpAny_pure (hQ _ he')))
end
end K9
set_option maxRecDepth 1000000
set_option maxHeartbeats 4000000
namespace K9
open PySem PySem.Spec PyProof.Rows L2
/-! ### list(enumerate(a tuple)): the loop, the call -/
/-- the pairs that stand in the new list -/
def EnPs (N S e it : Addr) (items : Array Value) (n : Nat) (h : Heap) (acc : Array Value) : Prop := acc.size = n ∧ ∀ j x, j < n → items[j]? = some x → ∃ T k, acc[j]? = some (.ref T) ∧ T ≠ S ∧ T ≠ e ∧ T ≠ it ∧ N ≤ T ∧ h.get? T = some { cls := .type "tuple", data := .seq #[.int j k, x] }
section
variable {prog : Program} {w : World} {A : Around} {E : Value → Shared → Prop} {s : Shared} {R : Result → Shared → Prop}
theorem en_loop {N S e it t : Addr} {items : Array Value} {res : Value} (hh : A.handled = none) (hz : items.size ≤ 1000) (hne : e ≠ it) (hte : t ≠ e) (hti : t ≠ it) (hSe : S ≠ e) (hSi : S ≠ it) (hSt : S ≠ t) :
    ∀ (k i : Nat) (s : Shared) (acc : Array Value) (c : Nat), items.size - i = k → i ≤ items.size → N ≤ s.heap.objs.size → EnSt e it t items i s.heap → s.heap.get? S = some { cls := .type "list", dict := none, data := .seq acc c, slots := #[] } → EnPs N S e it items i s.heap acc →
      (∀ h' tk acc' c', (∀ b o, b ≠ S → b ≠ e → b ≠ it → s.heap.get? b = some o → h'.get? b = some o) → h'.get? S = some { cls := .type "list", dict := none, data := .seq acc' c', slots := #[] } → EnPs N S e it items items.size h' acc' → R (.ok (.ret res)) { s with heap := h', toks := tk }) →
      codeAny (model prog w) A (.builtin "list.extend.loop" ⟨[.ref S, .ref e, res], []⟩) R s := by
  intro k
  induction k with
  | zero =>
    intro i s acc c hk hi hN st hS hp hR
    obtain rfl : i = items.size := by omega
    refine codeAny_builtin F.entry_extend_loop ?_
    rw [Around.under_plainId F.plain_extend_loop _]
    show wpAny _ A.in1 (pyNext (.ref e) >>= _) _ _ s
    refine wpAny_bind (en_end (A := A.in1) hh st hne hte hti fun h' kp => wpAny_pure (hR h' s.toks acc c (fun b o _ _ bi q => kp b o bi q) (kp S _ hSi hS) ⟨hp.1, fun j x hj hx => ?_⟩))
    obtain ⟨T, k, a, b, c1, d, n0, q⟩ := hp.2 j x hj hx
    exact ⟨T, k, a, b, c1, d, n0, kp T _ d q⟩
  | succ k ih =>
    intro i s acc c hk hi hN st hS hp hR
    have hlt : i < items.size := by omega
    have hx : items[i]? = some items[i] := Array.getElem?_eq_getElem hlt
    refine codeAny_builtin F.entry_extend_loop ?_
    rw [Around.under_plainId F.plain_extend_loop _]
    show wpAny _ A.in1 (pyNext (.ref e) >>= _) _ _ s
    have sS : S < s.heap.objs.size := Heap.lt_size hS
    have se : e < s.heap.objs.size := by
      rcases st.2.2 with ⟨_, q⟩ | ⟨_, _, _, _, q, _⟩ <;> exact Heap.lt_size q
    have si : it < s.heap.objs.size := by
      obtain ⟨⟨_, q, _⟩, _⟩ := st
      exact Heap.lt_size q
    refine wpAny_bind (en_item (A := A.in1) hh st hx hne hte hti fun h1 tk kk st1 hT kp => ?_)
    have hS1 := kp S _ hSe hSi hS
    show wpAny _ A.in1 (updateSeq S (·.push (.ref s.heap.objs.size)) >>= _) _ _ _
    refine wpAny_bind ?_
    refine wpAny_updateSeq hS1 rfl (wpAny_pure ⟨plainId_quiet F.plain_extend_loop _, ?_⟩) (by rw [hp.1, sizeLine_eq]; omega) (by show (acc.push (.ref s.heap.objs.size)).size ≤ sizeLine + 1; rw [Array.size_push, hp.1, sizeLine_eq]; omega)
    have oth : ∀ b o, b ≠ S → h1.get? b = some o → (h1.update S (Obj.mapSeq (·.push (.ref s.heap.objs.size)))).get? b = some o := fun b o hb q => (Heap.get?_update_other _ _ (Ne.symm hb)).trans q
    refine ih (i + 1) _ (acc.push (.ref s.heap.objs.size)) _ (by omega) hlt (Nat.le_trans hN (Nat.le_of_lt (Heap.lt_size (oth _ _ (Nat.ne_of_gt sS) hT)))) ?_ (Heap.get?_update_self _ hS1 rfl) ⟨by rw [Array.size_push, hp.1], fun j x hj hx' => ?_⟩ fun h' tk' acc' c' kp' a1 a2 => hR h' tk' acc' c' (fun b o b1 b2 b3 q => kp' b o b1 b2 b3 (oth b o b1 (kp b o b2 b3 q))) a1 a2
    · obtain ⟨a, b, c'⟩ := st1
      refine ⟨a.at fun o q => oth it o (Ne.symm hSi) q, b.at fun o q => oth t o (Ne.symm hSt) q, ?_⟩
      rcases c' with ⟨old, q⟩ | ⟨old, T, f, oT, q, hT', r1, r2⟩
      · exact .inl ⟨old, oth e _ (Ne.symm hSe) q⟩
      · refine .inr ⟨old, T, f, ?_⟩
        by_cases hTS : T = S
        · subst hTS
          exact ⟨_, oth e _ (Ne.symm hSe) q, Heap.get?_update_self _ hS1 rfl, r1, r2⟩
        · exact ⟨oT, oth e _ (Ne.symm hSe) q, oth T _ hTS hT', r1, r2⟩
    · by_cases hji : j = i
      · subst hji
        obtain rfl : items[j] = x := Option.some.inj (hx.symm.trans hx')
        refine ⟨s.heap.objs.size, kk, ?_, Nat.ne_of_gt sS, Nat.ne_of_gt se, Nat.ne_of_gt si, hN, oth _ _ (Nat.ne_of_gt sS) hT⟩
        rw [← hp.1]
        simp
      · obtain ⟨T, k, a, b, c1, d, n0, q⟩ := hp.2 j x (by omega) hx'
        refine ⟨T, k, ?_, b, c1, d, n0, oth T _ b (kp T _ c1 d q)⟩
        rw [Array.getElem?_push_lt (by rw [hp.1]; omega)]
        rw [← a, Array.getElem?_eq_getElem (by rw [hp.1]; omega)]
theorem en_extend {N S e it t : Addr} {items : Array Value} {res : Value} {c0 : Nat} (hh : A.handled = none) (hz : items.size ≤ 1000) (hne : e ≠ it) (hte : t ≠ e) (hti : t ≠ it) (hSe : S ≠ e) (hSi : S ≠ it) (hSt : S ≠ t)
    (hN : N ≤ s.heap.objs.size) (he : IsEnum s.heap e it 0 .none) (hit : s.heap.IsTupleIter it t 0) (ht : s.heap.IsTuple t items) (hS : s.heap.get? S = some { cls := .type "list", data := .seq #[] c0 })
    (hR : ∀ h' tk acc' c', (∀ b o, b ≠ S → b ≠ e → b ≠ it → s.heap.get? b = some o → h'.get? b = some o) → h'.get? S = some { cls := .type "list", dict := none, data := .seq acc' c', slots := #[] } → EnPs N S e it items items.size h' acc' → R (.ok (.ret res)) { s with heap := h', toks := tk }) :
    wpAny (model prog w) A.in1 (Builtin.List.listExtendWith (.ref S) (.ref e) res)
      (fun fin s' => match fin with | .done f => R (.ok f) s' | .again c' => c'.quiet = true ∧ codeAny (model prog w) A c' R s') (fun e s' => R (.error e) s') s := by
  have hTy : s.TypeIs (.ref e) "enumerate" := ⟨_, he, rfl⟩
  unfold Builtin.List.listExtendWith
  refine wpAny_bind (wpAny_typeOf hTy ?_)
  have h1 : Builtin.List.listSameRef (.ref S) (.ref e) = false := by simp [Builtin.List.listSameRef, hSe]
  have h2 : (Value.type "enumerate" == Value.type "list") = false := by decide
  have h3 : (Value.type "enumerate" == Value.type "tuple") = false := by decide
  simp only [h1, h2, h3, Bool.or_false, Bool.false_eq_true, if_false]
  refine wpAny_bind (wpAny_pyIter_enum he (wpAny_bind (wpAny_holding ?_)))
  unfold Builtin.List.listLengthHint
  refine wpAny_bind (wpAny_specialOf hTy en_no_len ?_)
  show wpAny _ A.in1 (specialOf (Value.ref e) (Str.ofString "__length_hint__") >>= _) _ _ _
  refine wpAny_bind (wpAny_specialOf hTy en_no_hint (wpAny_pure ?_))
  show wpAny _ A.in1 (rule "list.extend.makes-room" >>= fun _ => Builtin.List.listTouch (.ref S) >>= fun _ =>
    again (.builtin "list.extend.loop" ⟨[.ref S, .ref e, res], []⟩)) _ _ _
  refine wpAny_bind (wpAny_rule (wpAny_bind ?_))
  show wpAny _ A.in1 (updateSeq S (·.push .none) >>= fun _ => updateSeq S (·.pop)) _ _ _
  refine wpAny_bind (wpAny_updateSeq hS rfl ?_)
  have hS2 := Heap.get?_update_self (Obj.mapSeq (·.push Value.none)) hS rfl
  refine wpAny_updateSeq (hz := by seq_fits) hS2 rfl ?_
  have hS3 := Heap.get?_update_self (Obj.mapSeq (·.pop)) hS2 rfl
  have oth : ∀ b o, b ≠ S → s.heap.get? b = some o → ((s.heap.update S (Obj.mapSeq (·.push Value.none))).update S (Obj.mapSeq (·.pop))).get? b = some o :=
    fun b o hb q => (Heap.get?_update_other _ _ (Ne.symm hb)).trans ((Heap.get?_update_other _ _ (Ne.symm hb)).trans q)
  refine wpAny_pure ⟨plainId_quiet F.plain_extend_loop _, en_loop hh hz hne hte hti hSe hSi hSt items.size 0 _ _ _ rfl (Nat.zero_le _) (Nat.le_trans hN (Nat.le_of_eq (by show s.heap.objs.size = ((s.heap.update S _).update S _).objs.size; rw [Heap.size_update, Heap.size_update]))) ⟨hit.at fun o q => oth it o (Ne.symm hSi) q, ht.at fun o q => oth t o (Ne.symm hSt) q, .inl ⟨.none, oth e _ (Ne.symm hSe) he⟩⟩ hS3 ⟨rfl, fun j x hj => by omega⟩ fun h' tk acc' c' kp a1 a2 => hR h' tk acc' c' (fun b o b1 b2 b3 q => kp b o b1 b2 b3 (oth b o b1 q)) a1 a2⟩
theorem call_list_enum {N e it t : Addr} {items : Array Value} {Q : Value → Shared → Prop} (hh : A.handled = none) (hz : items.size ≤ 1000) (hne : e ≠ it) (hte : t ≠ e) (hti : t ≠ it) (hN : N ≤ s.heap.objs.size) (he : IsEnum s.heap e it 0 .none) (hit : s.heap.IsTupleIter it t 0) (ht : s.heap.IsTuple t items)
    (hQ : ∀ h' tk acc c, (∀ b o, b ≠ e → b ≠ it → s.heap.get? b = some o → h'.get? b = some o) → h'.get? s.heap.objs.size = some { cls := .type "list", dict := none, data := .seq acc c, slots := #[] } → EnPs N s.heap.objs.size e it items items.size h' acc → Q (.ref s.heap.objs.size) { s with heap := h', toks := tk }) :
    wpAny (model prog w) A (call (.type "list") [.ref e]) Q E s := by
  refine callType_codes (Q₁ := fun obj s₁ => obj = .ref s.heap.objs.size ∧ s₁ = { s with heap := s.heap.push { cls := .type "list", data := .seq #[] } }) F.called_list (F.typeCall_list_1 _) F.entry_list_init
    (code_list_new _ ⟨rfl, rfl⟩) fun obj s1 h1 => ?_
  obtain ⟨rfl, rfl⟩ := h1
  have hS : (s.heap.push { cls := .type "list", data := .seq #[] }).get? s.heap.objs.size = some { cls := .type "list", data := .seq #[] } := Heap.get?_push_size _ rfl
  have ks : ∀ b o, s.heap.get? b = some o → (s.heap.push { cls := .type "list", data := .seq #[] }).get? b = some o := fun b o q => Heap.get?_push_of_some _ q
  have sz : ∀ b o, s.heap.get? b = some o → s.heap.objs.size ≠ b := fun b o q => Nat.ne_of_gt (Heap.lt_size q)
  have hSe := sz _ _ he
  have hSi : s.heap.objs.size ≠ it := let ⟨_, q, _⟩ := hit; sz _ _ q
  have hSt : s.heap.objs.size ≠ t := let ⟨_, q, _⟩ := ht; sz _ _ q
  have he' := ks _ _ he
  have hit' : (s.heap.push { cls := .type "list", data := .seq #[] }).IsTupleIter it t 0 := hit.at fun o q => ks it o q
  have ht' : (s.heap.push { cls := .type "list", data := .seq #[] }).IsTuple t items := ht.at fun o q => ks t o q
  refine ⟨⟨_, hS, rfl⟩, F.args_list_init_2 _ _, ?_⟩
  show wpAny _ A.in1.in1 (do let old ← Builtin.List.listItems (.ref s.heap.objs.size); Builtin.List.listUpdate (.ref s.heap.objs.size) (fun _ => #[]); letGo old.toList.reverse; Builtin.List.listExtendWith (.ref s.heap.objs.size) (.ref e) .none) _ _ _
  refine wpAny_bind ?_
  unfold Builtin.List.listItems
  refine wpAny_bind (wpAny_seqItems hS rfl (wpAny_pure ?_))
  show wpAny _ A.in1.in1 (updateSeq s.heap.objs.size (fun _ => #[]) >>= fun _ => letGo (#[] : Array Value).toList.reverse >>= fun _ => Builtin.List.listExtendWith (.ref s.heap.objs.size) (.ref e) .none) _ _ _
  refine wpAny_bind (wpAny_updateSeq hS rfl ?_)
  have hS2 := Heap.get?_update_self (Obj.mapSeq (fun _ => (#[] : Array Value))) hS rfl
  have oth : ∀ b o, b ≠ s.heap.objs.size → (s.heap.push { cls := .type "list", data := .seq #[] }).get? b = some o → ((s.heap.push { cls := .type "list", data := .seq #[] }).update s.heap.objs.size (Obj.mapSeq (fun _ => (#[] : Array Value)))).get? b = some o :=
    fun b o hb q => (Heap.get?_update_other _ _ (Ne.symm hb)).trans q
  refine wpAny_bind (wpAny_letGo ?_)
  refine en_extend (A := A.in1) (by first | exact hh | simpa using hh) hz hne hte hti hSe hSi hSt (Nat.le_trans hN (Nat.le_of_lt (Heap.lt_size hS2))) (oth e _ (Ne.symm hSe) he') (hit'.at fun o q => oth it o (Ne.symm hSi) q) (ht'.at fun o q => oth t o (Ne.symm hSt) q) hS2 fun h' tk acc c kp a1 a2 => ?_
  exact ⟨rfl, hQ h' tk acc c (fun b o b1 b2 q => kp b o (Ne.symm (sz b o q)) b1 b2 (oth b o (Ne.symm (sz b o q)) (ks b o q))) a1 a2⟩
end
end K9
set_option maxRecDepth 1000000
set_option maxHeartbeats 4000000
namespace K9
open PySem PySem.Spec PyProof.Rows L2
theorem en_new {v : Value} {o : Obj} {H : Heap → Prop} (B : Begins v o H) :
    Meets (Builtin.«enumerate.__new__» ⟨[.type "enumerate", v], []⟩) (fun _ R s => H s.heap ∧
      R (.ok (.ret (.ref (s.heap.push o).objs.size))) { s with heap := (s.heap.push o).push { cls := .type "enumerate", data := .fields #[.none, .bool false, .ref s.heap.objs.size, rawInt 0, .none, .none] } }) :=
  .of_wp fun prog w A R s h => by
    obtain ⟨hp, g, d, tk, os⟩ := s
    obtain ⟨h1, h⟩ := h
    have hsub := sub_enumerate
    have q1 : ∀ {A' : Around} {E : Value → Shared → Prop} {Q : Value → Shared → Prop}, Q (.ref hp.objs.size) ⟨hp.push o, g, d, tk, os⟩ → wpAny (model prog w) A' (pyIter v) Q E ⟨hp, g, d, tk, os⟩ :=
      fun q => B.iter prog w _ _ ⟨hp, g, d, tk, os⟩ _ h1 q
    wp_walk using q1
    refine wpAny_stack_any fun st => wpAny_pure ?_
    split
    · rename_i c _ _ _ _ _
      cases (c == Value.type "enumerate")
      · wp_walk using q1
        exact ⟨_, rfl, h⟩
      · wp_walk using q1
        exact ⟨_, rfl, h⟩
    · wp_walk using q1
      exact ⟨_, rfl, h⟩
section
variable {prog : Program} {w : World} {A : Around} {E : Value → Shared → Prop} {s : Shared}
theorem call_enum_tup {t : Addr} {items : Array Value} {Q : Value → Shared → Prop} (ht : s.heap.IsTuple t items)
    (h : ∀ h', IsEnum h' (s.heap.objs.size + 1) s.heap.objs.size 0 .none → h'.IsTupleIter s.heap.objs.size t 0 → (∀ b o, s.heap.get? b = some o → h'.get? b = some o) → Q (.ref (s.heap.objs.size + 1)) { s with heap := h' }) :
    wpAny (model prog w) A (call (.type "enumerate") [.ref t]) Q E s := by
  have B := begins_tuple t items
  refine callType_new F.called_enumerate (by decide) (F.typeCall_enumerate_1 _) (F.newCall_enumerate_1 _) (fun obj => F.args_object_init_2 obj _) F.entry_enumerate_new (en_new B) ⟨ht, ?_⟩
  have hz : (s.heap.push { cls := .type "tuple_iterator", data := .fields #[.ref t, .int 0 0] }).objs.size = s.heap.objs.size + 1 := Heap.size_push ..
  show _ ∧ _
  rw [hz]
  have he : IsEnum ((s.heap.push { cls := .type "tuple_iterator", data := .fields #[.ref t, .int 0 0] }).push { cls := .type "enumerate", data := .fields #[.none, .bool false, .ref s.heap.objs.size, rawInt 0, .none, .none] }) (s.heap.objs.size + 1) s.heap.objs.size 0 .none := by
    have := Heap.get?_push_size (s.heap.push { cls := .type "tuple_iterator", data := .fields #[.ref t, .int 0 0] }) (o := { cls := .type "enumerate", data := .fields #[.none, .bool false, .ref s.heap.objs.size, rawInt 0, .none, .none] }) rfl
    rw [hz] at this
    exact this
  exact ⟨⟨_, he, rfl⟩, h _ he ⟨_, Heap.get?_push_of_some _ (Heap.get?_push_size _ rfl), rfl, rfl⟩ fun b o x => Heap.get?_push_of_some _ (Heap.get?_push_of_some _ x)⟩
end
/-- list(enumerate(t)): the new list, its pairs new -/
def tLstEn (K : PySem.W.Frag) (te : TE) : TE := fun σ H Q => te σ H fun x H1 => ∃ a xs, x = .ref a ∧ SqT K H1 a xs ∧ xs.length ≤ 1000 ∧ ∀ (l : Addr) (ps : List V) (H' : Hp), H1 l = none → Same H1 H' → H' l = some (.lst ps) → ps.length = xs.length → (∀ (j : Nat) (x : V), xs[j]? = some x → ∃ T, ps[j]? = some (.ref T) ∧ H' T = some (.tup [.int (j : Nat), x])) → Q (.ref l) H'
def enK : Nat → List V → List (Key × V)
  | _, [] => []
  | k, x :: xs => (.inl (k : Int), x) :: enK (k + 1) xs
theorem enK_len : ∀ (xs : List V) (k : Nat), (enK k xs).length = xs.length
  | [], _ => rfl
  | _ :: xs, k => by
    show (enK (k + 1) xs).length + 1 = xs.length + 1
    rw [enK_len xs]
theorem enK_get : ∀ (xs : List V) (k j : Nat), (enK k xs)[j]? = (xs[j]?).map fun x => (.inl ((k + j : Nat) : Int), x)
  | [], _, _ => by simp [enK]
  | x :: xs, k, 0 => by simp [enK]
  | x :: xs, k, j + 1 => by
    show (enK (k + 1) xs)[j]? = _
    rw [enK_get xs (k + 1) j, show k + 1 + j = k + (j + 1) by omega]
    rfl
def adr : Value → Addr
  | .ref a => a
  | _ => 0
section
variable {X : Cx}
theorem en_laid {pins : List (Addr × Obj)} {σ : L2.St} {H : Hp} {s : Shared} {h' : Heap} {tk : Nat} {xs : List V} {its : List Value} {S e it : Addr} {acc : Array Value} {c : Nat} (I : Inv X pins σ H s) (r : Vals xs its) (hl : xs.length ≤ 1000)
    (hk : ∀ b o, s.heap.get? b = some o → h'.get? b = some o) (hS0 : s.heap.objs.size ≤ S) (hS : h'.get? S = some { cls := .type "list", dict := none, data := .seq acc c, slots := #[] }) (hp : EnPs s.heap.objs.size S e it its.toArray its.toArray.size h' acc) :
    ∃ (H' : Hp) (as : List Addr), Same H H' ∧ H S = none ∧ H' S = some (.lst (as.map V.ref)) ∧ as.length = xs.length ∧ (∀ (j : Nat) (x : V), xs[j]? = some x → ∃ T, as[j]? = some T ∧ H' T = some (.tup [.int (j : Nat), x])) ∧ Inv X pins σ H' { s with heap := h', toks := tk } := by
  have rl := r.length
  have hz : its.toArray.size = xs.length := by
    rw [List.size_toArray]
    omega
  obtain ⟨hn, hat⟩ := hp
  rw [hz] at hn hat
  -- what stands at each place
  have at1 : ∀ j, j < xs.length → ∃ (x : V) (u : Value) (T : Addr) (k : Tok), xs[j]? = some x ∧ RelV x u ∧ acc[j]? = some (.ref T) ∧ T ≠ S ∧ s.heap.objs.size ≤ T ∧ h'.get? T = some { cls := .type "tuple", data := .seq #[.int j k, u] } := fun j hj => by
    have hx : xs[j]? = some xs[j] := List.getElem?_eq_getElem hj
    obtain ⟨u, hu, ru⟩ := r.get hx
    obtain ⟨T, k, a, b, _, _, n, q⟩ := hat j u hj (by rw [List.getElem?_toArray]; exact hu)
    exact ⟨_, u, T, k, hx, ru, a, b, n, q⟩
  have la : (acc.toList.map adr).length = xs.length := by rw [List.length_map, Array.length_toList, hn]
  have at2 : ∀ j, j < xs.length → ∃ (x : V) (u : Value) (T : Addr) (k : Tok), xs[j]? = some x ∧ RelV x u ∧ (acc.toList.map adr)[j]? = some T ∧ T ≠ S ∧ s.heap.objs.size ≤ T ∧ h'.get? T = some { cls := .type "tuple", data := .seq #[.int j k, u] } := fun j hj => by
    obtain ⟨x, u, T, k, a, b, c1, d⟩ := at1 j hj
    refine ⟨x, u, T, k, a, b, ?_, d⟩
    rw [List.getElem?_map, Array.getElem?_toList, c1]
    rfl
  have eacc : acc.toList = (acc.toList.map adr).map Value.ref := by
    refine List.ext_getElem? fun j => ?_
    rw [List.getElem?_map, List.getElem?_map, Array.getElem?_toList]
    by_cases hj : j < xs.length
    · obtain ⟨x, u, T, k, a, b, c1, d⟩ := at1 j hj
      rw [c1]
      rfl
    · rw [Array.getElem?_eq_none (by omega)]
      rfl
  generalize acc.toList.map adr = as at la at2 eacc
  have nd : as.Nodup := by
    refine List.pairwise_iff_getElem.mpr fun i j hi hj hij z => ?_
    obtain ⟨_, u, T, k, _, _, c1, _, _, q⟩ := at2 i (by omega)
    obtain ⟨_, u2, T2, k2, _, _, c2, _, _, q2⟩ := at2 j (by omega)
    rw [List.getElem?_eq_getElem hi] at c1
    rw [List.getElem?_eq_getElem hj] at c2
    have e1 := Option.some.inj c1
    have e2 := Option.some.inj c2
    rw [e1, e2] at z
    rw [z, q2] at q
    injection q with q
    injection q with _ _ q
    injection q with q _
    have q := congrArg Array.toList q
    injection q with q _
    injection q with q _
    omega
  have mem : ∀ b ∈ as, ∃ (j : Nat) (x : V) (u : Value) (k : Tok), xs[j]? = some x ∧ as[j]? = some b ∧ RelV x u ∧ b ≠ S ∧ s.heap.objs.size ≤ b ∧ h'.get? b = some { cls := .type "tuple", data := .seq #[.int j k, u] } := fun b hb => by
    obtain ⟨j, hj⟩ := List.mem_iff_getElem?.mp hb
    obtain ⟨x, u, T, k, a, b1, c1, d⟩ := at2 j (by have := (List.getElem?_eq_some_iff.mp hj).1; omega)
    rw [hj] at c1
    cases c1
    exact ⟨j, x, u, k, a, hj, b1, d⟩
  have hSn : S ∉ as := fun z => by
    obtain ⟨_, _, _, _, _, _, _, n, _⟩ := mem S z
    exact n rfl
  have lk : as.length = (enK 0 xs).length := by rw [enK_len, la]
  have atP := LiI.putT_at as (enK 0 xs) (upd H S (.lst (as.map V.ref))) lk nd
  have new : ∀ b ∈ as, H b = none := fun b hb => by
    obtain ⟨_, _, _, _, _, _, _, _, n, _⟩ := mem b hb
    exact I.hok.fresh n
  have newS : H S = none := I.hok.fresh hS0
  have off : ∀ b, b ∉ as → b ≠ S → LiI.putT (upd H S (.lst (as.map V.ref))) as (enK 0 xs) b = H b := fun b h1 h2 => by rw [LiI.putT_off as _ _ h1, upd_ne h2]
  have eS : LiI.putT (upd H S (.lst (as.map V.ref))) as (enK 0 xs) S = some (.lst (as.map V.ref)) := by rw [LiI.putT_off as _ _ hSn, upd_same]
  have kp : ∀ b u, H b = some u → (LiI.putT (upd H S (.lst (as.map V.ref))) as (enK 0 xs)) b = some u := fun b u q => by
    rw [off b (fun z => by rw [new b z] at q; cases q) (fun z => by rw [z, newS] at q; cases q)]
    exact q
  have got : ∀ (j : Nat) (x : V) (T : Addr), xs[j]? = some x → as[j]? = some T → LiI.putT (upd H S (.lst (as.map V.ref))) as (enK 0 xs) T = some (.tup [.int (j : Nat), x]) := fun j x T hx hT => by
    obtain ⟨y, hy, e⟩ := LiI.paired_get atP hT
    rw [enK_get, hx, Nat.zero_add] at hy
    cases hy
    exact e
  refine ⟨LiI.putT (upd H S (.lst (as.map V.ref))) as (enK 0 xs), as, kp, newS, eS, la, fun j x hx => ?_, ?_⟩
  · obtain ⟨_, _, T, _, _, _, c1, _⟩ := at2 j (List.getElem?_eq_some_iff.mp hx).1
    exact ⟨T, c1, got j x T hx c1⟩
  refine I.call' (ch := []) rfl ⟨fun b o q _ _ _ => hk b o q, fun b o q _ _ _ => ⟨o.slots, hk b o q⟩, fun b o q n _ => ?_, fun b o q _ => ⟨o, hk b o q⟩, fun b xs q => kp b _ q, fun b o u q => kp b _ q, fun b ps q => ⟨#[], by rw [kp b _ q]; simp⟩⟩ (fun b u q => ?_) I.bare fun b z => by simp at z
  · refine (off b (fun z => ?_) (fun z => absurd (Heap.lt_size q) (by rw [z]; exact Nat.not_lt.mpr hS0))).trans n
    obtain ⟨_, _, _, _, _, _, _, _, n2, _⟩ := mem b z
    exact absurd (Heap.lt_size q) (Nat.not_lt.mpr n2)
  · by_cases hb : b ∈ as
    · obtain ⟨j, x, u', k, a, a2, ru, _, _, q2⟩ := mem b hb
      rw [got j x b a a2] at q
      cases q
      exact ⟨by show 2 ≤ sizeLine; decide, [.int j k, u'], .cons ⟨_, rfl⟩ (.cons ru .nil), ⟨_, q2, rfl, _, rfl⟩⟩
    · by_cases hb2 : b = S
      · rw [hb2] at q ⊢
        rw [eS] at q
        cases q
        refine ⟨by rw [List.length_map, la, sizeLine_eq]; omega, acc.toList, c, by rw [eacc]; exact LiI.vals_refs as, ?_⟩
        rw [Array.toArray_toList]
        exact hS
      · rw [off b hb hb2] at q
        exact (I.hok b u q).stay (fun d v _ y => hk d v y) (fun d y => kp d _ y) fun d xs y => kp d _ y
end
section
variable {X : Cx} {e : Expr} {te : TE}
theorem pe_listEn {p p2 pos pos2 : Pos} (hc : X.calm = true) (hg : Gl X "list") (hm : X.mg "list" = none) (hg2 : Gl X "enumerate") (hm2 : X.mg "enumerate" = none) (he : PE X e te)
    (na : starEach [e] X.env = [(false, eval e X.env)] := by rfl) (nb : starEach [Expr.Call (.Name "enumerate" p2) [e] [] pos2] X.env = [(false, eval (Expr.Call (.Name "enumerate" p2) [e] [] pos2) X.env)] := by rfl) :
    PE X (.Call (.Name "list" p) [.Call (.Name "enumerate" p2) [e] [] pos2] [] pos) (tLstEn X.K te) := by
  refine ⟨fun pins s σ H Q I h => ?_⟩
  refine Call_ (ld_blt I hg hm boot_list (PyProof.Rows.callWith_type1 (args_cons (Q := fun us s' => wpAny (model X.prog X.w) X.A (call (.type "list") us) (EP X pins σ Q) X.xe s') ?_ nb) nb))
  refine Call_ (ld_blt I hg2 hm2 boot_enumerate (PyProof.Rows.callWith_type1 (args_cons (thn (he.run pins s σ H _ I h) fun u s1 ⟨v, H1, I1, rx, a, xs, ex, hq, hl, q⟩ => args_nil ?_) na) na))
  subst ex
  cases rx
  obtain ⟨its, rv, pl, _⟩ := I1.tuple hq
  refine call_enum_tup pl fun h2 e2 i2 k2 => ?_
  refine args_nil ?_
  have la : a < s1.heap.objs.size := by
    obtain ⟨o, ho, _⟩ := pl
    exact Heap.lt_size ho
  have hz : its.toArray.size ≤ 1000 := by
    rw [List.size_toArray, ← rv.length]
    exact hl
  have hit : s1.heap.objs.size < h2.objs.size := by
    obtain ⟨_, q, _⟩ := i2
    exact Heap.lt_size q
  refine call_list_enum (N := s1.heap.objs.size) (I1.ok.hd hc) hz (Nat.succ_ne_self _) (Nat.ne_of_lt (Nat.lt_succ_of_lt la)) (Nat.ne_of_lt la) (Nat.le_of_lt hit) e2 i2 (by obtain ⟨o, ho, r⟩ := pl; exact ⟨o, k2 _ _ ho, r⟩) fun h' tk acc c kp hS hp => ?_
  obtain ⟨H', as, S, n0, eS, hla, hpair, J⟩ := en_laid (tk := tk) I1 rv hl (fun b o q => kp b o (Nat.ne_of_lt (Nat.lt_succ_of_lt (Heap.lt_size q))) (Nat.ne_of_lt (Heap.lt_size q)) (k2 b o q)) (Nat.le_of_lt hit) hS hp
  refine ⟨.ref h2.objs.size, H', J, rfl, q _ _ H' n0 S eS (by rw [List.length_map, hla]) fun j x hx => ?_⟩
  obtain ⟨T, hT, e⟩ := hpair j x hx
  exact ⟨T, by rw [List.getElem?_map, hT]; rfl, e⟩
end
end K9
set_option maxRecDepth 100000
set_option maxHeartbeats 8000000
namespace K9
open PySem PySem.Spec PyProof.Rows L2
/-! ### the counts of all words and decorated parts of a space are tuples whose object is known -/
def FzF (H : Hp) (v : V) (l : L9) : Prop := (∃ cs, l = .word cs) → ∃ (a : Addr) (z : V) (v1 : V), v = .ref a ∧ TP H a [z, v1] ∧ Fz H v1
mutual
def FzS (H : Hp) (v : V) : S9 → Prop
  | .leaf l => FzF H v l
  | .row _ xs => ∃ (a b : Addr) (z : V) (ys : List V), v = .ref a ∧ TP H a [z, .ref b] ∧ TP H b ys ∧ FzL H ys xs
  | .pow _ x => ∃ (a : Addr) (z i y : V), v = .ref a ∧ TP H a [z, i, y] ∧ FzS H y x
  | .dec _ xs => ∃ (a b : Addr) (z v1 : V) (ys : List V), v = .ref a ∧ TP H a [z, v1, .ref b] ∧ Fz H v1 ∧ TP H b ys ∧ FzL H ys xs
def FzL (H : Hp) : List V → List S9 → Prop
  | ys, [] => ys = []
  | ys, x :: xs => ∃ (y : V) (r : List V), ys = y :: r ∧ FzS H y x ∧ FzL H r xs
end
mutual
theorem FzS.same {H H' : Hp} (S : Same H H') : ∀ {s : S9} {v : V}, FzS H v s → FzS H' v s
  | .leaf l, v, h => by
    rw [FzS] at h ⊢
    intro hw
    obtain ⟨a, z, v1, e, h1, h2⟩ := h hw
    exact ⟨a, z, v1, e, upR h1 S, h2.same S⟩
  | .row c xs, v, h => by
    rw [FzS] at h ⊢
    obtain ⟨a, b, z, ys, e, h1, h2, h3⟩ := h
    exact ⟨a, b, z, ys, e, upR h1 S, upR h2 S, FzL.same S h3⟩
  | .pow n x, v, h => by
    rw [FzS] at h ⊢
    obtain ⟨a, z, i, y, e, h1, h2⟩ := h
    exact ⟨a, z, i, y, e, upR h1 S, FzS.same S h2⟩
  | .dec cs xs, v, h => by
    rw [FzS] at h ⊢
    obtain ⟨a, b, z, v1, ys, e, h1, h2, h3, h4⟩ := h
    exact ⟨a, b, z, v1, ys, e, upR h1 S, h2.same S, upR h3 S, FzL.same S h4⟩
theorem FzL.same {H H' : Hp} (S : Same H H') : ∀ {xs : List S9} {ys : List V}, FzL H ys xs → FzL H' ys xs
  | [], ys, h => by
    rw [FzL] at h ⊢
    exact h
  | x :: xs, ys, h => by
    rw [FzL] at h ⊢
    obtain ⟨y, r, e, h1, h2⟩ := h
    exact ⟨y, r, e, FzS.same S h1, FzL.same S h2⟩
end
theorem FzL.at {H : Hp} : ∀ {xs : List S9} {ys : List V} {j : Nat} {x : S9}, FzL H ys xs → xs[j]? = some x → ∃ y, ys[j]? = some y ∧ FzS H y x
  | [], _, _, _, _, e => by simp at e
  | x0 :: xs, ys, 0, x, h, e => by
    rw [FzL] at h
    obtain ⟨y, r, rfl, h1, h2⟩ := h
    simp at e
    subst e
    exact ⟨y, rfl, h1⟩
  | x0 :: xs, ys, j + 1, x, h, e => by
    rw [FzL] at h
    obtain ⟨y, r, rfl, h1, h2⟩ := h
    obtain ⟨y', e1, e2⟩ := FzL.at (j := j) (x := x) h2 (by simpa using e)
    exact ⟨y', by simpa using e1, e2⟩
theorem TP.noR {H : Hp} {L a : Addr} {xs ys : List V} (hL : H L = some (.lst ys)) (h : TP H a xs) : TP (noR L H) a xs := by
  have ne : a ≠ L := fun e => h.noL (e ▸ hL)
  intro C f g
  exact h C (fun e => f (noR_at e ne)) fun o e n => g o (noR_at e ne) n
theorem Fz.noR {H : Hp} {L : Addr} {v : V} {ys : List V} (hL : H L = some (.lst ys)) (h : Fz H v) : Fz (noR L H) v := by
  obtain ⟨a, o, xs, e, h1, n⟩ := h
  have ne : a ≠ L := fun e' => by
    rw [e', hL] at h1
    cases h1
  exact ⟨a, o, xs, e, noR_at h1 ne, n⟩
mutual
theorem FzS.noR {H : Hp} {L : Addr} {l0 : List V} (hL : H L = some (.lst l0)) : ∀ {s : S9} {v : V}, FzS H v s → FzS (noR L H) v s
  | .leaf l, v, h => by
    rw [FzS] at h ⊢
    intro hw
    obtain ⟨a, z, v1, e, h1, h2⟩ := h hw
    exact ⟨a, z, v1, e, h1.noR hL, h2.noR hL⟩
  | .row c xs, v, h => by
    rw [FzS] at h ⊢
    obtain ⟨a, b, z, ys, e, h1, h2, h3⟩ := h
    exact ⟨a, b, z, ys, e, h1.noR hL, h2.noR hL, FzL.noR hL h3⟩
  | .pow n x, v, h => by
    rw [FzS] at h ⊢
    obtain ⟨a, z, i, y, e, h1, h2⟩ := h
    exact ⟨a, z, i, y, e, h1.noR hL, FzS.noR hL h2⟩
  | .dec cs xs, v, h => by
    rw [FzS] at h ⊢
    obtain ⟨a, b, z, v1, ys, e, h1, h2, h3, h4⟩ := h
    exact ⟨a, b, z, v1, ys, e, h1.noR hL, h2.noR hL, h3.noR hL, FzL.noR hL h4⟩
theorem FzL.noR {H : Hp} {L : Addr} {l0 : List V} (hL : H L = some (.lst l0)) : ∀ {xs : List S9} {ys : List V}, FzL H ys xs → FzL (noR L H) ys xs
  | [], ys, h => by
    rw [FzL] at h ⊢
    exact h
  | x :: xs, ys, h => by
    rw [FzL] at h ⊢
    obtain ⟨y, r, e, h1, h2⟩ := h
    exact ⟨y, r, e, FzS.noR hL h1, FzL.noR hL h2⟩
end
/-- the items of the list L are pairs with such inner values -/
def PrV (H : Hp) (xs : List V) (es : List S9) : Prop := xs.length = es.length ∧ ∀ (j : Nat) (e : S9), es[j]? = some e → ∃ (t : Addr) (w y : V), xs[j]? = some (.ref t) ∧ TP H t [w, y] ∧ FzS H y e
theorem PrV.same {H H' : Hp} {xs : List V} {es : List S9} (h : PrV H xs es) (S : Same H H') : PrV H' xs es := ⟨h.1, fun j e he => by
  obtain ⟨t, w, y, e1, e2, e3⟩ := h.2 j e he
  exact ⟨t, w, y, e1, upR e2 S, e3.same S⟩⟩
theorem PrV.noR {H : Hp} {L : Addr} {xs l0 : List V} {es : List S9} (hL : H L = some (.lst l0)) (h : PrV H xs es) : PrV (noR L H) xs es := ⟨h.1, fun j e he => by
  obtain ⟨t, w, y, e1, e2, e3⟩ := h.2 j e he
  exact ⟨t, w, y, e1, e2.noR hL, e3.noR hL⟩⟩
theorem PrV.app {H : Hp} {xs ys : List V} {es fs : List S9} (h : PrV H xs es) (h' : PrV H ys fs) : PrV H (xs ++ ys) (es ++ fs) := by
  refine ⟨by rw [List.length_append, List.length_append, h.1, h'.1], fun j e he => ?_⟩
  by_cases hj : j < es.length
  · rw [List.getElem?_append_left hj] at he
    obtain ⟨t, w, y, e1, e2, e3⟩ := h.2 j e he
    exact ⟨t, w, y, by rw [List.getElem?_append_left (by rw [h.1]; exact hj)]; exact e1, e2, e3⟩
  · rw [List.getElem?_append_right (by omega)] at he
    obtain ⟨t, w, y, e1, e2, e3⟩ := h'.2 _ e he
    exact ⟨t, w, y, by rw [List.getElem?_append_right (by rw [h.1]; omega), h.1]; exact e1, e2, e3⟩
theorem PrV.one {H : Hp} {t : Addr} {w y : V} {e : S9} (h : TP H t [w, y]) (f : FzS H y e) : PrV H [.ref t] [e] := ⟨rfl, fun j e' he => by
  cases j with
  | zero =>
    cases he
    exact ⟨t, w, y, rfl, h, f⟩
  | succ j => simp at he⟩
/-- a growing list of them -/
def PrL (Hx : Hp) (L : Addr) (es : List S9) : Prop := ∃ xs, Hx L = some (.lst xs) ∧ PrV Hx xs es
theorem PrL.start {H : Hp} {L : Addr} : PrL (upd H L (.lst [])) L [] := ⟨[], upd_same, rfl, fun j e h => by simp at h⟩
theorem PrL.same {H H' : Hp} {L : Addr} {es : List S9} (h : PrL H L es) (S : Same H H') : PrL H' L es := by
  obtain ⟨xs, e, p⟩ := h
  exact ⟨xs, S _ _ e, p.same S⟩
theorem PrL.add {Hy : Hp} {L : Addr} {xs zs : List V} {es fs : List S9} (h : PrL Hy L es) (hL : Hy L = some (.lst xs)) (hz : PrV Hy zs fs) : PrL (upd Hy L (.lst (xs ++ zs))) L (es ++ fs) := by
  obtain ⟨xs', e, p⟩ := h
  rw [hL] at e
  cases e
  exact ⟨_, upd_same, ((p.app hz).noR hL).same noR_to⟩
end K9
set_option maxRecDepth 100000
set_option maxHeartbeats 8000000
namespace K9
open PySem PySem.Spec PyProof.Rows L2
theorem same_noR {L : Addr} {H H' : Hp} (S : Same H H') : Same (noR L H) (noR L H') := fun b o e => by
  unfold noR at e ⊢
  by_cases h : b = L
  · rw [if_pos h] at e
    cases e
  · rw [if_neg h] at e ⊢
    exact S b o e
theorem noLs_iff : ∀ {l : List PyData}, noLs l = true ↔ ∀ d ∈ l, noL d = true
  | [] => by simp [noLs]
  | a :: l => by simp [noLs, noLs_iff (l := l)]
def Gr (H : Hp) (L : Addr) (ds : List PyData) (Hx : Hp) : Prop := H L = none ∧ Same H Hx ∧ ∃ xs, Hx L = some (.lst xs) ∧ DatAll (noR L Hx) xs ds
theorem Gr.start {H : Hp} {L : Addr} (n : H L = none) : Gr H L [] (upd H L (.lst [])) := ⟨n, same_new n, [], upd_same, .nil⟩
theorem Gr.same {H Hx Hy : Hp} {L : Addr} {ds : List PyData} (g : Gr H L ds Hx) (S : Same Hx Hy) : Gr H L ds Hy := by
  obtain ⟨n, S0, xs, h, d⟩ := g
  exact ⟨n, S0.trans S, xs, S _ _ h, d.same (same_noR S)⟩
theorem Gr.add {H Hx Hy : Hp} {L : Addr} {ds es : List PyData} {zs : List V} (g : Gr H L ds Hx) (S : Same Hx Hy) (hz : DatAll Hy zs es) (no : noLs es = true) : ∃ xs, Hy L = some (.lst xs) ∧ xs.length = ds.length ∧ zs.length = es.length ∧ Gr H L (ds ++ es) (upd Hy L (.lst (xs ++ zs))) := by
  obtain ⟨n, S0, xs, h, d⟩ := g.same S
  refine ⟨xs, h, d.len, hz.len, n, fun b u e => ?_, xs ++ zs, upd_same, ?_⟩
  · rw [upd_ne (ne_of_none e n)]
    exact S0 b u e
  · rw [noR_upd]
    exact datAll_append d (dat_noLs h no hz)
theorem Gr.fin {H Hx : Hp} {L : Addr} {ds : List PyData} (g : Gr H L ds Hx) : ∃ xs, Hx L = some (.lst xs) ∧ xs.length = ds.length ∧ DatAll Hx xs ds := by
  obtain ⟨n, S0, xs, h, d⟩ := g
  exact ⟨xs, h, d.len, d.same noR_sub⟩
theorem mono_tup2 {K : PySem.W.Frag} {i j : Nat} {vs : List Nat} {σ : L2.St} : ∀ (x : V) (Hx : Hp) (A B : L2.St → Hp → Prop), (∀ σ2 H2, A σ2 H2 → B σ2 H2) → gTup K 2 (gCons (gName i) (gCons (gName j) gNil)) x (wipe σ vs) Hx A → gTup K 2 (gCons (gName i) (gCons (gName j) gNil)) x (wipe σ vs) Hx B :=
  fun x Hx A B h ⟨a, xs, e, hs, hl, v, r, e1, v2, r2, e2, e3, q⟩ => ⟨a, xs, e, hs, hl, v, r, e1, v2, r2, e2, e3, h _ _ q⟩
/-- small enough: few rows, few copies, few occurrences; nothing holds a list -/
def cntsZ (cs : Cn) : Bool := decide (cs.length ≤ 3) && cs.all fun q => decide (q.2 ≤ 2) && nameS q.1
mutual
def tinyS : S9 → Bool
  | .leaf l => noL (ldt l)
  | .row _ xs => decide (xs.length ≤ 3) && tinySs xs
  | .pow n x => decide (n ≤ 3) && tinyS x
  | .dec cs xs => cntsZ cs && tinySs xs
def tinySs : List S9 → Bool
  | [] => true
  | x :: xs => tinyS x && tinySs xs
end
theorem cnts_noL (cs : Cn) : noL (cntsD cs) = true := by
  unfold cntsD
  show noLs _ = true
  refine noLs_iff.mpr fun d hd => ?_
  obtain ⟨c, _, rfl⟩ := List.mem_map.mp hd
  rfl
mutual
theorem dt_noL : ∀ s : S9, tinyS s = true → noL (dt s) = true
  | .leaf l, h => by
    rw [dt]
    rw [tinyS] at h
    exact h
  | .row c xs, h => by
    rw [tinyS, Bool.and_eq_true] at h
    rw [dt]
    simp [noL, noLs, dts_noL xs h.2]
  | .pow n x, h => by
    rw [tinyS, Bool.and_eq_true] at h
    rw [dt]
    simp [noL, noLs, dt_noL x h.2]
  | .dec c xs, h => by
    rw [tinyS, Bool.and_eq_true] at h
    rw [dt]
    simp [noL, noLs, dts_noL xs h.2, cnts_noL c]
theorem dts_noL : ∀ xs : List S9, tinySs xs = true → noLs (dts xs) = true
  | [], _ => by rw [dts]; rfl
  | x :: xs, h => by
    rw [tinySs, Bool.and_eq_true] at h
    rw [dts]
    simp [noLs, dt_noL x h.1, dts_noL xs h.2]
end
theorem tiny_mem : ∀ {xs : List S9} {x : S9}, tinySs xs = true → x ∈ xs → tinyS x = true
  | y :: xs, x, hb, h => by
    rw [tinySs, Bool.and_eq_true] at hb
    rcases List.mem_cons.mp h with rfl | h
    · exact hb.1
    · exact tiny_mem hb.2 h
theorem cnts_le {c : Cn} (h : cntsZ c = true) : c.length ≤ 3 ∧ ∀ q ∈ c, q.2 ≤ 2 ∧ q.1.length ≤ 1000 := by
  unfold cntsZ at h
  rw [Bool.and_eq_true, List.all_eq_true] at h
  refine ⟨of_decide_eq_true h.1, fun q hq => ?_⟩
  have z := h.2 q hq
  rw [Bool.and_eq_true] at z
  have z2 := z.2
  unfold nameS at z2
  rw [Bool.and_eq_true, Bool.and_eq_true] at z2
  have := of_decide_eq_true z2.1.2
  exact ⟨of_decide_eq_true z.1, by omega⟩
/-! ### what stands directly inside a part, with its steps -/
def prD (p : PyData × S9) : PyData := .tuple [p.1, dt p.2]
def nestD (s : S9) : List PyData := (nestS s).map prD
def decW (p : (Str × Nat) × S9) : List PyData := (decS p).map prD
def spNested : Sp := fun vs H Q _ => ∃ (v : V) (s : S9), vs = [v] ∧ Dat H v (dt s) ∧ okS s = true ∧ tinyS s = true ∧ FzS H v s ∧
  ∀ (a : Addr) (xs : List V) (H' : Hp), H a = none → Same H H' → H' a = some (.lst xs) → DatAll H' xs (nestD s) → PrV H' xs ((nestS s).map (·.2)) → Q (.ref a) H'
abbrev s_nested : Stmt := top 42
theorem datAll_at {H : Hp} : ∀ {vs : List V} {ds : List PyData}, vs.length = ds.length → (∀ (j : Nat) (d : PyData), ds[j]? = some d → ∃ v, vs[j]? = some v ∧ Dat H v d) → DatAll H vs ds
  | [], [], _, _ => .nil
  | [], _ :: _, h, _ => by cases h
  | _ :: _, [], h, _ => by cases h
  | v :: vs, d :: ds, h, k => by
    obtain ⟨u, e, t⟩ := k 0 d rfl
    cases e
    exact .cons t (datAll_at (Nat.succ.inj h) fun j d' e' => k (j + 1) d' e')
theorem enum_at : ∀ (xs : List S9) (k j : Nat), (enumS k xs)[j]? = (xs[j]?).map fun e => (.int ((k + j : Nat) : Int), e)
  | [], _, _ => by simp [enumS]
  | x :: xs, k, 0 => by simp [enumS]
  | x :: xs, k, j + 1 => by
    rw [enumS]
    show (enumS (k + 1) xs)[j]? = _
    rw [enum_at xs (k + 1) j, show k + 1 + j = k + (j + 1) by omega]
    rfl
theorem enum_len : ∀ (xs : List S9) (k : Nat), (enumS k xs).length = xs.length
  | [], _ => rfl
  | x :: xs, k => by rw [enumS, List.length_cons, List.length_cons, enum_len xs]
theorem pow_noL (n : Nat) (x : S9) (hx : tinyS x = true) : noLs ((List.range n).map fun k => prD (.int (k : Nat), x)) = true := noLs_iff.mpr fun d hd => by
  obtain ⟨k, _, rfl⟩ := List.mem_map.mp hd
  show noL (.tuple [.int (k : Nat), dt x]) = true
  simp [noL, noLs, dt_noL x hx]
theorem decW_eq (p : (Str × Nat) × S9) : decW p = (List.range p.1.2).map fun j => prD (.tuple [.str p.1.1, .int (j : Nat)], p.2) := by
  unfold decW decS
  rw [List.map_map]
  rfl
theorem decW_noL (p : (Str × Nat) × S9) (hp : tinyS p.2 = true) : noLs (decW p) = true := noLs_iff.mpr fun d hd => by
  rw [decW_eq] at hd
  obtain ⟨k, _, rfl⟩ := List.mem_map.mp hd
  show noL (.tuple [.tuple [.str p.1.1, .int (k : Nat)], dt p.2]) = true
  simp [noL, noLs, dt_noL p.2 hp]
theorem decs_len : ∀ l : List ((Str × Nat) × S9), (∀ p ∈ l, p.1.2 ≤ 2) → (l.flatMap decW).length ≤ 2 * l.length
  | [], _ => Nat.le_refl _
  | p :: l, h => by
    rw [List.flatMap_cons, List.length_append, List.length_cons, decW_eq, List.length_map, List.length_range]
    have h1 := decs_len l fun q hq => h q (List.mem_cons_of_mem _ hq)
    have h2 := h p List.mem_cons_self
    omega
section
variable {P : Program} {w : World} {K : PySem.W.Frag} {mg : Str → Option Value} {base : Heap}
theorem sc_nested : FnScope ["_law_part", "_law_found", "_law_one", "_law_inner", "_law_k", "_law_j"] ["_law_part"] (defScope s_nested) := ⟨rfl, rfl, rfl, by decide +kernel, rfl, by decide +kernel, by decide +kernel⟩
theorem ok_nested {f : Addr} {fd : FuncData} (F : Fun K "_law_nested" "_law_nested" s_nested f fd) (T : Nm mg) : FnOk P w K mg base CX0 1 f fd ["_law_part"] spNested := by
  refine F.ok sc_nested (fun vs H Q E h => ?_) (fun cdv A outer s H vs Q E hr h => ?_)
  · obtain ⟨v, s, rfl, _⟩ := h
    rfl
  · obtain ⟨v, sp, rfl, hv, hok, hz, hfz, k⟩ := h
    refine ⟨_, (pss_cons (ps_if (pt_cmpR op_in_seq (pe_ix ix_tup (pv 0) pe_int (fun _ _ => rfl)) (pe_tup (pa_cons pe_str (pa_cons pe_str pa_nil))) rfl)
        (pss_one (ps_ret (pe_listEn rfl (by rfl) T.list (by rfl) T.enumerate (pe_ix ix_tup (pv 0) pe_int (fun _ _ => rfl)))))
        pss_nil)
      (pss_cons (ps_if (pt_cmpR op_eq (pe_ix ix_tup (pv 0) pe_int (fun _ _ => rfl)) pe_str (nomark _))
        (pss_one (ps_ret (pe_lc (own := [("_law_k", 4)]) (g := (gName 4)) (tt := tYes) (te := tTup (tCons (tVar 4) (tCons (tOp (rIxT K) (tVar 0) (tC (.int 2))) tNil))) rfl sc_nested.nd (pi_range1 rfl T.range (pa_cons (pe_ix ix_tup (pv 0) pe_int (fun _ _ => rfl)) pa_nil)) (blkOk_by (N := ["_law_part", "_law_found", "_law_one", "_law_inner", "_law_k", "_law_j"]) (sc := defScope s_nested) (by decide +kernel))
          (fun _ _ _ _ _ => (pg_name (i := 4) sc_nested.nd rfl (Or.inl rfl))) (fun _ _ _ _ _ => pts_nil) (fun _ _ _ _ _ => (pe_tup (pa_cons (pv 4) (pa_cons (pe_ix ix_tup (pv 0) pe_int (fun _ _ => rfl)) pa_nil)))))))
        pss_nil)
      (pss_cons (ps_set (i := 1) sc_nested.nd rfl (Or.inl rfl) (pe_lst pa_nil))
      (pss_cons (ps_if (pt_cmpR op_eq (pe_ix ix_tup (pv 0) pe_int (fun _ _ => rfl)) pe_str (nomark _))
        (pss_one (ps_for PassesOwn.never rfl (RZ.pi_zipA rfl T.zip (pa_cons (pe_ix ix_tup (pv 0) pe_int (fun _ _ => rfl)) (pa_cons (pe_ix ix_tup (pv 0) pe_int (fun _ _ => rfl)) pa_nil))) (pg_tup rfl (pgs_cons (pg_name (i := 2) sc_nested.nd rfl (Or.inr rfl)) (pgs_cons (pg_name (i := 3) sc_nested.nd rfl (Or.inr rfl)) pgs_nil)))
          (pss_one (ps_expr (pe_bm PySem.F.plainAttrs_list PySem.F.slot_list_extend PySem.F.type_list_extend mt_extend (pv 1) (pa_cons (pe_lc (own := [("_law_j", 5)]) (g := (gName 5)) (tt := tYes) (te := tTup (tCons (tTup (tCons (tOp (rIxT K) (tVar 2) (tC (.int 0))) (tCons (tVar 5) tNil))) (tCons (tVar 3) tNil))) rfl sc_nested.nd (pi_range1 rfl T.range (pa_cons (pe_ix ix_tup (pv 2) pe_int (fun _ _ => rfl)) pa_nil)) (blkOk_by (N := ["_law_part", "_law_found", "_law_one", "_law_inner", "_law_k", "_law_j"]) (sc := defScope s_nested) (by decide +kernel))
          (fun _ _ _ _ _ => (pg_name (i := 5) sc_nested.nd rfl (Or.inl rfl))) (fun _ _ _ _ _ => pts_nil) (fun _ _ _ _ _ => (pe_tup (pa_cons (pe_tup (pa_cons (pe_ix ix_tup (pv 2) pe_int (fun _ _ => rfl)) (pa_cons (pv 5) pa_nil))) (pa_cons (pv 3) pa_nil))))) pa_nil))))))
        pss_nil)
      (pss_one (ps_ret (pv 1))))))), ?_⟩
    cases sp with
    | leaf l =>
      rw [dt] at hv
      obtain ⟨ds, el⟩ := ldt_hd l
      rw [el] at hv
      obtain ⟨a0, ps, rfl, h0, _⟩ := tup_hd hv
      obtain ⟨e1, e2, e3⟩ := hd_no (hdL l) (hd_mem l)
      refine ⟨_, rfl, a0, _, _, _, rfl, rfl, sqT_rd h0, atI_nat (j := 0) rfl, (by show 2 ≤ sizeLine; decide), fun tp ntp => ⟨tp, _, rfl, .inr (SqT.of upd_same), rfl, rfl, _, rfl, ?_⟩⟩
      have S1 := same_new (o := HO.tup [.str "product", .str "choice"]) ntp
      generalize upd H tp (.tup [.str "product", .str "choice"]) = H1 at S1 ⊢
      refine if_f e1 ?_
      refine ⟨_, rfl, a0, _, _, _, rfl, rfl, sqT_rd (upR h0 S1), atI_nat (j := 0) rfl, rfl, _, rfl, if_f e2 ?_⟩
      refine ⟨(by show 0 ≤ sizeLine; decide), fun L nL => ?_⟩
      have S2 := same_new (o := HO.lst []) nL
      refine ⟨_, rfl, a0, _, _, _, rfl, rfl, sqT_rd (upR (upR h0 S1) S2), atI_nat (j := 0) rfl, rfl, _, rfl, if_f e3 ?_⟩
      exact ⟨_, rfl, k L [] _ (S1.free nL) (S1.trans S2) upd_same .nil ⟨rfl, fun j e h => by simp [nestS] at h⟩⟩
    | row c xs =>
      have hle : xs.length ≤ 3 := by
        rw [tinyS, Bool.and_eq_true] at hz
        exact of_decide_eq_true hz.1
      rw [dt] at hv
      cases hv with
      | @tup a0 ps _ h0 hps =>
      obtain ⟨_, v1, rfl, i0, i1⟩ := dat2 hps
      cases i0
      cases i1 with
      | @tup b ys _ hb hys =>
      have hl := hys.len
      rw [dts_len] at hl
      refine ⟨_, rfl, a0, _, _, _, rfl, rfl, sqT_rd h0, atI_nat (j := 0) rfl, (by show 2 ≤ sizeLine; decide), fun tp ntp => ⟨tp, _, rfl, .inr (SqT.of upd_same), rfl, rfl, _, rfl, ?_⟩⟩
      have S1 := same_new (o := HO.tup [.str "product", .str "choice"]) ntp
      have ein : inV (.str (rowW c)) [.str "product", .str "choice"] = true := by cases c <;> decide +kernel
      generalize upd H tp (.tup [.str "product", .str "choice"]) = H1 at S1 ⊢
      refine if_t ein ?_
      refine ⟨_, rfl, a0, _, _, _, rfl, rfl, sqT_rd (upR h0 S1), atI_nat (j := 1) rfl, b, ys, rfl, sqT_rd (upR hb S1), by omega, fun l ps H' nl S hl' hpl hps => k l ps H' (S1.free nl) (S1.trans S) hl' (datAll_at ?_ fun j d hd => ?_) ⟨?_, fun j e he => ?_⟩⟩
      · show ps.length = ((enumS 0 xs).map prD).length
        rw [List.length_map, enum_len, hpl, hl]
      · have hd' : ((enumS 0 xs).map prD)[j]? = some d := hd
        rw [List.getElem?_map, enum_at] at hd'
        cases e : xs[j]? with
        | none =>
          rw [e] at hd'
          cases hd'
        | some x =>
          rw [e] at hd'
          have hd' := Option.some.inj hd'
          subst hd'
          obtain ⟨y, hy, dy⟩ := dats_get hys e
          obtain ⟨U, hU, eU⟩ := hps j y hy
          refine ⟨_, hU, .tup (TP.of eU) (.cons ?_ (.cons ((dy.same S1).same S) .nil))⟩
          rw [Nat.zero_add]
          exact .int _
      · show ps.length = ((enumS 0 xs).map (·.2)).length
        rw [List.length_map, enum_len, hpl, hl]
      · have he' : ((enumS 0 xs).map (·.2))[j]? = some e := he
        rw [List.getElem?_map, enum_at] at he'
        rw [FzS] at hfz
        obtain ⟨a', b', z', ys', ea, f1, f2, f3⟩ := hfz
        cases ea
        have eq1 := h0.uniq f1
        injection eq1 with _ eq1
        injection eq1 with eq1 _
        cases eq1
        have eq2 := hb.uniq f2
        subst eq2
        cases ex : xs[j]? with
        | none =>
          rw [ex] at he'
          cases he'
        | some x =>
          rw [ex] at he'
          have he' := Option.some.inj he'
          subst he'
          obtain ⟨y, hy, fy⟩ := f3.at ex
          obtain ⟨U, hU, eU⟩ := hps j y hy
          exact ⟨U, _, y, hU, TP.of eU, (fy.same S1).same S⟩
    | pow n y =>
      have hle : n ≤ 3 := by
        rw [tinyS, Bool.and_eq_true] at hz
        exact of_decide_eq_true hz.1
      have hty : tinyS y = true := by
        rw [tinyS, Bool.and_eq_true] at hz
        exact hz.2
      rw [FzS] at hfz
      obtain ⟨a', z', i', yf, ea', f1, hfy⟩ := hfz
      rw [dt] at hv
      cases hv with
      | @tup a0 ps _ h0 hps =>
      obtain ⟨_, _, y2, rfl, i0, i1, dy⟩ := dat3 hps
      injection ea' with ea'
      subst ea'
      have eqf := h0.uniq f1
      injection eqf with _ eqf
      injection eqf with _ eqf
      injection eqf with eqf _
      subst eqf
      cases i0
      cases i1
      refine ⟨_, rfl, a0, _, _, _, rfl, rfl, sqT_rd h0, atI_nat (j := 0) rfl, (by show 2 ≤ sizeLine; decide), fun tp ntp => ⟨tp, _, rfl, .inr (SqT.of upd_same), rfl, rfl, _, rfl, ?_⟩⟩
      have S1 := same_new (o := HO.tup [.str "product", .str "choice"]) ntp
      generalize upd H tp (.tup [.str "product", .str "choice"]) = H1 at S1 ⊢
      refine if_f (by decide +kernel) ?_
      refine ⟨_, rfl, a0, _, _, _, rfl, rfl, sqT_rd (upR h0 S1), atI_nat (j := 0) rfl, rfl, _, rfl, if_t (by decide +kernel) ?_⟩
      refine ⟨_, rfl, a0, _, _, _, rfl, rfl, sqT_rd (upR h0 S1), atI_nat (j := 1) rfl, ((n : Nat) : Int), rfl, by omega, by omega, fun M nM => lc_range (n := n) (fun j Hz => Gr H1 M ((List.range j).map fun k => prD (.int (k : Nat), y)) Hz ∧ PrL Hz M (List.replicate j y)) ⟨Gr.start nM, PrL.start⟩ ?_ ?_⟩
      · rintro j Hz hj ⟨gz, pz⟩
        rw [show ((0 : Int) + (j : Nat)) = ((j : Nat) : Int) from Int.zero_add _]
        refine ⟨rfl, ?_⟩
        dsimp only [tYes]
        refine if_t rfl ⟨_, rfl, _, rfl, a0, _, _, y2, rfl, rfl, sqT_rd (upR (upR h0 S1) gz.2.1), atI_nat (j := 2) rfl, (by show 2 ≤ sizeLine; decide), fun t nt => ?_⟩
        have y1 := same_new (o := HO.tup [.int (j : Nat), y2]) nt
        have u1 : upd Hz t (.tup [.int (j : Nat), y2]) t = some (.tup [.int (j : Nat), y2]) := upd_same
        have dz : DatAll (upd Hz t (.tup [.int (j : Nat), y2])) [.ref t] [prD (.int (j : Nat), y)] := .cons (.tup (TP.of u1) (.cons (.int _) (.cons (((dy.same S1).same gz.2.1).same y1) .nil))) .nil
        obtain ⟨xs, hM, hxl, _, g'⟩ := gz.add y1 dz (by
          have := pow_noL (j + 1) y hty
          rw [List.range_succ, List.map_append] at this
          exact noLs_iff.mpr fun d hd => noLs_iff.mp this d (List.mem_append_right _ hd))
        rw [List.length_map, List.length_range] at hxl
        refine ⟨xs, hM, (by rw [sizeLine_eq]; omega), ?_, ?_⟩
        · rw [List.range_succ, List.map_append]
          exact g'
        · rw [List.replicate_succ']
          exact (pz.same y1).add hM (PrV.one (TP.of u1) (((hfy.same S1).same gz.2.1).same y1))
      · rintro Hz ⟨gz, pz⟩
        obtain ⟨xs, h, _, d⟩ := gz.fin
        obtain ⟨xs2, e2, pv⟩ := pz
        rw [h] at e2
        cases e2
        refine k M xs Hz (S1.free nM) (S1.trans gz.2.1) h ?_ (by
          have : (nestS (.pow n y)).map (·.2) = List.replicate n y := by simp [nestS, Function.comp_def, List.map_const']
          rw [this]
          exact pv)
        show DatAll Hz xs (((List.range n).map fun k => (PyData.int (k : Nat), y)).map prD)
        rw [List.map_map]
        exact d
    | dec c xs =>
      have hlx : xs.length = c.length := by
        rw [okS, Bool.and_eq_true, Bool.and_eq_true, Bool.and_eq_true] at hok
        exact of_decide_eq_true hok.2.2.1
      rw [tinyS, Bool.and_eq_true] at hz
      rw [dt] at hv
      cases hv with
      | @tup a0 ps _ h0 hps =>
      obtain ⟨_, v1, v2, rfl, i0, i1, i2⟩ := dat3 hps
      cases i0
      obtain ⟨bc, yc, rfl, hbc, hyc⟩ : ∃ bc yc, v1 = .ref bc ∧ TP H bc yc ∧ DatAll H yc (c.map fun c => .tuple [.str c.1, .int (c.2 : Nat)]) := by
        cases i1 with
        | tup h1 h2 => exact ⟨_, _, rfl, h1, h2⟩
      obtain ⟨b, ys, rfl, hb, hys⟩ : ∃ b ys, v2 = .ref b ∧ TP H b ys ∧ DatAll H ys (dts xs) := by
        cases i2 with
        | tup h1 h2 => exact ⟨_, _, rfl, h1, h2⟩
      have hl := hys.len
      rw [dts_len] at hl
      have hlc : yc.length = c.length := by rw [hyc.len, List.length_map]
      obtain ⟨cl2, cq⟩ := cnts_le hz.1
      refine ⟨_, rfl, a0, _, _, _, rfl, rfl, sqT_rd h0, atI_nat (j := 0) rfl, (by show 2 ≤ sizeLine; decide), fun tp ntp => ⟨tp, _, rfl, .inr (SqT.of upd_same), rfl, rfl, _, rfl, ?_⟩⟩
      have S1 := same_new (o := HO.tup [.str "product", .str "choice"]) ntp
      generalize upd H tp (.tup [.str "product", .str "choice"]) = H1 at S1 ⊢
      refine if_f (by decide +kernel) ?_
      refine ⟨_, rfl, a0, _, _, _, rfl, rfl, sqT_rd (upR h0 S1), atI_nat (j := 0) rfl, rfl, _, rfl, if_f (by decide +kernel) ?_⟩
      refine ⟨(by show 0 ≤ sizeLine; decide), fun L nL => ?_⟩
      have g0 := Gr.start nL
      have p0 := PrL.start (H := H1) (L := L)
      have S2 := same_new (o := HO.lst []) nL
      generalize upd H1 L (.lst []) = H2 at g0 p0 S2 ⊢
      have S := S1.trans S2
      refine ⟨_, rfl, a0, _, _, _, rfl, rfl, sqT_rd (upR h0 S), atI_nat (j := 0) rfl, rfl, _, rfl, if_t (by decide +kernel) ?_⟩
      refine ⟨_, rfl, a0, _, _, _, rfl, rfl, sqT_rd (upR h0 S), atI_nat (j := 1) rfl, _, rfl, a0, _, _, _, rfl, rfl, sqT_rd (upR h0 S), atI_nat (j := 2) rfl, bc, b, yc, ys, rfl, .inr ⟨sqT_rd (upR hbc S), sqT_rd (upR hb S), RZ.for_zipT (K := K) (by rw [hlc, hl, hlx]) (fun i σ Hx => ∃ (w2 w3 : Option V), σ = [some (.ref a0), some (.ref L), w2, w3, none, none] ∧ Gr H1 L (((c.zip xs).take i).flatMap decW) Hx ∧ PrL Hx L (((c.zip xs).take i).flatMap fun p => List.replicate p.1.2 p.2))
        ⟨none, none, rfl, g0, p0⟩ (fun i σ Hx ⟨_, _, _, g, _⟩ => ⟨sqT_rd (upR hbc (S1.trans g.2.1)), sqT_rd (upR hb (S1.trans g.2.1))⟩) ?_ ?_⟩⟩
      · rintro i y1 y2 U σ Hx hi1 hi2 ⟨w2, w3, rfl, g0, p0⟩ nU
        have Su := same_new (o := HO.tup [y1, y2]) nU
        have hU : upd Hx U (.tup [y1, y2]) U = some (.tup [y1, y2]) := upd_same
        have g := g0.same Su
        have pg := p0.same Su
        generalize upd Hx U (.tup [y1, y2]) = Hu at Su hU g pg ⊢
        clear g0 p0
        have SH := S1.trans g.2.1
        refine ⟨U, _, rfl, SqT.of hU, rfl, _, _, rfl, _, _, rfl, rfl, ?_⟩
        obtain ⟨d1, hd1, t1⟩ := hyc.get hi1
        rw [List.getElem?_map] at hd1
        obtain ⟨cc, hcc, rfl⟩ := Option.map_eq_some_iff.mp hd1
        have t1' : Dat H y1 (cntD cc) := t1
        obtain ⟨bp, rfl, hbp⟩ := cnt_at t1'
        have hbp' := upR hbp SH
        have hlt : i < xs.length := by
          have := (List.getElem?_eq_some_iff.mp hi2).1
          omega
        have hxe : xs[i]? = some xs[i] := List.getElem?_eq_getElem hlt
        obtain ⟨y', hy', dy'⟩ := dats_get hys hxe
        rw [hi2] at hy'
        cases hy'
        have dy := dy'.same SH
        have hfx : FzS H y2 xs[i] := by
          rw [FzS] at hfz
          obtain ⟨a', b', z', v1', ys', ea', f1, f2, f3, f4⟩ := hfz
          cases ea'
          have eq1 := h0.uniq f1
          injection eq1 with _ eq1
          injection eq1 with _ eq1
          injection eq1 with eq1 _
          cases eq1
          have eq2 := hb.uniq f3
          subst eq2
          obtain ⟨y, hy, fy⟩ := f4.at hxe
          rw [hi2] at hy
          cases hy
          exact fy
        have hfx := hfx.same SH
        have hte : tinyS xs[i] = true := tiny_mem hz.2 (List.getElem_mem hlt)
        generalize xs[i] = xe at hxe dy dy' hte hfx
        have hzz : (c.zip xs)[i]? = some (cc, xe) := by
          rw [List.getElem?_zip_eq_some]
          exact ⟨hcc, hxe⟩
        have hcq := cq cc (List.mem_of_getElem? hcc)
        obtain ⟨xs0, hL0, _⟩ := g.fin
        refine ⟨_, rfl, .inl ⟨rfl, _, SqL.of hL0⟩, _, rfl, bp, _, _, _, rfl, rfl, sqT_rd hbp', atI_nat (j := 1) rfl, ((cc.2 : Nat) : Int), rfl, by omega, by omega, fun M nM => lc_range (n := cc.2) (fun j Hz => Gr Hu M ((List.range j).map fun j => prD (.tuple [.str cc.1, .int (j : Nat)], xe)) Hz ∧ PrL Hz M (List.replicate j xe)) ⟨Gr.start nM, PrL.start⟩ ?_ ?_⟩
        · rintro j Hz hj ⟨gz, pz⟩
          rw [show ((0 : Int) + (j : Nat)) = ((j : Nat) : Int) from Int.zero_add _]
          refine ⟨rfl, ?_⟩
          dsimp only [tYes]
          refine if_t rfl ⟨_, rfl, bp, _, _, _, rfl, rfl, sqT_rd (upR hbp' gz.2.1), atI_nat (j := 0) rfl, _, rfl, (by show 2 ≤ sizeLine; decide), fun t1 n1 => ⟨_, rfl, (by show 2 ≤ sizeLine; decide), fun t2 n2 => ?_⟩⟩
          have s1 := same_new (o := HO.tup [.str cc.1, .int (j : Nat)]) n1
          have u1 : upd Hz t1 (.tup [.str cc.1, .int (j : Nat)]) t1 = some (.tup [.str cc.1, .int (j : Nat)]) := upd_same
          have s2 := same_new (o := HO.tup [.ref t1, y2]) n2
          have u2 : upd (upd Hz t1 (.tup [.str cc.1, .int (j : Nat)])) t2 (.tup [.ref t1, y2]) t2 = some (.tup [.ref t1, y2]) := upd_same
          have u1 := s2 _ _ u1
          have s12 := s1.trans s2
          generalize upd (upd Hz t1 (.tup [.str cc.1, .int (j : Nat)])) t2 (.tup [.ref t1, y2]) = H4 at u1 u2 s12 ⊢
          have dz : DatAll H4 [.ref t2] [prD (.tuple [.str cc.1, .int (j : Nat)], xe)] := .cons (.tup (TP.of u2) (.cons (.tup (TP.of u1) (.cons (.str _ hcq.2) (.cons (.int _) .nil))) (.cons ((dy.same gz.2.1).same s12) .nil))) .nil
          obtain ⟨xs, hM, hxl, _, g'⟩ := gz.add s12 dz (by
            have := decW_noL ((cc.1, j + 1), xe) hte
            rw [decW_eq, List.range_succ, List.map_append] at this
            exact noLs_iff.mpr fun d hd => noLs_iff.mp this d (List.mem_append_right _ hd))
          rw [List.length_map, List.length_range] at hxl
          refine ⟨xs, hM, (by rw [sizeLine_eq]; omega), ?_, ?_⟩
          · rw [List.range_succ, List.map_append]
            exact g'
          · rw [List.replicate_succ']
            exact (pz.same s12).add hM (PrV.one (TP.of u2) ((hfx.same gz.2.1).same s12))
        · rintro Hz ⟨gz, pz⟩
          obtain ⟨zs, hM, hzl, dz⟩ := gz.fin
          obtain ⟨zs2, e2, pv⟩ := pz
          rw [hM] at e2
          cases e2
          rw [List.length_map, List.length_range] at hzl
          have ed : ((List.range cc.2).map fun j => prD (.tuple [.str cc.1, .int (j : Nat)], xe)) = decW (cc, xe) := (decW_eq (cc, xe)).symm
          rw [ed] at dz
          obtain ⟨xs', hL, hxl, _, g'⟩ := g.add gz.2.1 dz (decW_noL _ hte)
          have hdl := decs_len ((c.zip xs).take i) fun p hp => (cq p.1 (List.of_mem_zip (a := p.1) (b := p.2) (List.mem_of_mem_take hp)).1).1
          rw [List.length_take, List.length_zip] at hdl
          refine ⟨L, M, xs', zs, rfl, rfl, hL, hM, (by rw [sizeLine_eq]; omega), ?_⟩
          refine ⟨_, _, rfl, ?_, ?_⟩
          · rw [List.take_add_one, hzz, List.flatMap_append, show (some (cc, xe)).toList.flatMap decW = decW (cc, xe) by simp]
            exact g'
          · rw [List.take_add_one, hzz, List.flatMap_append, show (some (cc, xe)).toList.flatMap (fun p : (Str × Nat) × S9 => List.replicate p.1.2 p.2) = List.replicate cc.2 xe by simp]
            exact (pg.same gz.2.1).add hL pv
      · rintro σ Hx ⟨w2, w3, rfl, g, pg⟩
        obtain ⟨xs', h, _, d⟩ := g.fin
        obtain ⟨xs2, e2, pv⟩ := pg
        rw [h] at e2
        cases e2
        rw [List.take_of_length_le (by rw [List.length_zip, hlc]; omega)] at d pv
        refine ⟨_, rfl, k L xs' Hx (S1.free nL) (S1.trans g.2.1) h ?_ (by
          have : (nestS (.dec c xs)).map (·.2) = (c.zip xs).flatMap fun p => List.replicate p.1.2 p.2 := by
            show ((c.zip xs).flatMap decS).map (·.2) = _
            rw [List.map_flatMap]
            congr 1
            funext p
            simp [decS, Function.comp_def, List.map_const']
          rw [this]
          exact pv)⟩
        show DatAll Hx xs' (((c.zip xs).flatMap decS).map prD)
        rw [List.map_flatMap]
        exact d
end
end K9
set_option maxRecDepth 100000
set_option maxHeartbeats 4000000
namespace K9
open PySem PySem.Spec PyProof.Rows L2
/-! ### the text of a step tells the step -/
def cl (x : Str) : List Nat := x.cps.toList
theorem cl_app (a b : Str) : cl (a ++ b) = cl a ++ cl b := by
  unfold cl
  rw [Str.cps_append, Array.toList_append]
theorem cl_inj {a b : Str} (h : cl a = cl b) : a = b := by
  cases a
  cases b
  congr 1
  exact Array.toList_inj.mp h
theorem cl_foldl (q : Nat) : ∀ (l : List Nat) (acc : Array Nat), (l.foldl (fun out c => out ++ (Builtin.Str.reprChar q c).toArray) acc).toList = acc.toList ++ l.flatMap (Builtin.Str.reprChar q)
  | [], acc => by simp
  | c :: l, acc => by
    rw [List.foldl_cons, cl_foldl q l, Array.toList_append, List.flatMap_cons, List.append_assoc]
theorem cl_repr (x : Str) : cl (PySem.reprText x) = PySem.reprQuote x :: ((cl x).flatMap (Builtin.Str.reprChar (PySem.reprQuote x)) ++ [PySem.reprQuote x]) := by
  unfold cl PySem.reprText
  rw [Array.toList_push, ← Array.foldl_toList, cl_foldl]
  rfl
theorem quote_or (x : Str) : PySem.reprQuote x = 34 ∨ PySem.reprQuote x = 39 := by
  unfold PySem.reprQuote
  split
  · exact .inl rfl
  · exact .inr rfl
theorem char_cases (c : Nat) : (Builtin.Str.reprChar 39 c = [c] ∧ c ≠ 39) ∨ ∃ t, Builtin.Str.reprChar 39 c = 92 :: t := by
  unfold Builtin.Str.reprChar
  by_cases h : (c == 39 || c == 92) = true
  · exact .inr ⟨_, by rw [if_pos h]⟩
  · rw [if_neg h]
    have hc : c ≠ 39 := fun e => h (by rw [e]; rfl)
    split
    · exact .inr ⟨_, rfl⟩
    split
    · exact .inr ⟨_, rfl⟩
    split
    · exact .inr ⟨_, rfl⟩
    split
    · exact .inl ⟨rfl, hc⟩
    split
    · exact .inr ⟨_, rfl⟩
    split
    · exact .inr ⟨_, rfl⟩
    · exact .inr ⟨_, rfl⟩
theorem letter_le {a : Nat} (h : azB a = true) : 97 ≤ a ∧ a ≤ 122 := by
  rw [az_in] at h
  have z : ∀ x ∈ letters.cps.toList, 97 ≤ x ∧ x ≤ 122 := by decide +kernel
  exact z a (of_decide_eq_true h)
theorem letter_char {a : Nat} (h : azB a = true) : Builtin.Str.reprChar 39 a = [a] := by
  rw [az_in] at h
  have z : ∀ x ∈ letters.cps.toList, Builtin.Str.reprChar 39 x = [x] := by decide +kernel
  exact z a (of_decide_eq_true h)
theorem plain_repr {z : Str} (h : (cl z).all azB = true) : cl (PySem.reprText z) = 39 :: (cl z ++ [39]) := by
  have hq : PySem.reprQuote z = 39 := by
    unfold PySem.reprQuote
    rw [if_neg]
    intro e
    rw [Bool.and_eq_true, Array.contains_iff_mem] at e
    have m : 39 ∈ cl z := by
      unfold cl
      exact Array.mem_toList_iff.mpr e.1
    have := letter_le (List.all_eq_true.mp h 39 m)
    omega
  rw [cl_repr, hq]
  have e : ∀ l : List Nat, l.all azB = true → l.flatMap (Builtin.Str.reprChar 39) = l := by
    intro l
    induction l with
    | nil => intro _; rfl
    | cons a l ih =>
      intro hl
      rw [List.all_cons, Bool.and_eq_true] at hl
      rw [List.flatMap_cons, letter_char hl.1, ih hl.2]
      rfl
  rw [e _ h]
/-- the letters up to the closing quote -/
theorem letters_cut : ∀ (z y r r' : List Nat), z.all azB = true → y.flatMap (Builtin.Str.reprChar 39) ++ 39 :: r = z ++ 39 :: r' → y = z ∧ r = r'
  | [], [], r, r', _, h => by
    injection h with _ h
    exact ⟨rfl, h⟩
  | [], c :: y, r, r', _, h => by
    exfalso
    rw [List.flatMap_cons] at h
    rcases char_cases c with ⟨e, n⟩ | ⟨t, e⟩
    · rw [e] at h
      injection h with h _
      exact n h
    · rw [e] at h
      injection h with h _
      exact absurd h (by decide)
  | a :: z, [], r, r', hz, h => by
    exfalso
    rw [List.all_cons, Bool.and_eq_true] at hz
    have := letter_le hz.1
    injection h with h _
    omega
  | a :: z, c :: y, r, r', hz, h => by
    rw [List.all_cons, Bool.and_eq_true] at hz
    have hl := letter_le hz.1
    rw [List.flatMap_cons] at h
    rcases char_cases c with ⟨e, n⟩ | ⟨t, e⟩
    · rw [e] at h
      have h' : c :: (y.flatMap (Builtin.Str.reprChar 39) ++ 39 :: r) = a :: (z ++ 39 :: r') := h
      injection h' with h1 h2
      obtain ⟨e1, e2⟩ := letters_cut z y r r' hz.2 h2
      exact ⟨by rw [h1, e1], e2⟩
    · rw [e] at h
      injection h with h _
      omega
/-! numbers -/
def dig (c : Nat) : Bool := decide (48 ≤ c) && decide (c ≤ 57)
theorem num_cl (m : Nat) : cl (toString ((m : Nat) : Int)) = (Nat.toDigits 10 m).map Char.toNat := PySem.W.KIN.signs_num m
theorem num_dig (m : Nat) : ∀ c ∈ (Nat.toDigits 10 m).map Char.toNat, dig c = true := by
  intro c hc
  obtain ⟨ch, hch, e⟩ := List.mem_map.mp hc
  have r := PyProof.Rows.digit_range (Nat.isDigit_of_mem_toDigits (by decide) (by decide) hch)
  rw [← e]
  unfold dig
  rw [decide_eq_true r.1, decide_eq_true r.2]
  rfl
theorem num_ne (m : Nat) : (Nat.toDigits 10 m).map Char.toNat ≠ [] := fun e => by
  have z := PySem.W.KIN.val_back m
  rw [e] at z
  have z0 : (0 : Nat) = m := z
  subst z0
  exact absurd e (by decide)
theorem span_eq : ∀ (xs ys r r' : List Nat), (∀ c ∈ xs, dig c = true) → (∀ c ∈ ys, dig c = true) → (∀ c ∈ r.head?, dig c = false) → (∀ c ∈ r'.head?, dig c = false) → xs ++ r = ys ++ r' → xs = ys ∧ r = r'
  | [], [], r, r', _, _, _, _, h => ⟨rfl, h⟩
  | [], y :: ys, r, r', _, hy, hr, _, h => by
    have h' : r = y :: (ys ++ r') := h
    have := hr y (by rw [h']; rfl)
    rw [hy y List.mem_cons_self] at this
    cases this
  | x :: xs, [], r, r', hx, _, _, hr', h => by
    have h' : x :: (xs ++ r) = r' := h
    have := hr' x (by rw [← h']; rfl)
    rw [hx x List.mem_cons_self] at this
    cases this
  | x :: xs, y :: ys, r, r', hx, hy, hr, hr', h => by
    injection h with h1 h2
    obtain ⟨e1, e2⟩ := span_eq xs ys r r' (fun c hc => hx c (List.mem_cons_of_mem _ hc)) (fun c hc => hy c (List.mem_cons_of_mem _ hc)) hr hr' h2
    exact ⟨by rw [h1, e1], e2⟩
theorem neg_cl {i : Int} (h : i < 0) : ∃ r, cl (toString i) = 45 :: r := by
  obtain ⟨m, rfl⟩ : ∃ m : Nat, i = Int.negSucc m := by
    cases i with
    | ofNat m => exact absurd h (by simp)
    | negSucc m => exact ⟨m, rfl⟩
  refine ⟨(Nat.repr (m + 1)).toList.map Char.toNat, ?_⟩
  show (PySem.Str.ofString ("-" ++ Nat.repr (m + 1))).cps.toList = _
  rw [signs_ofString, String.toList_append, List.map_append]
  rfl
theorem from_head : ∀ (ts : List Str) (k : Nat) (acc : Str), ∃ r, cl (textFrom k acc ts) = cl acc ++ r
  | [], _, _ => ⟨[], by rw [List.append_nil]; rfl⟩
  | t :: ts, k, acc => by
    unfold textFrom
    obtain ⟨r, e⟩ := from_head ts (k + 1) (acc ++ (if k > 0 then ", " else "" : String) ++ t)
    rw [e, cl_app, cl_app, List.append_assoc, List.append_assoc]
    exact ⟨_, rfl⟩
/-- a text that begins as a number's does, is an int's -/
theorem shown_num {d : PyData} {j : Nat} {r r' : List Nat} (hr : ∀ c ∈ r.head?, dig c = false) (hr' : ∀ c ∈ r'.head?, dig c = false) (h : cl d.shown ++ r = cl (toString ((j : Nat) : Int)) ++ r') : d = .int (j : Nat) ∧ r = r' := by
  rw [num_cl] at h
  have hf : ∀ (c : Nat) (t : List Nat), cl d.shown = c :: t → dig c = true := fun c t e => by
    rw [e] at h
    cases hz : (Nat.toDigits 10 j).map Char.toNat with
    | nil => exact absurd hz (num_ne j)
    | cons y ys =>
      rw [hz] at h
      injection h with h1 _
      rw [h1]
      exact num_dig j y (by rw [hz]; exact List.mem_cons_self)
  cases d with
  | none => exact absurd (hf 78 _ (by rw [PyData.shown]; rfl)) (by decide)
  | bool b => cases b <;> exact absurd (hf _ _ (by rw [PyData.shown]; rfl)) (by decide)
  | int i =>
    rw [PyData.shown] at h hf
    by_cases hi : i < 0
    · obtain ⟨t, e⟩ := neg_cl hi
      exact absurd (hf 45 t e) (by decide)
    · obtain ⟨m, rfl⟩ : ∃ m : Nat, i = m := ⟨i.toNat, by omega⟩
      rw [num_cl] at h
      obtain ⟨e1, e2⟩ := span_eq _ _ _ _ (num_dig m) (num_dig j) hr hr' h
      refine ⟨?_, e2⟩
      have := congrArg NumText.digitsVal e1
      rw [PySem.W.KIN.val_back, PySem.W.KIN.val_back] at this
      rw [this]
  | str y =>
    have e := cl_repr y
    rcases quote_or y with q | q <;> rw [q] at e <;> exact absurd (hf _ _ (by rw [PyData.shown]; exact e)) (by decide)
  | list ds => exact absurd (hf 91 _ (by rw [PyData.shown]; unfold listText; rw [cl_app, (from_head _ 0 "[").choose_spec]; rfl)) (by decide)
  | tuple ds => exact absurd (hf 40 _ (by rw [PyData.shown]; unfold tupleText; rw [cl_app, cl_app]; rfl)) (by decide)
  | dict kv => exact absurd (hf 123 _ (by rw [PyData.shown]; unfold dictText; rw [cl_app, cl_app]; rfl)) (by decide)
/-! what a step's text says -/
theorem join_two (a b : Str) (l : List Str) : cl (Str.join ", " (a :: b :: l)) = cl a ++ (44 :: 32 :: cl (Str.join ", " (b :: l))) := by
  show cl (a ++ ", " ++ Str.join ", " (b :: l)) = _
  rw [cl_app, cl_app, List.append_assoc]
  rfl
theorem join_head (b : Str) (l : List Str) : ∃ r, cl (Str.join ", " (b :: l)) = cl b ++ r ∧ (l = [] → r = []) ∧ (l ≠ [] → ∃ t, r = 44 :: t) := by
  cases l with
  | nil => exact ⟨[], by rw [List.append_nil]; rfl, fun _ => rfl, fun h => absurd rfl h⟩
  | cons c l => exact ⟨_, join_two b c l, (fun h => by cases h), fun _ => ⟨_, rfl⟩⟩
theorem tup_cl (ts : List Str) : cl (tupleText ts) = 40 :: (cl (Str.join ", " ts) ++ (if ts.length == 1 then [44, 41] else [41])) := by
  unfold tupleText
  rw [cl_app, cl_app]
  split <;> rfl
theorem shown_int_step {d : PyData} {j : Nat} (h : d.shown = (PyData.int (j : Nat)).shown) : d = .int (j : Nat) := by
  refine (shown_num (r := []) (r' := []) (by simp) (by simp) (j := j) ?_).1
  rw [h, PyData.shown]
/-- what begins with a plain quoted text -/
theorem shown_str_step {d : PyData} {z : Str} {r r' : List Nat} (hz : (cl z).all azB = true) (h : cl d.shown ++ r = 39 :: (cl z ++ 39 :: r')) : d = .str z ∧ r = r' := by
  have hf : ∀ (c : Nat) (t : List Nat), cl d.shown = c :: t → c = 39 := fun c t e => by
    rw [e] at h
    injection h
  cases d with
  | none => exact absurd (hf 78 _ (by rw [PyData.shown]; rfl)) (by decide)
  | bool b => cases b <;> exact absurd (hf _ _ (by rw [PyData.shown]; rfl)) (by decide)
  | int i =>
    exfalso
    rw [PyData.shown] at hf
    by_cases hi : i < 0
    · obtain ⟨t, e⟩ := neg_cl hi
      exact absurd (hf 45 t e) (by decide)
    · obtain ⟨m, rfl⟩ : ∃ m : Nat, i = m := ⟨i.toNat, by omega⟩
      cases hq : (Nat.toDigits 10 m).map Char.toNat with
      | nil => exact num_ne m hq
      | cons y ys =>
        have e1 := hf y ys (by rw [num_cl]; exact hq)
        have e2 := num_dig m y (by rw [hq]; exact List.mem_cons_self)
        rw [e1] at e2
        exact absurd e2 (by decide)
  | str y =>
    have e := cl_repr y
    rw [PyData.shown] at h hf
    have hq : PySem.reprQuote y = 39 := hf _ _ e
    rw [hq] at e
    rw [e] at h
    injection h with _ h
    have h : ((cl y).flatMap (Builtin.Str.reprChar 39) ++ [39]) ++ r = cl z ++ 39 :: r' := h
    rw [List.append_assoc] at h
    obtain ⟨e1, e2⟩ := letters_cut (cl z) (cl y) r r' hz h
    exact ⟨by rw [cl_inj e1], e2⟩
  | list ds => exact absurd (hf 91 _ (by rw [PyData.shown]; unfold listText; rw [cl_app, (from_head _ 0 "[").choose_spec]; rfl)) (by decide)
  | tuple ds => exact absurd (hf 40 _ (by rw [PyData.shown, tup_cl])) (by decide)
  | dict kv => exact absurd (hf 123 _ (by rw [PyData.shown]; unfold dictText; rw [cl_app, cl_app]; rfl)) (by decide)
theorem shown_pair_step {d : PyData} {z : Str} {j : Nat} (hz : (cl z).all azB = true) (h : d.shown = (PyData.tuple [.str z, .int (j : Nat)]).shown) : d = .tuple [.str z, .int (j : Nat)] := by
  have e : cl d.shown = 40 :: 39 :: (cl z ++ 39 :: (44 :: 32 :: (cl (toString ((j : Nat) : Int)) ++ [41]))) := by
    rw [h, PyData.shown, tup_cl, PyData.shownAll, PyData.shownAll, PyData.shownAll, PyData.shown, PyData.shown, join_two, plain_repr hz]
    show 40 :: ((39 :: (cl z ++ [39]) ++ 44 :: 32 :: cl (toString ((j : Nat) : Int))) ++ [41]) = _
    simp
  have hf : ∀ (c : Nat) (t : List Nat), cl d.shown = c :: t → c = 40 := fun c t e' => by
    rw [e'] at e
    injection e
  cases d with
  | none => exact absurd (hf 78 _ (by rw [PyData.shown]; rfl)) (by decide)
  | bool b => cases b <;> exact absurd (hf _ _ (by rw [PyData.shown]; rfl)) (by decide)
  | int i =>
    exfalso
    rw [PyData.shown] at hf
    by_cases hi : i < 0
    · obtain ⟨t, e⟩ := neg_cl hi
      exact absurd (hf 45 t e) (by decide)
    · obtain ⟨m, rfl⟩ : ∃ m : Nat, i = m := ⟨i.toNat, by omega⟩
      cases hq : (Nat.toDigits 10 m).map Char.toNat with
      | nil => exact num_ne m hq
      | cons y ys =>
        have e1 := hf y ys (by rw [num_cl]; exact hq)
        have e2 := num_dig m y (by rw [hq]; exact List.mem_cons_self)
        rw [e1] at e2
        exact absurd e2 (by decide)
  | str y =>
    have e := cl_repr y
    rcases quote_or y with q | q <;> rw [q] at e <;> exact absurd (hf _ _ (by rw [PyData.shown]; exact e)) (by decide)
  | list ds => exact absurd (hf 91 _ (by rw [PyData.shown]; unfold listText; rw [cl_app, (from_head _ 0 "[").choose_spec]; rfl)) (by decide)
  | dict kv => exact absurd (hf 123 _ (by rw [PyData.shown]; unfold dictText; rw [cl_app, cl_app]; rfl)) (by decide)
  | tuple ds =>
    rw [PyData.shown, tup_cl] at e
    injection e with _ e
    cases ds with
    | nil =>
      have e' : [41] = 39 :: (cl z ++ 39 :: (44 :: 32 :: (cl (toString ((j : Nat) : Int)) ++ [41]))) := e
      injection e' with e1 _
      exact absurd e1 (by decide)
    | cons a l =>
      rw [PyData.shownAll] at e
      cases l with
      | nil =>
        have e' : cl a.shown ++ [44, 41] = 39 :: (cl z ++ 39 :: (44 :: 32 :: (cl (toString ((j : Nat) : Int)) ++ [41]))) := e
        obtain ⟨_, e2⟩ := shown_str_step hz e'
        injection e2 with _ e2
        injection e2 with e3 _
        exact absurd e3 (by decide)
      | cons b l =>
        rw [PyData.shownAll, join_two] at e
        have hl : ((a.shown :: b.shown :: PyData.shownAll l).length == 1) = false := rfl
        rw [hl, if_neg Bool.false_ne_true, List.append_assoc] at e
        obtain ⟨ea, e2⟩ := shown_str_step hz e
        injection e2 with _ e2
        injection e2 with _ e2
        obtain ⟨r, er, r0, r1⟩ := join_head b.shown (PyData.shownAll l)
        have e3 : cl b.shown ++ (r ++ [41]) = cl (toString ((j : Nat) : Int)) ++ [41] := by
          rw [← List.append_assoc, ← er]
          exact e2
        have hr : ∀ c ∈ (r ++ [41]).head?, dig c = false := by
          intro c hc
          cases l with
          | nil =>
            rw [r0 (by rw [PyData.shownAll])] at hc
            cases hc
            decide
          | cons f l =>
            obtain ⟨t, et⟩ := r1 (by rw [PyData.shownAll]; exact fun z => by cases z)
            rw [et] at hc
            cases hc
            decide
        obtain ⟨eb, e4⟩ := shown_num hr (by intro c hc; cases hc; decide) e3
        cases l with
        | nil => rw [ea, eb]
        | cons f l =>
          obtain ⟨t, et⟩ := r1 (by rw [PyData.shownAll]; exact fun z => by cases z)
          rw [et] at e4
          injection e4 with e5 _
          exact absurd e5 (by decide)
end K9
set_option maxRecDepth 100000
set_option maxHeartbeats 8000000
namespace K9
open PySem PySem.Spec PyProof.Rows L2
/-! ### the part behind a step -/
abbrev s_part_behind : Stmt := top 52
/-- what repr takes -/
def RepOk (d : PyData) : Prop := okInt d ∧ d.depth ≤ 60 ∧ d.shown.length ≤ 10000000
def spBehind : Sp := fun vs H Q _ => ∃ (v x : V) (s : S9) (d : PyData), vs = [v, x] ∧ Dat H v (dt s) ∧ Dat H x d ∧ okS s = true ∧ tinyS s = true ∧ FzS H v s ∧ RepOk d ∧
  (∀ H', Same H H' → nextS s d = none → Q .non H') ∧ ∀ (u : V) (e : S9) (H' : Hp), Same H H' → nextS s d = some e → Dat H' u (dt e) → FzS H' u e → Q u H'
/-- the steps: indices, and letters with indices -/
def StepL (d : PyData) : Prop := (∃ k : Nat, k ≤ 3 ∧ d = .int (k : Nat)) ∨ ∃ (z : Str) (j : Nat), nameS z = true ∧ j ≤ 2 ∧ d = .tuple [.str z, .int (j : Nat)]
theorem nest_step {s : S9} (ht : tinyS s = true) {d : PyData} {e : S9} (h : (d, e) ∈ nestS s) : StepL d := by
  cases s with
  | leaf l => cases h
  | row c xs =>
    obtain ⟨j, e1, e2⟩ := (enum_get xs 0 d e).mp h
    rw [tinyS, Bool.and_eq_true] at ht
    have hl := of_decide_eq_true ht.1
    have := (List.getElem?_eq_some_iff.mp e2).1
    exact .inl ⟨0 + j, by omega, e1⟩
  | pow n x =>
    obtain ⟨k, hk, he⟩ := List.mem_map.mp h
    cases he
    rw [tinyS, Bool.and_eq_true] at ht
    have hl := of_decide_eq_true ht.1
    have := List.mem_range.mp hk
    exact .inl ⟨k, by omega, rfl⟩
  | dec cs xs =>
    obtain ⟨q, hq, hq2⟩ := List.mem_flatMap.mp h
    obtain ⟨_, j, hj, rfl⟩ := dec_mem.mp hq2
    rw [tinyS, Bool.and_eq_true] at ht
    have hc := ht.1
    unfold cntsZ at hc
    rw [Bool.and_eq_true, List.all_eq_true] at hc
    have hm := hc.2 q.1 (List.of_mem_zip (a := q.1) (b := q.2) hq).1
    rw [Bool.and_eq_true] at hm
    have := of_decide_eq_true hm.1
    exact .inr ⟨_, j, hm.2, by omega, rfl⟩
theorem nameS_all {z : Str} (h : nameS z = true) : (cl z).all azB = true ∧ z.length ≤ 6 := by
  unfold nameS at h
  rw [Bool.and_eq_true, Bool.and_eq_true] at h
  exact ⟨h.2, by have := of_decide_eq_true h.1.2; omega⟩
theorem step_tells {o d : PyData} (h : StepL o) : d.shown = o.shown ↔ d = o := by
  constructor
  · intro e
    rcases h with ⟨k, _, rfl⟩ | ⟨z, j, hz, _, rfl⟩
    · exact shown_int_step e
    · exact shown_pair_step (nameS_all hz).1 e
  · rintro rfl
    rfl
theorem small_shown (k : Nat) (h : k ≤ 3) : (toString ((k : Nat) : Int) : Str).length = 1 := by
  have z : ∀ k : Fin 4, (Str.ofString (toString ((k.val : Nat) : Int))).length = 1 := by decide +kernel
  exact z ⟨k, by omega⟩
theorem len_cl (x : Str) : x.length = (cl x).length := by
  unfold cl
  rw [Array.length_toList]
  rfl
theorem okInt_small (k : Nat) (h : k ≤ 3) : okInt (.int (k : Nat)) := by
  have p : 10 ≤ 10 ^ 4300 := Nat.le_self_pow (by decide) 10
  simp only [okInt]
  omega
theorem step_rep {o : PyData} (h : StepL o) : okInt o ∧ o.depth ≤ 64 ∧ o.shown.length ≤ sizeLine := by
  rcases h with ⟨k, hk, rfl⟩ | ⟨z, j, hz, hj, rfl⟩
  · refine ⟨?_, by simp [PyData.depth], ?_⟩
    · exact okInt_small k hk
    · rw [PyData.shown, small_shown k hk]
      decide
  · refine ⟨?_, by simp [PyData.depth, PyData.depthAll], ?_⟩
    · simp only [okInt, okInts]
      exact ⟨trivial, by simpa only [okInt] using okInt_small j (by omega), trivial⟩
    · have hl := small_shown j (by omega)
      rw [len_cl, PyData.shown, tup_cl, PyData.shownAll, PyData.shownAll, PyData.shownAll, PyData.shown, PyData.shown, join_two, plain_repr (nameS_all hz).1]
      have e1 : (cl z).length ≤ 6 := by
        rw [← len_cl]
        exact (nameS_all hz).2
      have e2 : (cl (Str.join ", " [toString ((j : Nat) : Int)])).length = 1 := by
        show (cl (toString ((j : Nat) : Int))).length = 1
        rw [← len_cl]
        exact hl
      rw [sizeLine_eq]
      simp only [List.length_cons, List.length_append, e2, List.length_nil]
      split <;> simp <;> omega
theorem nest_get {s : S9} {j : Nat} {x : V} {H : Hp} {xs : List V} (hx : DatAll H xs (nestD s)) (h : xs[j]? = some x) : ∃ o e, (nestS s)[j]? = some (o, e) ∧ Dat H x (.tuple [o, dt e]) := by
  obtain ⟨d, hd, t⟩ := hx.get h
  unfold nestD at hd
  rw [List.getElem?_map] at hd
  cases hz : (nestS s)[j]? with
  | none =>
    rw [hz] at hd
    cases hd
  | some p =>
    rw [hz] at hd
    cases hd
    exact ⟨p.1, p.2, rfl, t⟩
section
variable {P : Program} {w : World} {K : PySem.W.Frag} {mg : Str → Option Value} {base : Heap}
theorem sc_part_behind : FnScope ["_law_part", "_law_step", "_law_own", "_law_inner"] ["_law_part", "_law_step"] (defScope s_part_behind) := ⟨rfl, rfl, rfl, by decide +kernel, rfl, by decide +kernel, by decide +kernel⟩
theorem okl_behind {f fN : Addr} {fd fdN : FuncData} (F : Fun K "_law_part_behind" "_law_part_behind" s_part_behind f fd) (T : Nm mg) (D : DefOk K mg "_law_nested" s_nested ["_law_part"] fN fdN) (eS : PySem.W.nsIn K cStatics "sys.int_max_str_digits" = some none) : FnG P w K mg base 4 f fd ["_law_part", "_law_step"] spBehind := by
  have GN : FnOk P w K mg base CX0 1 fN fdN ["_law_part"] spNested := ok_nested D.F T
  refine F.okG sc_part_behind (fun vs H Q E h => ?_) (fun cdv A outer s H vs Q E hg hr h => ?_)
  · obtain ⟨v, x, s, d, rfl, _⟩ := h
    rfl
  · obtain ⟨v, x, sp, d, rfl, hv, hx, hok, hty, hfz, ⟨r1, r2, r3⟩, q0, q1⟩ := h
    have hr1 : Room 1 _ := hr.mono (by decide)
    have hu : (A.deeper (envOfC "_law_part_behind" (defScope s_part_behind) s.heap.objs.size f cdv)).units + 128 < cLine := by
      have := hr.un
      omega
    refine ⟨_, (pss_cons (ps_for PassesOwn.never rfl (pi_list (pe_call GN hr1 rfl D.g D.F.kp D.b .nil pass0 (pa_cons (pv 0) pa_nil))) (pg_tup rfl (pgs_cons (pg_name (i := 2) sc_part_behind.nd rfl (Or.inl rfl)) (pgs_cons (pg_name (i := 3) sc_part_behind.nd rfl (Or.inl rfl)) pgs_nil)))
        (pss_one (ps_if (pt_cmpR op_eq (pe_callB (call_reprD hg hu eS) (by rfl) T.repr (by decide +kernel) (pa_cons (pv 2) pa_nil)) (pe_callB (call_reprD hg hu eS) (by rfl) T.repr (by decide +kernel) (pa_cons (pv 1) pa_nil)) (nomark _))
          (pss_one (ps_ret (pv 3)))
          pss_nil)))
      (pss_one (ps_ret pe_non))), ?_⟩
    refine ⟨_, rfl, v, sp, rfl, hv, hok, hty, hfz, fun L xs H1 nL S1 hL hxs hpr => ⟨L, rfl, ⟨_, SqL.of hL⟩, ?_⟩⟩
    have hxl : xs.length = (nestS sp).length := by
      rw [hxs.len]
      unfold nestD
      rw [List.length_map]
    refine for_list (K := K) (xs := xs) (fun i σ Hx => ∃ (w2 w3 : Option V), σ = [some v, some x, w2, w3] ∧ Same H1 Hx ∧ ∀ j, j < i → ∀ o e, (nestS sp)[j]? = some (o, e) → o ≠ d) ⟨none, none, rfl, Same.refl H1, fun j h => absurd h (Nat.not_lt_zero _)⟩ (fun i σ Hx _ ⟨_, _, _, S, _⟩ => SqL.of (S _ _ hL)) ?_ ?_
    · rintro i y σ Hx hyi ⟨w2, w3, rfl, S, no⟩
      obtain ⟨o, e, hoe, dy⟩ := nest_get hxs hyi
      obtain ⟨a, ys, rfl, ha, hys⟩ := dat_tup dy
      obtain ⟨y0, y1, rfl, c0, c1⟩ := dat_two hys
      have hf1 : FzS H1 y1 e := by
        obtain ⟨t, w', y', g1, g2, g3⟩ := hpr.2 i e (by rw [List.getElem?_map, hoe]; rfl)
        rw [hyi] at g1
        injection g1 with g1
        injection g1 with g1
        subst g1
        have eq := ha.uniq g2
        injection eq with _ eq
        injection eq with eq _
        subst eq
        exact g3
      have hst := nest_step hty (List.mem_of_getElem? hoe)
      obtain ⟨k1, k2, k3⟩ := step_rep hst
      refine ⟨a, _, rfl, sqT_rd (upR ha S), rfl, _, _, rfl, _, _, rfl, rfl, ?_⟩
      refine ⟨_, rfl, y0, o, rfl, c0.same S, k1, k2, k3, _, rfl, x, d, rfl, (hx.same S1).same S, r1, by omega, by rw [sizeLine_eq]; omega, rfl, _, rfl, ?_⟩
      cases hc : decide (V.str o.shown = V.str d.shown) with
      | true =>
        have he : o.shown = d.shown := V.str.inj (of_decide_eq_true hc)
        have hod : d = o := (step_tells hst).mp he.symm
        subst hod
        exact if_t rfl ⟨_, rfl, q1 y1 e Hx (S1.trans S) ((next_iff sp d e (okS_d hok)).mpr (List.mem_of_getElem? hoe)) (c1.same S) (hf1.same S)⟩
      | false =>
        refine if_f rfl ⟨_, _, rfl, S, fun j hj o' e' h => ?_⟩
        by_cases hji : j < i
        · exact no j hji o' e' h
        · obtain rfl : j = i := by omega
          rw [hoe] at h
          cases h
          rintro rfl
          rw [decide_eq_true rfl] at hc
          cases hc
    · rintro σ Hx ⟨w2, w3, rfl, S, no⟩
      refine q0 Hx (S1.trans S) ?_
      cases h : nextS sp d with
      | none => rfl
      | some e =>
        exfalso
        obtain ⟨j, hj⟩ := List.mem_iff_getElem?.mp ((next_iff sp d e (okS_d hok)).mp h)
        have hjl := (List.getElem?_eq_some_iff.mp hj).1
        exact no j (by omega) d e hj rfl
end
end K9
set_option maxRecDepth 100000
set_option maxHeartbeats 8000000
namespace K9
open PySem PySem.Spec PyProof.Rows L2
/-! ### questions of words and decorated spaces, in the law's words -/
abbrev s_is_row_query : Stmt := top 53
def bd (t : Tops) (z : Str) : Int := match t.lookup z with
  | some m => m + 1
  | none => 0
def one (B : Int) : List PyData → Bool
  | [a] => btw 0 (B - 1) a
  | _ => false
theorem btw_neg {a : PyData} {B : Int} (h : B ≤ 0) : btw 0 (B - 1) a = false := by
  cases e : btw 0 (B - 1) a with
  | false => rfl
  | true =>
    obtain ⟨i, _, h1, h2⟩ := btw_int e
    omega
theorem takes_bd (t : Tops) (z : Str) (as : List PyData) : takesB t z as = one (bd t z) as := by
  unfold takesB bd
  cases t.lookup z with
  | none =>
    match as with
    | [] => rfl
    | [a] => exact (btw_neg (Int.le_refl 0)).symm
    | _ :: _ :: _ => rfl
  | some m =>
    match as with
    | [] => rfl
    | [a] =>
      show btw 0 m a = btw 0 (m + 1 - 1) a
      rw [Int.add_sub_cancel]
    | _ :: _ :: _ => rfl
/-- the dict of bounds -/
def kvB (t : Tops) : List (Key × V) := t.map fun p => (.inr p.1, .int (p.2 + 1))
theorem kvB_get : ∀ (t : Tops) (z : Str), (valV (kvB t) (.inr z)).getD (.int 0) = .int (bd t z)
  | [], z => rfl
  | p :: t, z => by
    have e : bd (p :: t) z = if z = p.1 then p.2 + 1 else bd t z := by
      unfold bd
      rw [List.lookup]
      by_cases h : z = p.1
      · rw [show (z == p.1) = true by rw [h]; exact beq_self_eq_true _, if_pos h]
      · rw [beq_eq_false_iff_ne.mpr h, if_neg h]
    unfold kvB
    rw [List.map_cons, e]
    by_cases h : z = p.1
    · rw [if_pos h, valV_pos (by rw [h])]
      rfl
    · rw [if_neg h, valV_neg (fun e => h (by injection e with e; exact e.symm))]
      exact kvB_get t z
/-- len(words) == 2 and is_index(words[1], bound) -/
theorem fin_two {K : PySem.W.Frag} {σ : L2.St} {H : Hp} {i : Nat} {b : Addr} {xs : List V} {z : Str} {as : List PyData} {B : Int} {tB : TE} {Q : VK} (hb : TP H b xs) (hx : DatAll H xs (.str z :: as)) (hi : σ[i]? = some (some (.ref b)))
    (ht : ∀ R : VK, (∀ H', Same H H' → R (.int B) H') → tB σ H R) (q : ∀ H', Same H H' → Q (.bl (one B as)) H') :
    tAndV (tOp rEq (tCB (rLenS K) (tCons (tVar i) tNil)) (tC (.int 2))) (tCall spIdx [] E0 (tCons (tOp (rIxT K) (tVar i) (tC (.int 1))) (tCons tB tNil))) σ H Q := by
  cases hx with
  | @cons x0 xs' _ _ c0 cs =>
    have hl := cs.len
    refine ⟨_, hi, b, _, rfl, .inr (sqT_rd hb), rfl, _, rfl, ?_⟩
    match as, xs', cs, q with
    | [], [], _, q => exact if_f rfl (q H (Same.refl H))
    | [a], [x], .cons da .nil, q =>
      refine if_t rfl ⟨_, hi, b, _, _, x, rfl, rfl, sqT_rd hb, atI_nat (j := 1) rfl, ?_⟩
      refine ht _ fun H' S => ⟨x, a, B, rfl, da.same S, fun H2 S2 => q H2 (S.trans S2)⟩
    | a :: a2 :: as, x :: x2 :: xs', _, q =>
      refine if_f (decide_eq_false fun y => ?_) (q H (Same.refl H))
      have := V.int.inj y
      simp only [List.length_cons] at this
      omega
theorem merge_new : ∀ (more kvs : List (Key × V)), ((kvs ++ more).map (·.1)).Nodup → mergeK kvs more = kvs ++ more
  | [], kvs, _ => by rw [List.append_nil]; rfl
  | p :: more, kvs, h => by
    have hn : valV kvs p.1 = none := by
      cases e : valV kvs p.1 with
      | none => rfl
      | some v =>
        exfalso
        unfold valV at e
        obtain ⟨q, hq, _⟩ := Option.map_eq_some_iff.mp e
        have hm := List.mem_of_find?_eq_some hq
        have he : q.1 = p.1 := by simpa using List.find?_some hq
        rw [List.map_append, List.nodup_append] at h
        exact h.2.2 q.1 (List.mem_map_of_mem hm) p.1 (List.mem_map_of_mem List.mem_cons_self) he
    show mergeK (putK kvs p.1 p.2) more = _
    rw [putK_new p.2 hn, merge_new more (kvs ++ [(p.1, p.2)]) (by rw [List.append_assoc]; exact h), List.append_assoc]
    rfl
def kvC (cs : Cn) : List (Key × V) := cs.map fun c => (.inr c.1, .int (c.2 : Nat))
theorem kvC_merge {cs : Cn} (h : (cs.map (·.1)).Nodup) : mergeK [] (kvC cs) = kvC cs := by
  rw [merge_new]
  · rfl
  · rw [List.nil_append]
    unfold kvC
    rw [List.map_map]
    have e : cs.map ((fun x : Key × V => x.1) ∘ fun c => (Sum.inr c.1, V.int (c.2 : Nat))) = (cs.map (·.1)).map Sum.inr := by
      rw [List.map_map]
      rfl
    rw [e]
    exact List.pairwise_map.mpr (h.imp fun hne e => hne (by injection e))
theorem kvC_sum (cs : Cn) : (kvC cs).map (·.2) = (cs.map fun c => (c.2 : Int)).map V.int := by
  unfold kvC
  rw [List.map_map, List.map_map]
  rfl
theorem kvC_get {cs : Cn} (z : Str) : valV (kvC cs) (.inr z) = (cs.lookup z).map fun n => V.int (n : Nat) := by
  induction cs with
  | nil => rfl
  | cons p t ih =>
    unfold kvC
    rw [List.map_cons, List.lookup]
    by_cases h : z = p.1
    · rw [show (z == p.1) = true by rw [h]; exact beq_self_eq_true _]
      exact valV_pos (by rw [h])
    · rw [beq_eq_false_iff_ne.mpr h]
      rw [valV_neg (fun e => h (by injection e with e; exact e.symm))]
      exact ih
theorem sel_lookup : ∀ {cs : Cn}, (cs.map (·.1)).Nodup → ∀ (y : Str) (o : PyData), selB cs (.str y) o = match cs.lookup y with
    | some n => btw 0 ((n : Nat) - 1) o
    | none => false
  | [], _, y, o => rfl
  | c :: cs, h, y, o => by
    rw [List.map_cons, List.nodup_cons] at h
    have ih := sel_lookup h.2 y o
    show (eqStr c.1 (.str y) && btw 0 ((c.2 : Int) - 1) o || selB cs (.str y) o) = _
    rw [List.lookup]
    have e : eqStr c.1 (.str y) = (y == c.1) := rfl
    rw [e]
    by_cases hy : y = c.1
    · subst hy
      rw [beq_self_eq_true, Bool.true_and]
      have : selB cs (.str c.1) o = false := by
        rw [ih]
        cases hl : cs.lookup c.1 with
        | none => rfl
        | some n =>
          exfalso
          have : ∀ l : Cn, l.lookup c.1 = some n → c.1 ∈ l.map (·.1) := by
            intro l
            induction l with
            | nil => intro hh; cases hh
            | cons p l ihl =>
              intro hh
              rw [List.lookup] at hh
              by_cases hp : c.1 = p.1
              · rw [List.map_cons, hp]
                exact List.mem_cons_self
              · rw [beq_eq_false_iff_ne.mpr hp] at hh
                exact List.mem_cons_of_mem _ (ihl hh)
          exact h.1 (this cs hl)
      rw [this, Bool.or_false]
    · rw [beq_eq_false_iff_ne.mpr hy, Bool.false_and, Bool.false_or]
      exact ih
theorem cnts_pairs {K : PySem.W.Frag} {H : Hp} : ∀ {cs : Cn} {xs : List V}, DatAll H xs (cs.map cntD) → ∃ ps : List Addr, xs = ps.map V.ref ∧ Paired (fun p kv => SqT K H p [kV kv.1, kv.2]) ps (kvC cs)
  | [], _, .nil => ⟨[], rfl, .nil⟩
  | c :: cs, _, .cons t ts => by
    obtain ⟨b, rfl, hb⟩ := cnt_at t
    obtain ⟨ps, rfl, h⟩ := cnts_pairs (K := K) ts
    exact ⟨b :: ps, rfl, .cons (sqT_rd hb) h⟩
def spRowQ : Sp := fun vs H Q _ => ∃ (a0 b : Addr) (z0 : Str) (v1 : V) (ps xs : List V) (cs : Cn) (z : Str) (as : List PyData), vs = [.ref a0, .ref b] ∧ TP H a0 (.str z0 :: v1 :: ps) ∧ Dat H v1 (cntsD cs) ∧ Fz H v1 ∧ (cs.map (·.1)).Nodup ∧ cs.length ≤ 100 ∧ TP H b xs ∧ DatAll H xs (.str z :: as) ∧ ∀ H', Same H H' → Q (.bl (wordB cs z as)) H'
section
variable {P : Program} {w : World} {K : PySem.W.Frag} {mg : Str → Option Value} {base : Heap}
theorem sc_is_row_query : FnScope ["_law_part", "_law_words", "_law_counts_here", "_law_n", "_law_bounds"] ["_law_part", "_law_words"] (defScope s_is_row_query) := ⟨rfl, rfl, rfl, by decide +kernel, rfl, by decide +kernel, by decide +kernel⟩
theorem okl_row {f fI : Addr} {fd fdI : FuncData} (F : Fun K "_law_is_row_query" "_law_is_row_query" s_is_row_query f fd) (T : Nm mg) (D : DefOk K mg "_law_is_index" s_is_index ["_law_given", "_law_bound"] fI fdI) : FnOk P w K mg base CX0 2 f fd ["_law_part", "_law_words"] spRowQ := by
  have GI : FnOk P w K mg base CX0 1 fI fdI ["_law_given", "_law_bound"] spIdx := okl_index D.F T
  refine F.ok sc_is_row_query (fun vs H Q E h => ?_) (fun cdv A outer s H vs Q E hr h => ?_)
  · obtain ⟨a0, b, z0, v1, ps, xs, cs, z, as, rfl, _⟩ := h
    rfl
  · obtain ⟨a0, b, z0, v1, ps, xs, cs, z, as, rfl, h0, hv1, hfz, hnd, hc, hb, hx, q⟩ := h
    have hu1 := hu_of hr
    refine ⟨_, (pss_cons (ps_set (i := 2) sc_is_row_query.nd rfl (Or.inl rfl) (pe_callTy (call_dictF rfl) (by rfl) T.dict (by decide +kernel) (pa_cons (pe_ix ix_tup (pv 0) pe_int (fun _ _ => rfl)) pa_nil)))
      (pss_cons (ps_if (pt_cmpR op_eq (pe_ix ix_tup (pv 1) pe_int (fun _ _ => rfl)) pe_str (nomark _))
        (pss_cons (ps_if (PW.pt (pw_or (pt_cmpR op_ne (pe_callB cr_lenS (by rfl) T.len PySem.boot_len (pa_cons (pv 1) pa_nil)) pe_int (nomark _)) (pw_or1 (pt_not (pt_val (pe_callB call_isi (by rfl) T.isinstance boot_isinstance (pa_cons (pe_ix ix_tup (pv 1) pe_int (fun _ _ => rfl)) (pa_cons (pe_bltn (v := .ty "str") rfl T.str (by decide +kernel) rfl) pa_nil))))))))
          (pss_one (ps_ret pe_bl))
          pss_nil)
        (pss_one (ps_ret (pe_and (pe_cmp (pc_din hu1 (pe_ix ix_tup (pv 1) pe_int (fun _ _ => rfl)) (pv 2)) rfl) (pe_one (pe_call GI hr rfl D.g D.F.kp D.b .nil pass0 (pa_cons (pe_ix ix_tup (pv 1) pe_int (fun _ _ => rfl)) (pa_cons (pe_dget hu1 (pv 2) (pe_ix ix_tup (pv 1) pe_int (fun _ _ => rfl)) (fun _ _ => rfl)) pa_nil))))))))
        pss_nil)
      (pss_cons (ps_set (i := 3) sc_is_row_query.nd rfl (Or.inl rfl) (pe_callB (cr_sum rfl) (by rfl) T.sum boot_sum (pa_cons (pe_listVals rfl (pv 2) (by rfl) T.list (by decide +kernel)) pa_nil)))
      (pss_cons (ps_set (i := 4) sc_is_row_query.nd rfl (Or.inl rfl) (pe_disp (pps_cons pe_str (pv 3) (pps_cons pe_str (pe_op op_add (pv 3) pe_int) (pps_cons pe_str (pv 3) pps_nil))) (by rfl) (by rfl) (fun z => by cases z) (by decide)))
      (pss_one (ps_ret (pe_and (pe_cmpR op_eq (pe_callB cr_lenS (by rfl) T.len PySem.boot_len (pa_cons (pv 1) pa_nil)) pe_int (nomark _)) (pe_one (pe_call GI hr rfl D.g D.F.kp D.b .nil pass0 (pa_cons (pe_ix ix_tup (pv 1) pe_int (fun _ _ => rfl)) (pa_cons (pe_dget2 hu1 (pv 4) (pe_ix ix_tup (pv 1) pe_int (fun _ _ => rfl)) pe_int ⟨rfl, rfl, rfl, rfl⟩) pa_nil))))))))))), ?_⟩
    obtain ⟨ac, o, xc, rfl, hac, hno⟩ := hfz
    obtain ⟨a', xc', ea, hT, hxc⟩ := dat_tup (show Dat H (.ref ac) (.tuple (cs.map cntD)) from hv1)
    cases ea
    have exc := hT.uniq (TP.fz hac hno)
    subst exc
    obtain ⟨pp, rfl, hpp⟩ := cnts_pairs (K := K) hxc
    refine ⟨_, rfl, a0, _, _, _, rfl, rfl, sqT_rd h0, atI_nat (j := 1) rfl, ac, o, pp, kvC cs, rfl, hac, hno, hpp, fun dA nA => ?_⟩
    rw [kvC_merge hnd]
    have S1 := same_new (o := HO.dK (kvC cs)) nA
    have hA : upd H dA (.dK (kvC cs)) dA = some (.dK (kvC cs)) := upd_same
    generalize upd H dA (.dK (kvC cs)) = H1 at S1 hA ⊢
    have q1 := fun H' S' => q H' (S1.trans S')
    have hb1 := upR hb S1
    have hx1 := hx.same S1
    obtain ⟨x0, xs', exs⟩ : ∃ x0 xs', xs = x0 :: xs' := by
      cases hx with
      | cons c t => exact ⟨_, _, rfl⟩
    subst exs
    obtain ⟨c0, ct⟩ : Dat H1 x0 (.str z) ∧ DatAll H1 xs' as := by
      cases hx1 with
      | cons c t => exact ⟨c, t⟩
    cases c0
    have hl := ct.len
    refine ⟨_, rfl, b, _, _, _, rfl, rfl, sqT_rd hb1, atI_nat (j := 0) rfl, rfl, _, rfl, ?_⟩
    rw [dec_str]
    cases hz : decide (z = "select") with
    | true =>
      have hz' := of_decide_eq_true hz
      refine if_t rfl ⟨_, rfl, b, _, rfl, .inr (sqT_rd hb1), rfl, _, rfl, ?_⟩
      have ew : ∀ as', wordB cs z as' = if as'.length = 2 then selB cs (as'.getD 0 .none) (as'.getD 1 .none) else false := by
        intro as'
        unfold wordB
        rw [hz, Bool.true_and]
        by_cases h2 : as'.length = 2
        · rw [if_pos (decide_eq_true h2), if_pos h2]
        · rw [if_neg (by rw [decide_eq_false h2]; exact Bool.false_ne_true), if_neg h2]
          subst hz'
          cases as' with
          | nil => rfl
          | cons a as' => cases as' <;> rfl
      match as, xs', ct, hl, q1 with
      | [], [], _, _, q1 =>
        refine if_t rfl (if_t rfl ?_)
        have z1 := q1 H1 (Same.refl H1)
        rw [ew] at z1
        exact z1
      | [a], [x], _, _, q1 =>
        refine if_t rfl (if_t rfl ?_)
        have z1 := q1 H1 (Same.refl H1)
        rw [ew] at z1
        exact z1
      | [l, o2], [xl, xo], .cons dl (.cons dO .nil), _, q1 =>
        refine if_f rfl ⟨_, rfl, b, _, _, xl, rfl, rfl, sqT_rd hb1, atI_nat (j := 1) rfl, xl, .ty "str", _, _, _, rfl, .ty _, dl.ty, kit_str _ l, _, rfl, ?_⟩
        have z0 := fun H' S' => q1 H' S'
        simp only [ew] at z0
        have z1 : ∀ H', Same H1 H' → Q (.bl (selB cs l o2)) H' := z0
        cases hs : isStr l with
        | false =>
          refine if_t rfl ?_
          have e : selB cs l o2 = false := by
            unfold selB
            rw [List.any_eq_false]
            intro c _
            have : eqStr c.1 l = false := by
              cases l with
              | str y => cases hs
              | _ => rfl
            rw [this, Bool.false_and]
            exact Bool.false_ne_true
          have z2 := z1 H1 (Same.refl H1)
          rw [e] at z2
          exact z2
        | true =>
          obtain ⟨y, rfl⟩ : ∃ y, l = .str y := by
            cases l with
            | str y => exact ⟨y, rfl⟩
            | _ => cases hs
          cases dl
          refine if_f rfl ?_
          have ey : selB cs (.str y) o2 = _ := sel_lookup hnd y o2
          refine ⟨_, rfl, b, _, _, _, rfl, rfl, sqT_rd hb1, atI_nat (j := 1) rfl, _, rfl, dA, _, rfl, DGet.k (k := .inr y) hA, _, rfl, ?_⟩
          rw [kvC_get]
          cases hlk : cs.lookup y with
          | none =>
            rw [hlk] at ey
            have z2 := z1 H1 (Same.refl H1)
            rw [ey] at z2
            exact if_f rfl z2
          | some n =>
            rw [hlk] at ey
            refine if_t rfl ⟨_, rfl, b, _, _, xo, rfl, rfl, sqT_rd hb1, atI_nat (j := 2) rfl, _, rfl, _, rfl, b, _, _, _, rfl, rfl, sqT_rd hb1, atI_nat (j := 1) rfl, dA, .int (n : Nat), rfl, ?_, xo, o2, ((n : Nat) : Int), rfl, dO, fun H' S' => ?_⟩
            · have g := DGet.k (k := .inr y) hA
              rw [kvC_get, hlk] at g
              exact g
            · have z2 := z1 H' S'
              rw [ey] at z2
              exact z2
      | a :: a2 :: a3 :: as, x :: x2 :: x3 :: xs', _, _, q1 =>
        refine if_t (by
          show (!decide _) = true
          rw [decide_eq_false]
          · rfl
          · intro y
            have := V.int.inj y
            simp only [List.length_cons] at this
            omega) (if_t rfl ?_)
        have z1 := q1 H1 (Same.refl H1)
        rw [ew, if_neg (by simp)] at z1
        exact z1
    | false =>
      refine if_f rfl ⟨_, rfl, dA, _, rfl, hA, fun L nL => ⟨L, cs.map fun c => (c.2 : Int), rfl, (by rw [← kvC_sum]; exact SqL.of upd_same), ?_⟩⟩
      have S2 := same_new (o := HO.lst ((kvC cs).map (·.2))) nL
      generalize upd H1 L (.lst ((kvC cs).map (·.2))) = H2 at S2 ⊢
      refine fun p np => ⟨_, rfl, _, rfl, _, _, rfl, rfl, _, rfl, upd_same, kvB [("letter", totC cs - 1), ("prefix", totC cs), ("entry", totC cs - 1)], ?_, (by show 3 ≤ 15; decide), ?_⟩
      · show _ = [(V.str "letter", V.int (totC cs - 1 + 1)), (V.str "prefix", V.int (totC cs + 1)), (V.str "entry", V.int (totC cs - 1 + 1))]
        rw [Int.sub_add_cancel]
        rfl
      have S3 := disp_same (o := .dK (mergeK [] (kvB [("letter", totC cs - 1), ("prefix", totC cs), ("entry", totC cs - 1)]))) np
      have hp : upd (upd H2 p (.dK [])) p (.dK (mergeK [] (kvB [("letter", totC cs - 1), ("prefix", totC cs), ("entry", totC cs - 1)]))) p = some (.dK (kvB [("letter", totC cs - 1), ("prefix", totC cs), ("entry", totC cs - 1)])) := upd_same
      generalize upd (upd H2 p (.dK [])) p (.dK (mergeK [] (kvB [("letter", totC cs - 1), ("prefix", totC cs), ("entry", totC cs - 1)]))) = H3 at S3 hp ⊢
      have S13 := S2.trans S3
      refine fin_two (i := 1) (z := z) (as := as) (B := bd [("letter", totC cs - 1), ("prefix", totC cs), ("entry", totC cs - 1)] z) (upR hb1 S13) (hx1.same S13) rfl (fun R hR => ?_) fun H' S' => ?_
      · refine ⟨_, rfl, p, rfl, .inl ⟨_, .inl hp⟩, _, rfl, b, _, _, _, rfl, rfl, sqT_rd (upR hb1 S13), atI_nat (j := 0) rfl, _, DGet.k (k := .inr z) hp, ?_⟩
        rw [kvB_get]
        exact hR H3 (Same.refl H3)
      · have z1 := q1 H' (S13.trans S')
        unfold wordB at z1
        rw [hz, Bool.false_and, if_neg Bool.false_ne_true, takes_bd] at z1
        exact z1
end
end K9
set_option maxRecDepth 100000
set_option maxHeartbeats 8000000
namespace K9
open PySem PySem.Spec PyProof.Rows L2
/-! ### questions of walks, in the law's words -/
section
variable {X : Cx}
def rUpd : V → List V → Hp → VK → Prop := fun x vs H Q => ∃ (a b : Addr) (kvs more : List (Key × V)), x = .ref a ∧ vs = [.ref b] ∧ a ≠ b ∧ H a = some (.dK kvs) ∧ H b = some (.dK more) ∧ kvs.length + more.length ≤ sizeLine ∧ Q .non (upd H a (.dK (mergeK kvs more)))
theorem mt_update : MtR X "dict.update" rUpd := by
  intro pins s σ H x vs v us Q I rx rv h
  obtain ⟨a, b, kvs, more, rfl, rfl, hab, ha, hb, hz, q⟩ := h
  cases rx
  obtain ⟨u, rfl, ru⟩ := Vals.one rv
  cases ru
  obtain ⟨_, hd, vs, rel, dd⟩ := dk_of I.hok ha
  obtain ⟨_, hd2, vs2, rel2, dd2⟩ := dk_of I.hok hb
  refine call_meetsIn PySem.F.slot_dict_update dd.typeIs PySem.F.entry_dict_update (PySem.F.args_dict_update_2 _ _) (meets_dict_update (mixKind X.prog X.w) a b hab hd2) ⟨vs, vs2, dd, dd2, by rw [← rel.length, ← rel2.length]; exact hz, fun h' dd' _ hs => ?_⟩
  have he : ∃ q, h'.get? a = some q := let ⟨q, _, _, hq, _⟩ := dd'; ⟨q, hq⟩
  exact ⟨.non, _, d_write (t' := s.toks) I (by rw [ha]; exact True.intro) hs he (dk_new (Nat.le_trans (length_mergeK more kvs) hz) hd (rel2.merge rel) dd'), rfl, q⟩
end
abbrev s_is_walk_query : Stmt := top 54
def spWalkQ : Sp := fun vs H Q _ => ∃ (a0 b : Addr) (z0 : Str) (n s e lo hi : Int) (xs : List V) (z : Str) (as : List PyData), vs = [.ref a0, .ref b] ∧ TP H a0 [.str z0, .int n, .int s, .int e, .int lo, .int hi] ∧ TP H b xs ∧ DatAll H xs (.str z :: as) ∧ ∀ H', Same H H' → Q (.bl (walkB n s e z as)) H'
theorem isInt_iff (d : PyData) : (isBool d || !(isInt d || isBool d)) = !isInt d := by cases d <;> rfl
section
variable {P : Program} {w : World} {K : PySem.W.Frag} {mg : Str → Option Value} {base : Heap}
theorem sc_is_walk_query : FnScope ["_law_part", "_law_words", "_law_kind", "_law_n", "_law_start", "_law_end", "_law_low", "_law_high", "_law_bounds"] ["_law_part", "_law_words"] (defScope s_is_walk_query) := ⟨rfl, rfl, rfl, by decide +kernel, rfl, by decide +kernel, by decide +kernel⟩
theorem okl_walkq {f fI : Addr} {fd fdI : FuncData} (F : Fun K "_law_is_walk_query" "_law_is_walk_query" s_is_walk_query f fd) (T : Nm mg) (D : DefOk K mg "_law_is_index" s_is_index ["_law_given", "_law_bound"] fI fdI) : FnOk P w K mg base CX0 2 f fd ["_law_part", "_law_words"] spWalkQ := by
  have GI : FnOk P w K mg base CX0 1 fI fdI ["_law_given", "_law_bound"] spIdx := okl_index D.F T
  refine F.ok sc_is_walk_query (fun vs H Q E h => ?_) (fun cdv A outer s H vs Q E hr h => ?_)
  · obtain ⟨a0, b, z0, n, s, e, lo, hi, xs, z, as, rfl, _⟩ := h
    rfl
  · obtain ⟨a0, b, z0, n, s0, e0, lo, hi, xs, z, as, rfl, h0, hb, hx, q⟩ := h
    have hu1 := hu_of hr
    refine ⟨_, (pss_cons (ps_asg (pv 0) (pg_tup rfl (pgs_cons (pg_name (i := 2) sc_is_walk_query.nd rfl (Or.inl rfl)) (pgs_cons (pg_name (i := 3) sc_is_walk_query.nd rfl (Or.inl rfl)) (pgs_cons (pg_name (i := 4) sc_is_walk_query.nd rfl (Or.inl rfl)) (pgs_cons (pg_name (i := 5) sc_is_walk_query.nd rfl (Or.inl rfl)) (pgs_cons (pg_name (i := 6) sc_is_walk_query.nd rfl (Or.inl rfl)) (pgs_cons (pg_name (i := 7) sc_is_walk_query.nd rfl (Or.inl rfl)) pgs_nil))))))))
      (pss_cons (ps_if (pt_cmpR op_in_seq (pe_ix ix_tup (pv 1) pe_int (fun _ _ => rfl)) (pe_tup (pa_cons pe_str (pa_cons pe_str pa_nil))) rfl)
        (pss_cons (ps_if (PW.pt (pw_or (pt_cmpR op_ne (pe_callB cr_lenS (by rfl) T.len PySem.boot_len (pa_cons (pv 1) pa_nil)) pe_int (nomark _)) (pw_or (pt_val (pe_callB call_isi (by rfl) T.isinstance boot_isinstance (pa_cons (pe_ix ix_tup (pv 1) pe_int (fun _ _ => rfl)) (pa_cons (pe_bltn (v := .ty "bool") rfl T.bool (by decide +kernel) rfl) pa_nil)))) (pw_or1 (pt_not (pt_val (pe_callB call_isi (by rfl) T.isinstance boot_isinstance (pa_cons (pe_ix ix_tup (pv 1) pe_int (fun _ _ => rfl)) (pa_cons (pe_bltn (v := .ty "int") rfl T.int (by decide +kernel) rfl) pa_nil)))))))))
          (pss_one (ps_ret pe_bl))
          pss_nil)
        (pss_one (ps_ret (pe_call GI hr rfl D.g D.F.kp D.b .nil pass0 (pa_cons (pe_ix ix_tup (pv 1) pe_int (fun _ _ => rfl)) (pa_cons (pe_op op_add (pv 3) pe_int) pa_nil))))))
        pss_nil)
      (pss_cons (ps_set (i := 8) sc_is_walk_query.nd rfl (Or.inl rfl) (pe_disp (pps_cons pe_str (pe_op op_add (pv 3) pe_int) pps_nil) (by rfl) (by rfl) (fun z => by cases z) (by decide)))
      (C8.pss_cut (ps_if (pt_cmpR op_eq (pe_op op_mod (pe_op op_sub (pe_op op_add (pv 3) (pv 5)) (pv 4)) pe_int) pe_int (nomark _))
        (pss_one (ps_expr (pe_bm PySem.F.plainAttrs_dict PySem.F.slot_dict_update PySem.F.type_dict_update mt_update (pv 8) (pa_cons (pe_disp (pps_cons pe_str (pe_op op_fdiv (pe_op op_sub (pe_op op_add (pv 3) (pv 5)) (pv 4)) pe_int) (pps_cons pe_str (pe_op op_fdiv (pe_op op_add (pe_op op_sub (pv 3) (pv 5)) (pv 4)) pe_int) pps_nil)) (by rfl) (by rfl) (fun z => by cases z) (by decide)) pa_nil))))
        pss_nil)
      (pss_one (ps_ret (pe_and (pe_cmpR op_eq (pe_callB cr_lenS (by rfl) T.len PySem.boot_len (pa_cons (pv 1) pa_nil)) pe_int (nomark _)) (pe_one (pe_call GI hr rfl D.g D.F.kp D.b .nil pass0 (pa_cons (pe_ix ix_tup (pv 1) pe_int (fun _ _ => rfl)) (pa_cons (pe_dget2 hu1 (pv 8) (pe_ix ix_tup (pv 1) pe_int (fun _ _ => rfl)) pe_int ⟨rfl, rfl, rfl, rfl⟩) pa_nil))))))))))), ?_⟩
    refine ⟨_, rfl, a0, _, rfl, sqT_rd h0, rfl, _, _, rfl, _, _, rfl, _, _, rfl, _, _, rfl, _, _, rfl, _, _, rfl, rfl, ?_⟩
    obtain ⟨x0, xs', exs⟩ : ∃ x0 xs', xs = x0 :: xs' := by
      cases hx with
      | cons c t => exact ⟨_, _, rfl⟩
    subst exs
    obtain ⟨c0, ct⟩ : Dat H x0 (.str z) ∧ DatAll H xs' as := by
      cases hx with
      | cons c t => exact ⟨c, t⟩
    cases c0
    refine ⟨_, rfl, b, _, _, _, rfl, rfl, sqT_rd hb, atI_nat (j := 0) rfl, (by show 2 ≤ sizeLine; decide), fun tp ntp => ⟨tp, _, rfl, .inr (SqT.of upd_same), rfl, rfl, _, rfl, ?_⟩⟩
    have S1 := same_new (o := HO.tup [.str "first_visit", .str "last_visit"]) ntp
    generalize upd H tp (.tup [.str "first_visit", .str "last_visit"]) = H1 at S1 ⊢
    show (if inV (.str z) [.str "first_visit", .str "last_visit"] = true then _ else _)
    rw [inV2]
    have q1 := fun H' S' => q H' (S1.trans S')
    have hb1 := upR hb S1
    have hx1 := hx.same S1
    have ct1 := ct.same S1
    cases ez : (decide (z = ("first_visit" : Str)) || decide (z = ("last_visit" : Str))) with
    | true =>
      have ew : ∀ as', walkB n s0 e0 z as' = if as'.length = 2 then btw 0 n (as'.getD 0 .none) && isInt (as'.getD 1 .none) else false := by
        intro as'
        unfold walkB
        rw [ez, Bool.true_and]
        by_cases h2 : as'.length = 2
        · rw [if_pos (decide_eq_true h2), if_pos h2]
        · rw [if_neg (by rw [decide_eq_false h2]; exact Bool.false_ne_true), if_neg h2]
          have hl : (topsW n s0 e0).lookup z = none := by
            unfold topsW
            rw [Bool.or_eq_true, decide_eq_true_eq, decide_eq_true_eq] at ez
            rcases ez with rfl | rfl <;> split <;> rfl
          unfold takesB
          rw [hl]
      have hl := ct1.len
      refine if_t rfl ⟨_, rfl, b, _, rfl, .inr (sqT_rd hb1), rfl, _, rfl, ?_⟩
      match as, xs', ct1, hl, q1 with
      | [], [], _, _, q1 =>
        refine if_t rfl (if_t rfl ?_)
        have z1 := q1 H1 (Same.refl H1)
        rw [ew] at z1
        exact z1
      | [a], [x], _, _, q1 =>
        refine if_t rfl (if_t rfl ?_)
        have z1 := q1 H1 (Same.refl H1)
        rw [ew] at z1
        exact z1
      | [l, o2], [xl, xo], .cons dl (.cons dO .nil), _, q1 =>
        have z1 : ∀ H', Same H1 H' → Q (.bl (btw 0 n l && isInt o2)) H' := fun H' S' => by
          have z0 := q1 H' S'
          rw [ew] at z0
          exact z0
        refine if_f rfl ⟨_, rfl, b, _, _, xo, rfl, rfl, sqT_rd hb1, atI_nat (j := 2) rfl, xo, .ty "bool", _, _, _, rfl, .ty _, dO.ty, kit_bool _ o2, _, rfl, ?_⟩
        cases hB : isBool o2 with
        | true =>
          refine if_t rfl (if_t rfl ?_)
          have e : isInt o2 = false := by
            cases o2 with
            | bool _ => rfl
            | _ => cases hB
          rw [e, Bool.and_false] at z1
          exact z1 H1 (Same.refl H1)
        | false =>
          refine if_f rfl ⟨_, rfl, b, _, _, xo, rfl, rfl, sqT_rd hb1, atI_nat (j := 2) rfl, xo, .ty "int", _, _, _, rfl, .ty _, dO.ty, kit_int _ o2, _, rfl, ?_⟩
          rw [hB, Bool.or_false]
          cases hI : isInt o2 with
          | false =>
            refine if_t rfl ?_
            rw [hI, Bool.and_false] at z1
            exact z1 H1 (Same.refl H1)
          | true =>
            rw [hI, Bool.and_true] at z1
            refine if_f rfl ⟨_, rfl, b, _, _, xl, rfl, rfl, sqT_rd hb1, atI_nat (j := 1) rfl, _, rfl, _, _, rfl, rfl, xl, l, n + 1, rfl, dl, fun H' S' => ?_⟩
            rw [Int.add_sub_cancel]
            exact z1 H' S'
      | a :: a2 :: a3 :: as, x :: x2 :: x3 :: xs', _, _, q1 =>
        refine if_t (by
          show (!decide _) = true
          rw [decide_eq_false]
          · rfl
          · intro y
            have := V.int.inj y
            simp only [List.length_cons] at this
            omega) (if_t rfl ?_)
        have z1 := q1 H1 (Same.refl H1)
        rw [ew, if_neg (by simp)] at z1
        exact z1
    | false =>
      have q2 : ∀ H', Same H1 H' → Q (.bl (one (bd (topsW n s0 e0) z) as)) H' := fun H' S' => by
        have z1 := q1 H' S'
        unfold walkB at z1
        rw [ez, Bool.false_and, if_neg Bool.false_ne_true, takes_bd] at z1
        exact z1
      refine if_f rfl fun p np => ⟨_, rfl, _, _, rfl, rfl, upd_same, kvB [("height", n)], rfl, (by show 1 ≤ 15; decide), ?_⟩
      have g : upd (upd H1 p (.dK [])) p (.dK (mergeK [] (kvB [("height", n)]))) p = some (.dK (kvB [("height", n)])) := upd_same
      have S3 := disp_same (o := .dK (mergeK [] (kvB [("height", n)]))) np
      generalize upd (upd H1 p (.dK [])) p (.dK (mergeK [] (kvB [("height", n)]))) = H3 at g S3 ⊢
      refine ⟨fun σ H' => σ = [some (.ref a0), some (.ref b), some (.str z0), some (.int n), some (.int s0), some (.int e0), some (.int lo), some (.int hi), some (.ref p)] ∧ Same H1 H' ∧ H' p = some (.dK (kvB (topsW n s0 e0))), ?_, ?_⟩
      · refine ⟨_, rfl, _, rfl, _, _, rfl, rfl, _, rfl, _, _, rfl, rfl, _, _, rfl, rfl, (by show (0 : Int) < 2; decide), rfl, _, rfl, ?_⟩
        by_cases hev : (n + e0 - s0) % 2 = 0
        · refine if_t (decide_eq_true (show V.int ((n + e0 - s0) % 2) = V.int 0 by rw [hev])) ?_
          refine ⟨_, rfl, .inr (.inr (.inl ⟨rfl, .inl ⟨_, g⟩⟩)), fun p2 np2 => ?_⟩
          have hpp : p ≠ p2 := fun e => by
            rw [e] at g
            rw [np2] at g
            cases g
          refine ⟨_, rfl, _, rfl, _, _, rfl, rfl, _, rfl, _, _, rfl, rfl, _, _, rfl, rfl, ⟨by decide, by decide⟩, _, rfl, _, rfl, _, _, rfl, rfl, _, rfl, _, _, rfl, rfl, _, _, rfl, rfl, ⟨by decide, by decide⟩, upd_same, kvB [("up", (n + e0 - s0) / 2 - 1), ("down", (n - e0 + s0) / 2 - 1)], ?_, (by show 2 ≤ 15; decide), ?_⟩
          · show _ = [(V.str "up", V.int ((n + e0 - s0) / 2 - 1 + 1)), (V.str "down", V.int ((n - e0 + s0) / 2 - 1 + 1))]
            rw [Int.sub_add_cancel, Int.sub_add_cancel]
          · have S5 := disp_same (o := .dK (mergeK [] (kvB [("up", (n + e0 - s0) / 2 - 1), ("down", (n - e0 + s0) / 2 - 1)]))) np2
            have g5 := S5 _ _ g
            have g6 : upd (upd H3 p2 (.dK [])) p2 (.dK (mergeK [] (kvB [("up", (n + e0 - s0) / 2 - 1), ("down", (n - e0 + s0) / 2 - 1)]))) p2 = some (.dK (kvB [("up", (n + e0 - s0) / 2 - 1), ("down", (n - e0 + s0) / 2 - 1)])) := upd_same
            generalize upd (upd H3 p2 (.dK [])) p2 (.dK (mergeK [] (kvB [("up", (n + e0 - s0) / 2 - 1), ("down", (n - e0 + s0) / 2 - 1)]))) = H5 at S5 g5 g6 ⊢
            refine ⟨p, p2, _, _, rfl, rfl, hpp, g5, g6, (by show 3 ≤ sizeLine; decide), rfl, fun c o e => ?_, ?_⟩
            · rw [upd_ne (ne_of_none e np)]
              exact S5 _ _ (S3 _ _ e)
            · rw [upd_same]
              have et : topsW n s0 e0 = ([("height", n), ("up", (n + e0 - s0) / 2 - 1), ("down", (n - e0 + s0) / 2 - 1)] : Tops) := by
                unfold topsW
                rw [if_pos hev]
              rw [et]
              rfl
        · refine if_f (decide_eq_false fun y => hev (V.int.inj y)) ⟨rfl, S3, ?_⟩
          have et : topsW n s0 e0 = ([("height", n)] : Tops) := by
            unfold topsW
            rw [if_neg hev]
          rw [et]
          exact g
      · rintro σ H5 ⟨rfl, S5, g5⟩
        refine fin_two (i := 1) (z := z) (as := as) (B := bd (topsW n s0 e0) z) (upR hb1 S5) (hx1.same S5) rfl (fun R hR => ?_) fun H' S' => q2 H' (S5.trans S')
        refine ⟨_, rfl, p, rfl, .inl ⟨_, .inl g5⟩, _, rfl, b, _, _, _, rfl, rfl, sqT_rd (upR hb1 S5), atI_nat (j := 0) rfl, _, DGet.k (k := .inr z) g5, ?_⟩
        rw [kvB_get]
        exact hR H5 (Same.refl H5)
end
end K9
set_option maxRecDepth 100000
set_option maxHeartbeats 4000000
namespace K9
open PySem PySem.Spec PyProof.Rows L2
/-! ### a tuple ascends iff it is its own sorted set -/
def sLt (a b : Str) : Bool := decide (a.cps.toList < b.cps.toList)
theorem rising_le : ∀ (r : List Str) (p : Str), risingS p r = true → ∀ y ∈ r, p.cps.toList ≤ y.cps.toList
  | [], _, _, y, hy => by simp at hy
  | x :: r, p, h, y, hy => by
    have h' : (!ltCps x.cps.toList p.cps.toList && risingS x r) = true := h
    rw [Bool.and_eq_true, Bool.not_eq_true', ltCps_eq] at h'
    have px : p.cps.toList ≤ x.cps.toList := List.not_lt.mp (of_decide_eq_false h'.1)
    rcases List.mem_cons.mp hy with e | e
    · rw [e]
      exact px
    · exact List.le_trans px (rising_le r x h'.2 y e)
theorem le_sLt {a b : Str} (h : a.cps.toList ≤ b.cps.toList) (n : a ≠ b) : sLt a b = true := by
  unfold sLt
  refine decide_eq_true ?_
  by_cases z : a.cps.toList < b.cps.toList
  · exact z
  · refine absurd ?_ n
    exact Str.ext' (Array.toList_inj.mp (List.le_antisymm h (List.not_lt.mp z)))
theorem rising_asc : ∀ (r : List Str) (p : Str), risingS p r = true → (p :: r).Nodup → (p :: r).Pairwise (fun a b => sLt a b = true)
  | [], p, _, _ => by simp
  | x :: r, p, h, n => by
    have h' : (!ltCps x.cps.toList p.cps.toList && risingS x r) = true := h
    rw [Bool.and_eq_true] at h'
    rw [List.nodup_cons] at n
    refine List.pairwise_cons.mpr ⟨fun y hy => ?_, rising_asc r x h'.2 n.2⟩
    exact le_sLt (rising_le (x :: r) p h y hy) (fun e => n.1 (by rw [e]; exact hy))
theorem sorted_asc {l : List Str} (h : sortedS l = true) (n : l.Nodup) : l.Pairwise (fun a b => sLt a b = true) := by
  cases l with
  | nil => exact .nil
  | cons p r => exact rising_asc r p h n
/-- strictly ascending from b on -/
def ascF : PyData → List PyData → Bool
  | _, [] => true
  | b, e :: r => PySem.W.dataLt b e && ascF e r
theorem ascB_cons (e : PyData) : ∀ r : List PyData, ascB (e :: r) = ascF e r
  | [] => rfl
  | x :: r => by
    have z := ascB_cons x r
    have e1 : ascB (e :: x :: r) = (PySem.W.dataLt e x && ascB (x :: r)) := by
      unfold ascB
      show (List.range (r.length + 1)).all _ = (_ && (List.range r.length).all _)
      rw [List.range_succ_eq_map, List.all_cons, List.all_map]
      rfl
    rw [e1, z]
    rfl
theorem lt_int (i j : Int) : PySem.W.dataLt (.int i) (.int j) = decide (i < j) := by
  unfold PySem.W.dataLt PySem.W.keyToks
  show PyProof.Rows.lexLt itemOrd [Sum.inl i] [Sum.inl j] = _
  by_cases h : i < j
  · rw [decide_eq_true h]
    simp [PyProof.Rows.lexLt, itemOrd, itemLt, h]
  · rw [decide_eq_false h]
    simp [PyProof.Rows.lexLt, itemOrd, itemLt, h]
/-- ascends step by step -/
def chB {α : Type} (lt : α → α → Bool) : α → List α → Bool
  | _, [] => true
  | a, b :: r => lt a b && chB lt b r
theorem ch_pw {α : Type} {lt : α → α → Bool} (tr : ∀ a b c, lt a b = true → lt b c = true → lt a c = true) : ∀ (l : List α) (a : α), chB lt a l = true → (a :: l).Pairwise fun x y => lt x y = true
  | [], a, _ => by simp
  | b :: r, a, h => by
    rw [chB, Bool.and_eq_true] at h
    have ih := ch_pw tr r b h.2
    refine List.pairwise_cons.mpr ⟨fun y hy => ?_, ih⟩
    rcases List.mem_cons.mp hy with rfl | hy
    · exact h.1
    · exact tr _ _ _ h.1 ((List.pairwise_cons.mp ih).1 y hy)
theorem pw_ch {α : Type} {lt : α → α → Bool} : ∀ (l : List α) (a : α), (a :: l).Pairwise (fun x y => lt x y = true) → chB lt a l = true
  | [], _, _ => rfl
  | b :: r, a, h => by
    rw [List.pairwise_cons] at h
    rw [chB, h.1 b List.mem_cons_self, pw_ch r b h.2]
    rfl
theorem pw_uniq {α : Type} {lt : α → α → Bool} (ir : ∀ a, lt a a = false) (tr : ∀ a b c, lt a b = true → lt b c = true → lt a c = true) : ∀ (l m : List α), l.Pairwise (fun x y => lt x y = true) → m.Pairwise (fun x y => lt x y = true) → (∀ x, x ∈ l ↔ x ∈ m) → l = m
  | [], [], _, _, _ => rfl
  | [], b :: m, _, _, h => by
    have := (h b).mpr List.mem_cons_self
    cases this
  | a :: l, [], _, _, h => by
    have := (h a).mp List.mem_cons_self
    cases this
  | a :: l, b :: m, hl, hm, h => by
    rw [List.pairwise_cons] at hl hm
    have no : ∀ x y, lt x y = true → lt y x = true → False := fun x y p q => by
      have := tr _ _ _ p q
      rw [ir] at this
      cases this
    have hab : a = b := by
      rcases List.mem_cons.mp ((h a).mp List.mem_cons_self) with e | e
      · exact e
      · rcases List.mem_cons.mp ((h b).mpr List.mem_cons_self) with e2 | e2
        · exact e2.symm
        · exact (no _ _ (hl.1 b e2) (hm.1 a e)).elim
    subst hab
    congr 1
    refine pw_uniq ir tr l m hl.2 hm.2 fun x => ?_
    constructor
    · intro hx
      rcases List.mem_cons.mp ((h x).mp (List.mem_cons_of_mem _ hx)) with e | e
      · subst e
        have := hl.1 x hx
        rw [ir] at this
        cases this
      · exact e
    · intro hx
      rcases List.mem_cons.mp ((h x).mpr (List.mem_cons_of_mem _ hx)) with e | e
      · subst e
        have := hm.1 x hx
        rw [ir] at this
        cases this
      · exact e
theorem sLt_ir (a : Str) : sLt a a = false := decide_eq_false (List.lt_irrefl _)
theorem sLt_tr (a b c : Str) (h : sLt a b = true) (h' : sLt b c = true) : sLt a c = true := decide_eq_true (List.lt_trans (of_decide_eq_true h) (of_decide_eq_true h'))
theorem ascB_strs (l : List Str) : ascB (l.map PyData.str) = match l with | [] => true | a :: r => chB sLt a r := by
  cases l with
  | nil => rfl
  | cons a r =>
    rw [List.map_cons, ascB_cons]
    show ascF (.str a) (r.map PyData.str) = chB sLt a r
    induction r generalizing a with
    | nil => rfl
    | cons b r ih =>
      rw [List.map_cons, ascF, chB, ih b]
      congr 1
      exact PySem.W.dataLt_str a b
theorem ascB_ints (l : List Int) : ascB (l.map PyData.int) = match l with | [] => true | a :: r => chB (fun x y : Int => decide (x < y)) a r := by
  cases l with
  | nil => rfl
  | cons a r =>
    rw [List.map_cons, ascB_cons]
    show ascF (.int a) (r.map PyData.int) = chB _ a r
    induction r generalizing a with
    | nil => rfl
    | cons b r ih =>
      rw [List.map_cons, ascF, chB, ih b]
      congr 1
      exact lt_int a b
/-- the sorted set of texts equals the tuple just where it ascends -/
theorem set_strs {zs ys : List Str} (nd : ys.Nodup) (so : sortedS ys = true) (hm : ∀ y, y ∈ ys ↔ y ∈ zs) : decide (zs = ys) = ascB (zs.map PyData.str) := by
  have py := sorted_asc so nd
  rw [ascB_strs]
  cases zs with
  | nil =>
    have : ys = [] := List.eq_nil_iff_forall_not_mem.mpr fun y hy => by
      have := (hm y).mp hy
      cases this
    rw [this]
    rfl
  | cons a r =>
    show decide (a :: r = ys) = chB sLt a r
    cases hc : chB sLt a r with
    | true => exact decide_eq_true (pw_uniq sLt_ir sLt_tr _ _ (ch_pw sLt_tr r a hc) py fun x => (hm x).symm)
    | false =>
      refine decide_eq_false fun e => ?_
      rw [← e] at py
      rw [pw_ch r a py] at hc
      cases hc
theorem set_ints {zs ys : List Int} (nd : ys.Nodup) (so : ys.Pairwise (· ≤ ·)) (hm : ∀ y, y ∈ ys ↔ y ∈ zs) : decide (zs = ys) = ascB (zs.map PyData.int) := by
  have py : ys.Pairwise fun x y => decide (x < y) = true := by
    have := lt_of_le_nodup ys so nd
    exact this.imp fun h => decide_eq_true h
  have ir : ∀ a : Int, decide (a < a) = false := fun a => decide_eq_false (by omega)
  have tr : ∀ a b c : Int, decide (a < b) = true → decide (b < c) = true → decide (a < c) = true := fun a b c h h' => decide_eq_true (by have := of_decide_eq_true h; have := of_decide_eq_true h'; omega)
  rw [ascB_ints]
  cases zs with
  | nil =>
    have : ys = [] := List.eq_nil_iff_forall_not_mem.mpr fun y hy => by
      have := (hm y).mp hy
      cases this
    rw [this]
    rfl
  | cons a r =>
    show decide (a :: r = ys) = chB _ a r
    cases hc : chB (fun x y : Int => decide (x < y)) a r with
    | true => exact decide_eq_true (pw_uniq (lt := fun x y : Int => decide (x < y)) ir tr _ _ (ch_pw tr r a hc) py fun x => (hm x).symm)
    | false =>
      refine decide_eq_false fun e => ?_
      rw [← e] at py
      rw [pw_ch (lt := fun x y : Int => decide (x < y)) r a py] at hc
      cases hc
theorem asc_len8 {zs : List Int} (h : ascB (zs.map PyData.int) = true) (hb : ∀ z ∈ zs, 0 ≤ z ∧ z ≤ 7) : zs.length ≤ 8 := by
  rw [ascB_ints] at h
  have go : ∀ (r : List Int) (a : Int), chB (fun x y : Int => decide (x < y)) a r = true → (∀ z ∈ r, z ≤ 7) → a ≤ 7 → (r.length : Int) ≤ 7 - a := by
    intro r
    induction r with
    | nil =>
      intro a _ _ h
      show (0 : Int) ≤ 7 - a
      omega
    | cons b r ih =>
      intro a hc hz ha
      rw [chB, Bool.and_eq_true] at hc
      have h1 := of_decide_eq_true hc.1
      have h2 := ih b hc.2 (fun z hz' => hz z (List.mem_cons_of_mem _ hz')) (hz b List.mem_cons_self)
      rw [List.length_cons]
      omega
  cases zs with
  | nil => exact Nat.zero_le _
  | cons a r =>
    have h1 := go r a h (fun z hz => (hb z (List.mem_cons_of_mem _ hz)).2) (hb a List.mem_cons_self).2
    have h2 := (hb a List.mem_cons_self).1
    rw [List.length_cons]
    omega
end K9
set_option maxRecDepth 100000
set_option maxHeartbeats 8000000
namespace K9
open PySem PySem.Spec PyProof.Rows L2
/-! ### questions of strings, in the law's words -/
abbrev s_is_string_query : Stmt := top 55
def spStrQ : Sp := fun vs H Q _ => ∃ (a0 b : Addr) (x0 x1 : V) (n : Int) (xs : List V) (z : Str) (as : List PyData), vs = [.ref a0, .ref b] ∧ TP H a0 [x0, x1, .int n] ∧ TP H b xs ∧ DatAll H xs (.str z :: as) ∧ shortQ as ∧ ∀ H', Same H H' → Q (.bl (stringB n z as)) H'
theorem strs_dp {K : PySem.W.Frag} {H : Hp} : ∀ ns : List Str, DpAll K H (ns.map V.str) (ns.map PyData.str)
  | [] => .nil
  | n :: ns => .cons (.str n) (strs_dp ns)
theorem name_lay {z : Str} (h : nameS z = true) : PyData.canLay0 (.str z) = true := by
  show PyData.strOk z = true
  unfold PyData.strOk
  rw [← Array.all_toList]
  refine List.all_eq_true.mpr fun c hc => ?_
  have := letter_le (List.all_eq_true.mp (nameS_all h).1 c hc)
  simp
  omega
theorem strs_shaped (ns : List Str) (h : ∀ z ∈ ns, nameS z = true) : SeqAt.shaped (.list (ns.map PyData.str)) = true := by
  have h1 : PyData.canLayAll0 (ns.map PyData.str) = true := by
    induction ns with
    | nil => rfl
    | cons a l ih =>
      show (PyData.canLay0 (.str a) && PyData.canLayAll0 (l.map PyData.str)) = true
      rw [ih fun z hz => h z (List.mem_cons_of_mem _ hz), Bool.and_true]
      exact name_lay (h a List.mem_cons_self)
  have h2 : ∀ l : List Str, PyData.depthAll (l.map PyData.str) = 0 := by
    intro l
    induction l with
    | nil => rfl
    | cons a l ih =>
      rw [List.map_cons, PyData.depthAll, ih]
      rfl
  unfold SeqAt.shaped
  rw [PyData.depth, h2]
  show (PyData.canLayAll0 (ns.map PyData.str) && true) = true
  rw [h1]
  rfl
theorem eqv_strs : ∀ l m : List Str, PyData.eqv (.list (l.map PyData.str)) (.list (m.map PyData.str)) = decide (l = m) := by
  intro l m
  rw [PyData.eqv]
  induction l generalizing m with
  | nil =>
    cases m with
    | nil => rfl
    | cons b m => rfl
  | cons a l ih =>
    cases m with
    | nil => rfl
    | cons b m =>
      rw [List.map_cons, List.map_cons, PyData.eqvAll, ih m]
      by_cases h : a = b
      · subst h
        simp [PyData.eqv]
      · simp [PyData.eqv, h]
theorem eqv_ints : ∀ l m : List Int, PyData.eqv (.list (l.map PyData.int)) (.list (m.map PyData.int)) = decide (l = m) := by
  intro l m
  rw [PyData.eqv]
  induction l generalizing m with
  | nil =>
    cases m with
    | nil => rfl
    | cons b m => rfl
  | cons a l ih =>
    cases m with
    | nil => rfl
    | cons b m =>
      rw [List.map_cons, List.map_cons, PyData.eqvAll, ih m]
      by_cases h : a = b
      · subst h
        simp [PyData.eqv]
      · simp [PyData.eqv, h]
theorem all_names : ∀ {ds : List PyData}, ds.all nameB = true → ∃ zs : List Str, ds = zs.map PyData.str ∧ ∀ z ∈ zs, nameS z = true
  | [], _ => ⟨[], rfl, by simp⟩
  | d :: ds, h => by
    rw [List.all_cons, Bool.and_eq_true] at h
    obtain ⟨zs, rfl, hz⟩ := all_names h.2
    cases d with
    | str z => exact ⟨z :: zs, rfl, fun y hy => (List.mem_cons.mp hy).elim (fun e => by rw [e]; exact h.1) (hz y)⟩
    | _ => cases h.1
theorem all_idx : ∀ {ds : List PyData}, ds.all (btw 0 7) = true → ∃ zs : List Int, ds = zs.map PyData.int ∧ ∀ z ∈ zs, 0 ≤ z ∧ z ≤ 7
  | [], _ => ⟨[], rfl, by simp⟩
  | d :: ds, h => by
    rw [List.all_cons, Bool.and_eq_true] at h
    obtain ⟨zs, rfl, hz⟩ := all_idx h.2
    obtain ⟨i, rfl, h1, h2⟩ := btw_int h.1
    exact ⟨i :: zs, rfl, fun y hy => (List.mem_cons.mp hy).elim (fun e => by rw [e]; exact ⟨h1, h2⟩) (hz y)⟩
theorem states_eq {ds : List PyData} (h : ds.all (btw 0 7) = true) : statesB (.tuple ds) = ascB ds := by
  unfold statesB
  show (tupOf 0 8 (.tuple ds) && (ds.all (btw 0 7) && ascB ds)) = ascB ds
  rw [h, Bool.true_and]
  cases ha : ascB ds with
  | false => rw [Bool.and_false]
  | true =>
    obtain ⟨zs, rfl, hz⟩ := all_idx h
    have hl := asc_len8 ha hz
    rw [Bool.and_true]
    show (decide ((0 : Int) ≤ ((zs.map PyData.int).length : Int)) && decide (((zs.map PyData.int).length : Int) ≤ 8)) = true
    rw [List.length_map, decide_eq_true (by omega), decide_eq_true (by omega)]
    rfl
/-- what the law asks of a question with a tuple -/
def setQ (n : Int) (c : Bool) (a d : PyData) : Bool := isTup d && ((tupItems d).all (if c = true then nameB else btw 0 7) && (ascB (tupItems d) && btw 0 (n + (if c = true then 0 else 1) - 1) a))
theorem string_set {n : Int} {z : Str} {a d : PyData} (hz : z = "letter_in" ∨ z = "state_in") : stringB n z [a, d] = setQ n (decide (z = "letter_in")) a d := by
  rcases hz with rfl | rfl
  · show (btw 0 (n - 1) a && letsB d) = setQ n true a d
    unfold letsB setQ
    rw [if_pos rfl, if_pos rfl, Int.add_zero]
    cases isTup d <;> cases (tupItems d).all nameB <;> cases ascB (tupItems d) <;> cases btw 0 (n - 1) a <;> rfl
  · show (btw 0 n a && statesB d) = setQ n false a d
    unfold setQ
    rw [if_neg Bool.false_ne_true, if_neg Bool.false_ne_true, Int.add_sub_cancel]
    cases d with
    | tuple ds =>
      show _ = (true && (ds.all (btw 0 7) && (ascB ds && btw 0 n a)))
      cases ha : ds.all (btw 0 7) with
      | true =>
        rw [states_eq ha]
        cases ascB ds <;> cases btw 0 n a <;> rfl
      | false =>
        have e : statesB (.tuple ds) = false := by
          unfold statesB
          show (_ && (ds.all (btw 0 7) && _)) = false
          rw [ha, Bool.false_and, Bool.and_false]
        rw [e, Bool.and_false]
        rfl
    | _ =>
      show (btw 0 n a && (false && _)) = false
      rw [Bool.false_and, Bool.and_false]
end K9
set_option maxRecDepth 100000
set_option maxHeartbeats 8000000
namespace K9
open PySem PySem.Spec PyProof.Rows L2
/-- the truth of a if c else b -/
def tIfT (t ta tb : TT) : TT := fun σ H Q => t σ H fun c H1 => if c = true then ta σ H1 Q else tb σ H1 Q
theorem pt_ifE {X : Cx} {c a b : Expr} {pos : Pos} {tc ta tb : TT} (hc : PT X c tc) (ha : PT X a ta) (hb : PT X b tb) : PT X (.IfExp c a b pos) (tIfT tc ta tb) := by
  refine ⟨fun pins s σ H Q I h => ?_⟩
  refine isTrue_IfExp (thn (hc.run pins s σ H _ I h) fun d s1 ⟨H1, I1, q1⟩ => ?_)
  cases d with
  | true => exact ha.run pins s1 σ H1 Q I1 ((if_pos rfl : (if true = true then ta σ H1 Q else tb σ H1 Q) = _) ▸ q1)
  | false => exact hb.run pins s1 σ H1 Q I1 ((if_neg Bool.false_ne_true : (if false = true then ta σ H1 Q else tb σ H1 Q) = _) ▸ q1)
section
variable {P : Program} {w : World} {K : PySem.W.Frag} {mg : Str → Option Value} {base : Heap}
theorem sc_is_string_query : FnScope ["_law_part", "_law_words", "_law_n", "_law_one"] ["_law_part", "_law_words"] (defScope s_is_string_query) := ⟨rfl, rfl, rfl, by decide +kernel, rfl, by decide +kernel, by decide +kernel⟩
theorem okl_strq {f fI fN : Addr} {fd fdI fdN : FuncData} (F : Fun K "_law_is_string_query" "_law_is_string_query" s_is_string_query f fd) (T : Nm mg) (Ts : mg "sorted" = none) (Te : mg "set" = none) (D : DefOk K mg "_law_is_index" s_is_index ["_law_given", "_law_bound"] fI fdI)
    (DN : DefOk K mg "_law_is_name" s_is_name ["_law_given"] fN fdN) : FnOk P w K mg base CX0 2 f fd ["_law_part", "_law_words"] spStrQ := by
  have GI : FnOk P w K mg base CX0 1 fI fdI ["_law_given", "_law_bound"] spIdx := okl_index D.F T
  have GN : FnOk P w K mg base CX0 1 fN fdN ["_law_given"] (spP nameB) := okl_lname DN.F T
  refine F.ok sc_is_string_query (fun vs H Q E h => ?_) (fun cdv A outer s H vs Q E hr h => ?_)
  · obtain ⟨a0, b, x0, x1, n, xs, z, as, rfl, _⟩ := h
    rfl
  · obtain ⟨a0, b, y0, y1, n, xs, z, as, rfl, h0, hb, hx, hsh, q⟩ := h
    have hu : (A.deeper (envOfC "_law_is_string_query" (defScope s_is_string_query) s.heap.objs.size f cdv)).units + 64 < cLine := by
      have := hr.un
      omega
    refine ⟨_, (pss_cons (ps_set (i := 2) sc_is_string_query.nd rfl (Or.inl rfl) (pe_ix ix_tup (pv 0) pe_int (fun _ _ => rfl)))
      (pss_cons (ps_if (pt_cmpR op_in_seq (pe_ix ix_tup (pv 1) pe_int (fun _ _ => rfl)) (pe_tup (pa_cons pe_str (pa_cons pe_str pa_nil))) rfl)
        (pss_one (ps_ret (pe_and (pe_cmpR op_eq (pe_callB cr_lenS (by rfl) T.len PySem.boot_len (pa_cons (pv 1) pa_nil)) pe_int (nomark _)) (pe_one (pe_call GI hr rfl D.g D.F.kp D.b .nil pass0 (pa_cons (pe_ix ix_tup (pv 1) pe_int (fun _ _ => rfl)) (pa_cons (pe_op op_add (pv 2) (pe_callTy call_int1 (by rfl) T.int (by decide +kernel) (pa_cons (pe_cmpR op_eq (pe_ix ix_tup (pv 1) pe_int (fun _ _ => rfl)) pe_str (nomark _)) pa_nil))) pa_nil)))))))
        pss_nil)
      (pss_cons (ps_if (PW.pt (pw_or (pt_cmpR op_ne (pe_callB cr_lenS (by rfl) T.len PySem.boot_len (pa_cons (pv 1) pa_nil)) pe_int (nomark _)) (pw_or (pt_cmpR op_notIn_seq (pe_ix ix_tup (pv 1) pe_int (fun _ _ => rfl)) (pe_tup (pa_cons pe_str (pa_cons pe_str pa_nil))) rfl) (pw_or1 (pt_not (pt_val (pe_callB call_isi (by rfl) T.isinstance boot_isinstance (pa_cons (pe_ix ix_tup (pv 1) pe_int (fun _ _ => rfl)) (pa_cons (pe_bltn (v := .ty "tuple") rfl T.tuple (by decide +kernel) rfl) pa_nil)))))))))
        (pss_one (ps_ret pe_bl))
        pss_nil)
      (pss_cons (ps_for PassesOwn.never rfl (pi_tup (pe_ix ix_tup (pv 1) pe_int (fun _ _ => rfl))) (pg_name (i := 3) sc_is_string_query.nd rfl (Or.inl rfl))
        (pss_one (ps_if (pt_not (pt_ifE (pt_cmpR op_eq (pe_ix ix_tup (pv 1) pe_int (fun _ _ => rfl)) pe_str (nomark _)) (pt_val (pe_call GN hr rfl DN.g DN.F.kp DN.b .nil pass0 (pa_cons (pv 3) pa_nil))) (pt_val (pe_call GI hr rfl D.g D.F.kp D.b .nil pass0 (pa_cons (pv 3) (pa_cons pe_int pa_nil))))))
          (pss_one (ps_ret pe_bl))
          pss_nil)))
      (pss_one (ps_ret (pe_and (pe_cmpR (op_eqD hu) (pe_callTy call_list_of (by rfl) T.list (by decide +kernel) (pa_cons (pe_ix ix_tup (pv 1) pe_int (fun _ _ => rfl)) pa_nil)) (pe_callB (CallR.or (cr_sortX rfl) (cr_sortN rfl)) (by rfl) Ts (by decide +kernel) (pa_cons (pe_callTy (CallR.or (cr_setOf (knd := PySem.strKind P w) (dec := strV) (mk := V.str) rfl key_str) (cr_setOf (knd := PySem.intKind P w) (dec := intV) (mk := V.int) rfl key_int)) (by rfl) Te (by decide +kernel) (pa_cons (pe_ix ix_tup (pv 1) pe_int (fun _ _ => rfl)) pa_nil)) pa_nil)) (nomark _)) (pe_one (pe_call GI hr rfl D.g D.F.kp D.b .nil pass0 (pa_cons (pe_ix ix_tup (pv 1) pe_int (fun _ _ => rfl)) (pa_cons (pe_op op_add (pv 2) (pe_callTy call_int1 (by rfl) T.int (by decide +kernel) (pa_cons (pe_cmpR op_eq (pe_ix ix_tup (pv 1) pe_int (fun _ _ => rfl)) pe_str (nomark _)) pa_nil))) pa_nil))))))))))), ?_⟩
    obtain ⟨x0, xs', exs⟩ : ∃ x0 xs', xs = x0 :: xs' := by
      cases hx with
      | cons c t => exact ⟨_, _, rfl⟩
    subst exs
    obtain ⟨c0, ct⟩ : Dat H x0 (.str z) ∧ DatAll H xs' as := by
      cases hx with
      | cons c t => exact ⟨c, t⟩
    cases c0
    refine ⟨_, rfl, a0, _, _, _, rfl, rfl, sqT_rd h0, atI_nat (j := 2) rfl, ?_⟩
    refine ⟨_, rfl, b, _, _, _, rfl, rfl, sqT_rd hb, atI_nat (j := 0) rfl, (by show 2 ≤ sizeLine; decide), fun tp ntp => ⟨tp, _, rfl, .inr (SqT.of upd_same), rfl, rfl, _, rfl, ?_⟩⟩
    have S1 := same_new (o := HO.tup [.str "letter", .str "state"]) ntp
    generalize upd H tp (.tup [.str "letter", .str "state"]) = H1 at S1 ⊢
    show (if inV (.str z) [.str "letter", .str "state"] = true then _ else _)
    rw [inV2]
    have q1 := fun H' S' => q H' (S1.trans S')
    have hb1 := upR hb S1
    have hx1 := hx.same S1
    have ct1 := ct.same S1
    cases ez : (decide (z = ("letter" : Str)) || decide (z = ("state" : Str))) with
    | true =>
      have e2 : ∀ as', stringB n z as' = one (n + if decide (V.str z = V.str "state") = true then 1 else 0) as' := by
        intro as'
        rw [Bool.or_eq_true, decide_eq_true_eq, decide_eq_true_eq] at ez
        have hn : stringB n z as' = takesB [("letter", n - 1), ("state", n)] z as' := by
          unfold stringB
          rcases ez with rfl | rfl
          · rw [if_neg (by rw [decide_eq_false (by decide), Bool.false_and]; exact Bool.false_ne_true), if_neg (by rw [decide_eq_false (by decide), Bool.false_and]; exact Bool.false_ne_true)]
          · rw [if_neg (by rw [decide_eq_false (by decide), Bool.false_and]; exact Bool.false_ne_true), if_neg (by rw [decide_eq_false (by decide), Bool.false_and]; exact Bool.false_ne_true)]
        rw [hn, takes_bd]
        congr 1
        rcases ez with rfl | rfl
        · show n - 1 + 1 = _
          rw [if_neg (by rw [decide_eq_false (by decide)]; exact Bool.false_ne_true)]
          omega
        · show n + 1 = _
          rw [if_pos (decide_eq_true rfl)]
      refine if_t rfl ?_
      refine fin_two (i := 1) (z := z) (as := as) (B := n + if decide (V.str z = V.str "state") = true then 1 else 0) hb1 hx1 rfl (fun R hR => ?_) fun H' S' => ?_
      · refine ⟨_, rfl, _, rfl, b, _, _, _, rfl, rfl, sqT_rd hb1, atI_nat (j := 0) rfl, rfl, .inr ⟨_, rfl, _, _, rfl, rfl, ?_⟩⟩
        exact hR H1 (Same.refl H1)
      · have z1 := q1 H' S'
        rw [e2] at z1
        exact z1
    | false =>
      have hl := ct1.len
      have hin : ∀ {u v : Str} {as' : List PyData}, z = u → False → True := fun _ _ => trivial
      -- no other word, and not two arguments: False
      have eno : (z ≠ "letter_in" ∧ z ≠ "state_in") ∨ as.length ≠ 2 → stringB n z as = false := by
        intro hh
        have f1 : (decide (z = "letter_in") && decide (as.length = 2)) = false := by
          rcases hh with ⟨h1, _⟩ | h2
          · rw [decide_eq_false h1, Bool.false_and]
          · rw [decide_eq_false h2, Bool.and_false]
        have f2 : (decide (z = "state_in") && decide (as.length = 2)) = false := by
          rcases hh with ⟨_, h1⟩ | h2
          · rw [decide_eq_false h1, Bool.false_and]
          · rw [decide_eq_false h2, Bool.and_false]
        unfold stringB
        rw [f1, f2, if_neg Bool.false_ne_true, if_neg Bool.false_ne_true]
        rw [Bool.or_eq_false_iff, decide_eq_false_iff_not, decide_eq_false_iff_not] at ez
        unfold takesB
        have e0 : ([("letter", n - 1), ("state", n)] : Tops).lookup z = none := by
          rw [List.lookup, beq_eq_false_iff_ne.mpr ez.1]
          show ([("state", n)] : Tops).lookup z = none
          rw [List.lookup, beq_eq_false_iff_ne.mpr ez.2]
          rfl
        rw [e0]
      refine if_f rfl ⟨_, rfl, b, _, rfl, .inr (sqT_rd hb1), rfl, _, rfl, ?_⟩
      by_cases h2 : as.length = 2
      · refine if_f (by
          show (!decide _) = false
          rw [decide_eq_true]
          · rfl
          · rw [List.length_cons, hl, h2]
            rfl) ?_
        match as, xs', ct1, hl, q1, h2, eno, hsh, hb1 with
        | [a, d], [xa, xd], .cons da (.cons dd .nil), _, q1, _, eno, hsh, hb1 =>
          refine ⟨_, rfl, b, _, _, _, rfl, rfl, sqT_rd hb1, atI_nat (j := 0) rfl, (by show 2 ≤ sizeLine; decide), fun tp2 ntp2 => ⟨tp2, _, rfl, .inr (SqT.of upd_same), rfl, rfl, _, rfl, ?_⟩⟩
          have S2 := same_new (o := HO.tup [.str "letter_in", .str "state_in"]) ntp2
          generalize upd H1 tp2 (.tup [.str "letter_in", .str "state_in"]) = H2 at S2 ⊢
          show (if (!inV (.str z) [.str "letter_in", .str "state_in"]) = true then _ else _)
          rw [inV2]
          have hb2 := upR hb1 S2
          cases ei : (decide (z = ("letter_in" : Str)) || decide (z = ("state_in" : Str))) with
          | false =>
            rw [Bool.or_eq_false_iff, decide_eq_false_iff_not, decide_eq_false_iff_not] at ei
            refine if_t rfl (if_t rfl ?_)
            have z1 := q1 H2 S2
            rw [eno (.inl ei)] at z1
            exact z1
          | true =>
            rw [Bool.or_eq_true, decide_eq_true_eq, decide_eq_true_eq] at ei
            have q2 : ∀ H', Same H2 H' → Q (.bl (setQ n (decide (z = "letter_in")) a d)) H' := fun H' S' => by
              have z1 := q1 H' (S2.trans S')
              rw [string_set ei] at z1
              exact z1
            refine if_f rfl ⟨_, rfl, b, _, _, xd, rfl, rfl, sqT_rd hb2, atI_nat (j := 2) rfl, xd, .ty "tuple", _, _, _, rfl, .ty _, (dd.same S2).ty, kit_tuple _ d, _, rfl, ?_⟩
            cases ht : isTup d with
            | false =>
              refine if_t rfl ?_
              have z1 := q2 H2 (Same.refl H2)
              unfold setQ at z1
              rw [ht, Bool.false_and] at z1
              exact z1
            | true =>
              obtain ⟨ds, rfl⟩ : ∃ ds, d = .tuple ds := by
                cases d with
                | tuple ds => exact ⟨ds, rfl⟩
                | _ => cases ht
              have q3 : ∀ H', Same H2 H' → Q (.bl (ds.all (if decide (z = "letter_in") = true then nameB else btw 0 7) && (ascB ds && btw 0 (n + (if decide (z = "letter_in") = true then 0 else 1) - 1) a))) H' := q2
              clear q2
              have hds : ds.length ≤ 1000 := hsh (.tuple ds) (by simp)
              obtain ⟨at', ts, rfl, hat, hts⟩ := dat_tup (dd.same S2)
              refine if_f rfl ⟨_, rfl, b, _, _, _, rfl, rfl, sqT_rd hb2, atI_nat (j := 2) rfl, at', rfl, ⟨_, sqT_rd hat⟩, ?_⟩
              refine for_tup (K := K) (xs := ts) (fun i σ Hx => ∃ w3 : Option V, σ = [some (.ref a0), some (.ref b), some (.int n), w3] ∧ Same H2 Hx ∧ (ds.take i).all (if decide (z = "letter_in") = true then nameB else btw 0 7) = true) ⟨none, rfl, Same.refl H2, rfl⟩ (fun i σ Hx _ ⟨_, _, S, _⟩ => sqT_rd (upR hat S)) ?_ ?_
              · rintro i x σ Hx hxi ⟨w3, rfl, S, hall⟩
                obtain ⟨e, hei, te⟩ := hts.get hxi
                have hstep : ∀ c : Bool, (if decide (z = "letter_in") = true then nameB else btw 0 7) e = c → (ds.take (i + 1)).all (if decide (z = "letter_in") = true then nameB else btw 0 7) = c := fun c hc => by
                  rw [List.take_add_one, hei, List.all_append, hall, ← hc]
                  simp
                have hbad : (if decide (z = "letter_in") = true then nameB else btw 0 7) e = false → ds.all (if decide (z = "letter_in") = true then nameB else btw 0 7) = false := fun hc => by
                  rw [List.all_eq_false]
                  exact ⟨e, List.mem_of_getElem? hei, by rw [hc]; exact Bool.false_ne_true⟩
                have go : ∀ (c : Bool) (H3 : Hp), Same Hx H3 → (if decide (z = "letter_in") = true then nameB else btw 0 7) e = c → (if (!c) = true then Q (.bl false) H3 else ∃ w3 : Option V, [some (V.ref a0), some (V.ref b), some (V.int n), some x] = [some (.ref a0), some (.ref b), some (.int n), w3] ∧ Same H2 H3 ∧ (ds.take (i + 1)).all (if decide (z = "letter_in") = true then nameB else btw 0 7) = true) := fun c H3 S3 hc => by
                  cases c with
                  | true => exact if_f rfl ⟨_, rfl, S.trans S3, hstep true hc⟩
                  | false =>
                    refine if_t rfl ?_
                    have z1 := q3 H3 (S.trans S3)
                    rw [hbad hc, Bool.false_and] at z1
                    exact z1
                refine ⟨_, rfl, b, _, _, _, rfl, rfl, sqT_rd (upR hb2 S), atI_nat (j := 0) rfl, rfl, _, rfl, ?_⟩
                rw [dec_str]
                cases hzc : decide (z = ("letter_in" : Str)) with
                | true =>
                  rw [hzc] at go
                  exact if_t rfl ⟨_, rfl, x, e, rfl, te.same S, fun H3 S3 => ⟨_, rfl, go _ H3 S3 rfl⟩⟩
                | false =>
                  rw [hzc] at go
                  exact if_f rfl ⟨_, rfl, x, e, 8, rfl, te.same S, fun H3 S3 => ⟨_, rfl, go _ H3 S3 rfl⟩⟩
              · rintro σ Hx ⟨w3, rfl, S, hall⟩
                rw [hts.len, List.take_length] at hall
                cases hzc : decide (z = ("letter_in" : Str)) with
                | true =>
                  rw [hzc] at hall q3
                  rw [if_pos rfl] at hall q3
                  have hwd : decide (V.str z = V.str "state_in") = false := by
                    rw [dec_str, of_decide_eq_true hzc]
                    decide
                  obtain ⟨zs, rfl, hzs⟩ := all_names hall
                  rw [List.length_map] at hds
                  obtain rfl := dat_strs hts
                  refine ⟨_, rfl, b, _, _, _, rfl, rfl, sqT_rd (upR hb2 S), atI_nat (j := 2) rfl, at', _, rfl, .inr (sqT_rd (upR hat S)), fun l1 n1 => ?_⟩
                  have T1 := same_new (o := HO.lst (zs.map V.str)) n1
                  have g1 : upd Hx l1 (.lst (zs.map V.str)) l1 = some (.lst (zs.map V.str)) := upd_same
                  generalize upd Hx l1 (.lst (zs.map V.str)) = H3 at T1 g1 ⊢
                  have S3 := S.trans T1
                  refine ⟨_, rfl, b, _, _, _, rfl, rfl, sqT_rd (upR hb2 S3), atI_nat (j := 2) rfl, .inl ⟨at', zs, rfl, .inr (sqT_rd (upR hat S3)), hds, fun p4 c4 n4 hc4 => .inl ⟨p4, _, c4, rfl, upd_same, by omega, fun ys l2 nd so hm hl4 n5 => ?_⟩⟩⟩
                  have T2 := (same_new n4).trans (same_new (o := HO.lst (ys.map V.str)) n5)
                  have g2 := T2 _ _ g1
                  refine ⟨_, _, .lst (SqL.of g2) (strs_dp zs), .lst (SqL.of upd_same) (strs_dp ys), (strs_shaped zs hzs), (strs_shaped ys fun y hy => hzs y (by rw [hm y, decide_eq_true_eq] at hy; exact hy)), _, rfl, ?_⟩
                  have hm' : ∀ y, y ∈ ys ↔ y ∈ zs := fun y => by rw [hm y, decide_eq_true_eq]
                  rw [eqv_strs, set_strs nd so hm']
                  have S5 := S3.trans T2
                  generalize upd _ l2 (.lst (ys.map V.str)) = H5 at T2 g2 S5 ⊢
                  cases hasc : ascB (zs.map PyData.str) with
                  | false =>
                    refine if_f rfl ?_
                    have z1 := q3 H5 S5
                    rw [hall, hasc] at z1
                    exact z1
                  | true =>
                    refine if_t rfl ⟨_, rfl, b, _, _, xa, rfl, rfl, sqT_rd (upR hb2 S5), atI_nat (j := 1) rfl, _, rfl, _, rfl, b, _, _, _, rfl, rfl, sqT_rd (upR hb2 S5), atI_nat (j := 0) rfl, rfl, .inr ⟨_, rfl, _, _, rfl, rfl, xa, a, n + 0, ?_, (da.same S2).same S5, fun H' S' => ?_⟩⟩
                    · rw [hwd]
                      rfl
                    · have z1 := q3 H' (S5.trans S')
                      rw [hall, hasc] at z1
                      exact z1
                | false =>
                  rw [hzc] at hall q3
                  rw [if_neg Bool.false_ne_true] at hall q3
                  have hwd : decide (V.str z = V.str "state_in") = true := by
                    rw [dec_str]
                    rcases ei with e | e
                    · exact absurd e (of_decide_eq_false hzc)
                    · exact decide_eq_true e
                  obtain ⟨zs, rfl, hzs⟩ := all_idx hall
                  rw [List.length_map] at hds
                  obtain rfl := dat_ints hts
                  refine ⟨_, rfl, b, _, _, _, rfl, rfl, sqT_rd (upR hb2 S), atI_nat (j := 2) rfl, at', _, rfl, .inr (sqT_rd (upR hat S)), fun l1 n1 => ?_⟩
                  have T1 := same_new (o := HO.lst (zs.map V.int)) n1
                  have g1 : upd Hx l1 (.lst (zs.map V.int)) l1 = some (.lst (zs.map V.int)) := upd_same
                  generalize upd Hx l1 (.lst (zs.map V.int)) = H3 at T1 g1 ⊢
                  have S3 := S.trans T1
                  refine ⟨_, rfl, b, _, _, _, rfl, rfl, sqT_rd (upR hb2 S3), atI_nat (j := 2) rfl, .inr ⟨at', zs, rfl, .inr (sqT_rd (upR hat S3)), hds, fun p4 c4 n4 hc4 => .inr ⟨p4, _, c4, rfl, upd_same, by omega, fun ys l2 nd so hm hl4 n5 => ?_⟩⟩⟩
                  have T2 := (same_new n4).trans (same_new (o := HO.lst (ys.map V.int)) n5)
                  have g2 := T2 _ _ g1
                  refine ⟨_, _, .lst (SqL.of g2) (ints_dp zs), .lst (SqL.of upd_same) (ints_dp ys), (ints_shaped zs), (ints_shaped ys), _, rfl, ?_⟩
                  have hm' : ∀ y, y ∈ ys ↔ y ∈ zs := fun y => by rw [hm y, decide_eq_true_eq]
                  rw [eqv_ints, set_ints nd so hm']
                  have S5 := S3.trans T2
                  generalize upd _ l2 (.lst (ys.map V.int)) = H5 at T2 g2 S5 ⊢
                  cases hasc : ascB (zs.map PyData.int) with
                  | false =>
                    refine if_f rfl ?_
                    have z1 := q3 H5 S5
                    rw [hall, hasc] at z1
                    exact z1
                  | true =>
                    refine if_t rfl ⟨_, rfl, b, _, _, xa, rfl, rfl, sqT_rd (upR hb2 S5), atI_nat (j := 1) rfl, _, rfl, _, rfl, b, _, _, _, rfl, rfl, sqT_rd (upR hb2 S5), atI_nat (j := 0) rfl, rfl, .inr ⟨_, rfl, _, _, rfl, rfl, xa, a, n + 1, ?_, (da.same S2).same S5, fun H' S' => ?_⟩⟩
                    · rw [hwd]
                      rfl
                    · have z1 := q3 H' (S5.trans S')
                      rw [hall, hasc] at z1
                      exact z1
      · refine if_t (by
          show (!decide _) = true
          rw [decide_eq_false]
          · rfl
          · intro y
            have := V.int.inj y
            rw [List.length_cons] at this
            omega) (if_t rfl ?_)
        have z1 := q1 H1 (Same.refl H1)
        rw [eno (.inr h2)] at z1
        exact z1
end
end K9
set_option maxRecDepth 100000
set_option maxHeartbeats 8000000
namespace K9
open PySem PySem.Spec PyProof.Rows L2
open PySem.AutoSeq1 (wpAny_loadPart')
/-! ### a tuple of one value beside (0,) -/
theorem dict_no_int (l : Addr) (dd : Option Addr) (es : Array DictEntry) (ep : Nat) (sl : Array (Option Value)) (b : Int) (u : Tok) :
    Meets (Builtin.«dict.__eq__» ⟨[.ref l, .int b u], []⟩) (fun _ R s => s.heap.get? l = some { cls := .type "dict", dict := dd, data := .dict es ep, slots := sl } ∧ R (.ok (.ret .notImplemented)) s) :=
  .of_wp fun prog w A R s h => by
    obtain ⟨hp, g, d, tk, os⟩ := s
    obtain ⟨hl, h⟩ := h
    have f1 := F.sub_int_dict
    wp_walk using wpAny_loadPart' hl
    exact ⟨_, rfl, h⟩
theorem int_no_dict (l : Addr) (dd : Option Addr) (es : Array DictEntry) (ep : Nat) (sl : Array (Option Value)) (b : Int) (u : Tok) :
    Meets (Builtin.«int.__eq__» ⟨[.int b u, .ref l], []⟩) (fun _ R s => s.heap.get? l = some { cls := .type "dict", dict := dd, data := .dict es ep, slots := sl } ∧ R (.ok (.ret .notImplemented)) s) :=
  .of_wp fun prog w A R s h => by
    obtain ⟨hp, g, d, tk, os⟩ := s
    obtain ⟨hl, h⟩ := h
    wp_walk using wpAny_loadPart' hl, wpAny_load hl
    exact ⟨_, rfl, h⟩
end K9
namespace PySem.SeqAt
open PySem PyProof.Rows
theorem k2_dict_int {A : Around} {s : Shared} {l : Addr} {dd : Option Addr} {es : Array DictEntry} {ep : Nat} {sl : Array (Option Value)} (b : Int) (u : Tok) (hl : s.heap.get? l = some { cls := .type "dict", dict := dd, data := .dict es ep, slots := sl }) (hu : A.units < cLine) :
    EqAt A s (.ref l) (.int b u) false := fun prog w E Q h => by
  unfold eqBool
  refine wpAny_holding (wpAny_ite_split (fun hab => absurd (eq_of_beq hab) nofun) fun _ => wpAny_bind ?_)
  exact rc_eq_decline_or (k := false) ⟨_, hl, rfl⟩ (typeIs_int s b u) (by decide) F.sub_int_dict PySem.F.slot_dict_eq F.slot_int_eq_refl
    (fun _ hq => call_meets PySem.F.slot_dict_eq ⟨_, hl, rfl⟩ PySem.F.entry_dict_eq (PySem.F.args_dict_eq_2 _ _) (K9.dict_no_int l dd es ep sl b u) ⟨hl, hq⟩)
    (fun _ hq => call_meets F.slot_int_eq_refl (typeIs_int s b u) F.entry_int_eq (F.args_int_eq_2 _ _) (K9.int_no_dict l dd es ep sl b u) ⟨hl, hq⟩)
    (fun _ hq => wpAny_of_eq (rfl : isSame (.ref l) (.int b u) = pure false) hq) (.inr hu) (wpAny_truthy_bool h)
end PySem.SeqAt
namespace K9
open PySem PySem.Spec PyProof.Rows L2
def eqZero : PyData → Bool
  | .int i => i == 0
  | .bool b => (if b then 1 else 0) == (0 : Int)
  | _ => false
section
variable {X : Cx}
theorem zero_eqAt {pins : List (Addr × Obj)} {σ : L2.St} {H : Hp} {s : Shared} {x : V} {v : Value} {d : PyData} (I : Inv X pins σ H s) (hd : Dat H x d) (rx : RelV x v) {A : Around} (hu : A.units < cLine) (t : Tok) : SeqAt.EqAt A s v (.int 0 t) (eqZero d) := by
  cases hd with
  | non =>
    cases rx
    exact SeqAt.EqAt.none_int 0 t
  | bl b =>
    cases rx
    exact SeqAt.EqAt.bool_int b 0 t
  | int i =>
    obtain ⟨t2, rfl⟩ := rx
    exact SeqAt.EqAt.int_int i t2 0 t
  | str y hy =>
    obtain ⟨t2, rfl⟩ := rx
    exact SeqAt.EqAt.str_int y t2 0 t
  | @lst a xs ds ha hx =>
    cases rx
    obtain ⟨its, rv, p, _⟩ := I.list (SqL.of ha)
    exact SeqAt.EqAt.list_int 0 t p.isList hu
  | @tup a xs ds ha hx =>
    cases rx
    obtain ⟨its, rv, p, _⟩ := I.tuple (sqT_rd ha)
    exact SeqAt.EqAt.tuple_int 0 t p hu
  | @d0 a ha =>
    cases rx
    obtain ⟨_, ns, vs, kv, o, es, ep, ho, hx, hd, hk, hp, _⟩ := (show ObjOk X.prog X.w H s.heap a (.dK []) from I.hok a _ ha)
    obtain ⟨oc, od, dt, sl⟩ := o
    have e1 : oc = .type "dict" := hx.1
    have e2 : dt = .dict es ep := hd
    subst e1 e2
    exact SeqAt.k2_dict_int 0 t ho hu
/-- (d,) != (0,) -/
def rNeZero : R2 := fun x y H Q => ∃ (a b : Addr) (v : V) (d : PyData), x = .ref a ∧ y = .ref b ∧ TP H a [v] ∧ H b = some (.tup [.int 0]) ∧ Dat H v d ∧ Q (.bl (!eqZero d)) H
theorem op_neZero (hu : X.A.units + 1 < cLine) : OpR X (compareOp .NotEq) rNeZero := by
  intro pins s σ H x y v u Q I rx ry h
  obtain ⟨a, b, w, d, rfl, rfl, ha, hb, hd, q⟩ := h
  cases rx
  cases ry
  obtain ⟨its, rv, p, _⟩ := I.tuple (sqT_rd ha)
  obtain ⟨its2, rv2, p2, _⟩ := I.tuple (SqT.of hb)
  cases rv with
  | cons r0 rt =>
    cases rt
    cases rv2 with
    | cons r1 rt2 =>
      cases rt2
      obtain ⟨t, rfl⟩ := r1
      refine SeqAt.RcNeAt.tuples (e := fun _ => eqZero d) p p2 (by omega) (fun j h1 h2 => ?_) _ _ _ _ ⟨.bl (!eqZero d), H, I, ?_, q⟩
      · have hj : j = 0 := by simpa using h1
        subst hj
        exact zero_eqAt I hd r0 (by show X.A.in1.units < cLine; have : X.A.in1.units ≤ X.A.units + 1 := Nat.le_refl _; omega) t
      · simp [L2.RelV]
end
end K9
set_option maxRecDepth 100000
set_option maxHeartbeats 8000000
namespace K9
open PySem PySem.Spec PyProof.Rows L2
/-! ### questions of the other leaves, in the law's words -/
abbrev s_is_leaf_query : Stmt := top 56
def otherL : L9 → Bool
  | .sub _ _ => true
  | .arr _ => true
  | .cyc _ => true
  | .mat _ => true
  | .perm _ _ => true
  | .tree _ => true
  | _ => false
def smallL : L9 → Bool
  | .sub n _ => decide (n ≤ 1000)
  | .cyc n => decide (n ≤ 1000)
  | .mat n => decide (n ≤ 1000)
  | .perm n _ => decide (n ≤ 1000)
  | .tree n => decide (n ≤ 1000)
  | .word cs => decide (cs.map (·.1)).Nodup
  | _ => true
def hitB (zs : List Str) (z : Str) : Int := if (zs.any fun y => eqStr y (.str z)) = true then 1 else 0
/-- the three kinds with words of their own -/
def wordsL : L9 → Option (List Str)
  | .cyc _ => some ["successor", "predecessor"]
  | .perm _ _ => some ["image", "preimage"]
  | .mat _ => some ["partner"]
  | _ => none
theorem bd_two (x y z : Str) (m : Int) : bd [(x, m - 1), (y, m - 1)] z = m * hitB [x, y] z := by
  unfold bd hitB
  rw [List.lookup]
  by_cases h1 : z = x
  · rw [show (z == x) = true by rw [h1]; exact beq_self_eq_true _]
    have e : ([x, y].any fun w => eqStr w (.str z)) = true := by
      rw [List.any_cons]
      show ((z == x) || _) = true
      rw [show (z == x) = true by rw [h1]; exact beq_self_eq_true _]
      rfl
    rw [e, if_pos rfl, Int.mul_one]
    show m - 1 + 1 = m
    omega
  · rw [beq_eq_false_iff_ne.mpr h1, List.lookup]
    by_cases h2 : z = y
    · rw [show (z == y) = true by rw [h2]; exact beq_self_eq_true _]
      have e : ([x, y].any fun w => eqStr w (.str z)) = true := by
        rw [List.any_cons, List.any_cons]
        show ((z == x) || ((z == y) || _)) = true
        rw [show (z == y) = true by rw [h2]; exact beq_self_eq_true _, Bool.true_or, Bool.or_true]
      rw [e, if_pos rfl, Int.mul_one]
      show m - 1 + 1 = m
      omega
    · rw [beq_eq_false_iff_ne.mpr h2]
      have e : ([x, y].any fun w => eqStr w (.str z)) = false := by
        rw [List.any_cons, List.any_cons]
        show ((z == x) || ((z == y) || false)) = false
        rw [beq_eq_false_iff_ne.mpr h1, beq_eq_false_iff_ne.mpr h2]
        rfl
      rw [e, if_neg Bool.false_ne_true, Int.mul_zero]
      rfl
theorem bd_one (x z : Str) (m : Int) : bd [(x, m - 1)] z = m * hitB [x] z := by
  unfold bd hitB
  rw [List.lookup]
  by_cases h1 : z = x
  · rw [show (z == x) = true by rw [h1]; exact beq_self_eq_true _]
    have e : ([x].any fun w => eqStr w (.str z)) = true := by
      rw [List.any_cons]
      show ((z == x) || _) = true
      rw [show (z == x) = true by rw [h1]; exact beq_self_eq_true _]
      rfl
    rw [e, if_pos rfl, Int.mul_one]
    show m - 1 + 1 = m
    omega
  · rw [beq_eq_false_iff_ne.mpr h1]
    have e : ([x].any fun w => eqStr w (.str z)) = false := by
      rw [List.any_cons]
      show ((z == x) || false) = false
      rw [beq_eq_false_iff_ne.mpr h1]
      rfl
    rw [e, if_neg Bool.false_ne_true, Int.mul_zero]
    rfl
/-- the other four kinds -/
theorem leaf_kind {l : L9} {d1 : PyData} {ds : List PyData} (z : Str) (ho : otherL l = true) (hs : smallL l = true) (e : ldt l = .tuple (.str (hdL l) :: d1 :: ds)) :
    (∃ o, l = .arr o) ∨ (∃ n, l = .tree n) ∨ ∃ n : Nat, d1 = .int (n : Nat) ∧ n ≤ 1000 ∧ hdL l ≠ "arrangement" ∧ hdL l ≠ "tree" ∧
      ((hdL l = "subset" ∧ ∃ k : Nat, ds = [.int (k : Nat)] ∧ ∀ as', askL l z as' = one (bd [("contains", (n : Int) - 1), ("rank", (n : Int)), ("select", (k : Int) - 1)] z) as') ∨
       (hdL l ≠ "subset" ∧ ∃ zs : List Str, wordsL l = some zs ∧ ∀ as', askL l z as' = one ((n : Int) * (1 + if decide (V.str (hdL l) = V.str "matching") = true then 1 else 0) * hitB zs z) as')) := by
  cases l with
  | arr o => exact .inl ⟨o, rfl⟩
  | tree n => exact .inr (.inl ⟨n, rfl⟩)
  | sub n k =>
    have e' : (PyData.tuple [.str "subset", .int (n : Nat), .int (k : Nat)]) = .tuple (.str "subset" :: d1 :: ds) := e
    injection e' with e'
    injection e' with _ e'
    injection e' with e1 e2
    subst e1 e2
    exact .inr (.inr ⟨n, rfl, of_decide_eq_true hs, by show ("subset" : Str) ≠ "arrangement"; decide, by show ("subset" : Str) ≠ "tree"; decide, .inl ⟨rfl, k, rfl, fun as' => takes_bd _ z as'⟩⟩)
  | cyc n =>
    have e' : (PyData.tuple [.str "cycle", .int (n : Nat)]) = .tuple (.str "cycle" :: d1 :: ds) := e
    injection e' with e'
    injection e' with _ e'
    injection e' with e1 e2
    subst e1 e2
    refine .inr (.inr ⟨n, rfl, of_decide_eq_true hs, by show ("cycle" : Str) ≠ "arrangement"; decide, by show ("cycle" : Str) ≠ "tree"; decide, .inr ⟨by show ("cycle" : Str) ≠ "subset"; decide, _, rfl, fun as' => ?_⟩⟩)
    show cycleB n z as' = _
    unfold cycleB
    rw [takes_bd, bd_two, if_neg (by show ¬ decide (V.str "cycle" = V.str "matching") = true; decide), Int.add_zero, Int.mul_one]
  | perm n d =>
    have e' : (PyData.tuple [.str "permutation", .int (n : Nat), d]) = .tuple (.str "permutation" :: d1 :: ds) := e
    injection e' with e'
    injection e' with _ e'
    injection e' with e1 e2
    subst e1 e2
    refine .inr (.inr ⟨n, rfl, of_decide_eq_true hs, by show ("permutation" : Str) ≠ "arrangement"; decide, by show ("permutation" : Str) ≠ "tree"; decide, .inr ⟨by show ("permutation" : Str) ≠ "subset"; decide, _, rfl, fun as' => ?_⟩⟩)
    show permB n z as' = _
    unfold permB
    rw [takes_bd, bd_two, if_neg (by show ¬ decide (V.str "permutation" = V.str "matching") = true; decide), Int.add_zero, Int.mul_one]
  | mat n =>
    have e' : (PyData.tuple [.str "matching", .int (n : Nat)]) = .tuple (.str "matching" :: d1 :: ds) := e
    injection e' with e'
    injection e' with _ e'
    injection e' with e1 e2
    subst e1 e2
    refine .inr (.inr ⟨n, rfl, of_decide_eq_true hs, by show ("matching" : Str) ≠ "arrangement"; decide, by show ("matching" : Str) ≠ "tree"; decide, .inr ⟨by show ("matching" : Str) ≠ "subset"; decide, _, rfl, fun as' => ?_⟩⟩)
    show matchB n z as' = _
    unfold matchB
    rw [takes_bd, bd_one, if_pos (by show decide (V.str "matching" = V.str "matching") = true; decide), show (1 : Int) + 1 = 2 by rfl, Int.mul_comm 2]
  | _ => cases ho
def spLeafQ : Sp := fun vs H Q _ => ∃ (a0 b : Addr) (l : L9) (xs : List V) (z : Str) (as : List PyData), vs = [.ref a0, .ref b] ∧ Dat H (.ref a0) (ldt l) ∧ otherL l = true ∧ okL l = true ∧ smallL l = true ∧ TP H b xs ∧ DatAll H xs (.str z :: as) ∧ ∀ H', Same H H' → Q (.bl (askL l z as)) H'
/-- the part's first two items -/
theorem leaf_two {H : Hp} {a0 : Addr} {l : L9} (h : Dat H (.ref a0) (ldt l)) (ho : otherL l = true) : ∃ (v1 : V) (d1 : PyData) (ps : List V) (ds : List PyData), TP H a0 (.str (hdL l) :: v1 :: ps) ∧ ldt l = .tuple (.str (hdL l) :: d1 :: ds) ∧ Dat H v1 d1 ∧ DatAll H ps ds := by
  have go : ∀ (z : Str) (d1 : PyData) (ds : List PyData), ldt l = .tuple (.str z :: d1 :: ds) → hdL l = z → ∃ (v1 : V) (d1 : PyData) (ps : List V) (ds : List PyData), TP H a0 (.str (hdL l) :: v1 :: ps) ∧ ldt l = .tuple (.str (hdL l) :: d1 :: ds) ∧ Dat H v1 d1 ∧ DatAll H ps ds := fun z d1 ds e ez => by
    rw [e] at h
    obtain ⟨a, ps, ea, h0, hps⟩ := tup_hd h
    cases ea
    cases hps with
    | cons c t => exact ⟨_, d1, _, ds, by rw [ez]; exact h0, by rw [ez]; exact e, c, t⟩
  cases l with
  | sub n k => exact go _ _ _ rfl rfl
  | arr o => exact go _ _ _ rfl rfl
  | cyc n => exact go _ _ _ rfl rfl
  | mat n => exact go _ _ _ rfl rfl
  | perm n d => exact go _ _ _ rfl rfl
  | tree n => exact go _ _ _ rfl rfl
  | _ => cases ho
theorem one_len {B : Int} {as : List PyData} (h : as.length ≠ 1) : one B as = false := by
  match as with
  | [] => rfl
  | [a] => exact absurd rfl h
  | _ :: _ :: _ => rfl
section
variable {P : Program} {w : World} {K : PySem.W.Frag} {mg : Str → Option Value} {base : Heap}
theorem sc_is_leaf_query : FnScope ["_law_part", "_law_words", "_law_n", "_law_names_here", "_law_bounds", "_law_bound"] ["_law_part", "_law_words"] (defScope s_is_leaf_query) := ⟨rfl, rfl, rfl, by decide +kernel, rfl, by decide +kernel, by decide +kernel⟩
theorem okl_leafq {f fI fN : Addr} {fd fdI fdN : FuncData} (F : Fun K "_law_is_leaf_query" "_law_is_leaf_query" s_is_leaf_query f fd) (T : Nm mg) (D : DefOk K mg "_law_is_index" s_is_index ["_law_given", "_law_bound"] fI fdI)
    (DN : DefOk K mg "_law_names" s_names ["_law_order_here"] fN fdN) : FnOk P w K mg base CX0 8 f fd ["_law_part", "_law_words"] spLeafQ := by
  have GI : FnOk P w K mg base CX0 1 fI fdI ["_law_given", "_law_bound"] spIdx := okl_index D.F T
  have GN : FnOk P w K mg base CX0 7 fN fdN ["_law_order_here"] (spNames 6) := okl_names DN.F DN.b DN.g 6
  refine F.ok sc_is_leaf_query (fun vs H Q E h => ?_) (fun cdv A outer s H vs Q E hr h => ?_)
  · obtain ⟨a0, b, l, xs, z, as, rfl, _⟩ := h
    rfl
  · obtain ⟨a0, b, l, xs, z, as, rfl, hv, hol, hok, hsm, hb, hx, q⟩ := h
    have hu1 := hu_of hr
    have hr1 : Room 1 _ := hr.mono (by decide)
    refine ⟨_, (pss_cons (ps_set (i := 2) sc_is_leaf_query.nd rfl (Or.inl rfl) (pe_ix ix_tup (pv 0) pe_int (fun _ _ => rfl)))
      (pss_cons (ps_if (pt_cmpR op_eq (pe_ix ix_tup (pv 0) pe_int (fun _ _ => rfl)) pe_str (nomark _))
        (pss_cons (ps_set (i := 3) sc_is_leaf_query.nd rfl (Or.inl rfl) (pe_call GN hr rfl DN.g DN.F.kp DN.b .nil pass0 (pa_cons (pe_ix ix_tup (pv 0) pe_int (fun _ _ => rfl)) pa_nil)))
        (pss_cons (ps_if (pt_cmpR op_eq (pe_ix ix_tup (pv 1) pe_int (fun _ _ => rfl)) pe_str (nomark _))
          (pss_one (ps_ret (pe_and (pe_cmpR op_eq (pe_callB cr_lenS (by rfl) T.len PySem.boot_len (pa_cons (pv 1) pa_nil)) pe_int (nomark _)) (pe_and (pe_callB call_isi (by rfl) T.isinstance boot_isinstance (pa_cons (pe_ix ix_tup (pv 1) pe_int (fun _ _ => rfl)) (pa_cons (pe_bltn (v := .ty "str") rfl T.str (by decide +kernel) rfl) pa_nil))) (pe_one (pe_cmpR (op_inL hu1) (pe_ix ix_tup (pv 1) pe_int (fun _ _ => rfl)) (pv 3) rfl))))))
          pss_nil)
        (pss_one (ps_ret (pe_and (pe_cmpR op_eq (pe_ix ix_tup (pv 1) pe_int (fun _ _ => rfl)) pe_str (nomark _)) (pe_and (pe_cmpR op_eq (pe_callB cr_lenS (by rfl) T.len PySem.boot_len (pa_cons (pv 1) pa_nil)) pe_int (nomark _)) (pe_one (pe_call GI hr1 rfl D.g D.F.kp D.b .nil pass0 (pa_cons (pe_ix ix_tup (pv 1) pe_int (fun _ _ => rfl)) (pa_cons (pe_callB cr_lenS (by rfl) T.len PySem.boot_len (pa_cons (pv 3) pa_nil)) pa_nil))))))))))
        pss_nil)
      (pss_cons (ps_if (pt_cmpR op_eq (pe_ix ix_tup (pv 0) pe_int (fun _ _ => rfl)) pe_str (nomark _))
        (pss_one (ps_ret (pe_and (pe_cmpR op_eq (pe_ix ix_tup (pv 1) pe_int (fun _ _ => rfl)) pe_str (nomark _)) (pe_and (pe_cmpR op_eq (pe_callB cr_lenS (by rfl) T.len PySem.boot_len (pa_cons (pv 1) pa_nil)) pe_int (nomark _)) (pe_and (pe_cmpR (op_neZero hu1) (pe_slice sl_tupA (pv 1) (po_some pe_int) po_none) (pe_tup (pa_cons pe_int pa_nil)) (nomark _)) (pe_one (pe_call GI hr1 rfl D.g D.F.kp D.b .nil pass0 (pa_cons (pe_ix ix_tup (pv 1) pe_int (fun _ _ => rfl)) (pa_cons (pv 2) pa_nil)))))))))
        pss_nil)
      (pss_cons (ps_set (i := 4) sc_is_leaf_query.nd rfl (Or.inl rfl) (pe_disp (pps_cons pe_str (pe_lst (pa_cons pe_str (pa_cons pe_str pa_nil))) (pps_cons pe_str (pe_lst (pa_cons pe_str (pa_cons pe_str pa_nil))) (pps_cons pe_str (pe_lst (pa_cons pe_str pa_nil)) pps_nil))) (by rfl) (by rfl) (fun z => by cases z) (by decide)))
      (C8.pss_cut (ps_if (pt_cmpR op_eq (pe_ix ix_tup (pv 0) pe_int (fun _ _ => rfl)) pe_str (nomark _))
        (pss_one (ps_set (i := 5) sc_is_leaf_query.nd rfl (Or.inl rfl) (pe_dget2 hu1 (pe_disp (pps_cons pe_str (pv 2) (pps_cons pe_str (pe_op op_add (pv 2) pe_int) (pps_cons pe_str (pe_ix ix_tup (pv 0) pe_int (fun _ _ => rfl)) pps_nil))) (by rfl) (by rfl) (fun z => by cases z) (by decide)) (pe_ix ix_tup (pv 1) pe_int (fun _ _ => rfl)) pe_int ⟨rfl, rfl, rfl, rfl⟩)))
        (pss_one (ps_set (i := 5) sc_is_leaf_query.nd rfl (Or.inl rfl) (pe_op op_mulW (pe_op op_mulW (pv 2) (pe_op op_add pe_int (pe_callTy call_int1 (by rfl) T.int (by decide +kernel) (pa_cons (pe_cmpR op_eq (pe_ix ix_tup (pv 0) pe_int (fun _ _ => rfl)) pe_str (nomark _)) pa_nil)))) (pe_callTy call_int1 (by rfl) T.int (by decide +kernel) (pa_cons (pe_cmpR (op_inL hu1) (pe_ix ix_tup (pv 1) pe_int (fun _ _ => rfl)) (pe_dget hu1 (pv 4) (pe_ix ix_tup (pv 0) pe_int (fun _ _ => rfl)) (fun _ _ => rfl)) rfl) pa_nil))))))
      (pss_one (ps_ret (pe_and (pe_cmpR op_eq (pe_callB cr_lenS (by rfl) T.len PySem.boot_len (pa_cons (pv 1) pa_nil)) pe_int (nomark _)) (pe_one (pe_call GI hr1 rfl D.g D.F.kp D.b .nil pass0 (pa_cons (pe_ix ix_tup (pv 1) pe_int (fun _ _ => rfl)) (pa_cons (pv 5) pa_nil)))))))))))), ?_⟩
    obtain ⟨v1, d1, ps, ds, h0, eL, c1, cps⟩ := leaf_two hv hol
    obtain ⟨x0, xs', exs⟩ : ∃ x0 xs', xs = x0 :: xs' := by
      cases hx with
      | cons c t => exact ⟨_, _, rfl⟩
    subst exs
    obtain ⟨c0, ct⟩ : Dat H x0 (.str z) ∧ DatAll H xs' as := by
      cases hx with
      | cons c t => exact ⟨c, t⟩
    have hzl : z.length ≤ 1000 := by
      cases c0
      assumption
    cases c0
    have hlx := ct.len
    refine ⟨_, rfl, a0, _, _, _, rfl, rfl, sqT_rd h0, atI_nat (j := 1) rfl, ?_⟩
    refine ⟨_, rfl, a0, _, _, _, rfl, rfl, sqT_rd h0, atI_nat (j := 0) rfl, rfl, _, rfl, ?_⟩
    rcases leaf_kind z hol hsm eL with ⟨o, rfl⟩ | ⟨n, rfl⟩ | ⟨n, rfl, hn, hA, hT, hk⟩
    · 
      have eL' : (PyData.tuple [.str "arrangement", o]) = .tuple (.str "arrangement" :: d1 :: ds) := eL
      injection eL' with eL'
      injection eL' with _ eL'
      injection eL' with e1 e2
      subst e1 e2
      have hok : orderB 6 o = true := hok
      have q : ∀ H', Same H H' → Q (.bl (arrB o z as)) H' := q
      refine if_t (decide_eq_true rfl) ⟨_, rfl, a0, _, _, _, rfl, rfl, sqT_rd h0, atI_nat (j := 1) rfl, v1, o, rfl, Nat.le_refl 6, c1, hok, fun p H1 S1 np hp => ?_⟩
      have q1 := fun H' S' => q H' (S1.trans S')
      have hb1 := upR hb S1
      have ct1 := ct.same S1
      refine ⟨_, rfl, b, _, _, _, rfl, rfl, sqT_rd hb1, atI_nat (j := 0) rfl, rfl, _, rfl, ?_⟩
      rw [dec_str]
      cases hz : decide (z = ("locate" : Str)) with
      | true =>
        have hz' := of_decide_eq_true hz
        refine if_t rfl ⟨_, rfl, b, _, rfl, .inr (sqT_rd hb1), rfl, _, rfl, ?_⟩
        have eno : as.length ≠ 1 → arrB o z as = false := fun h1 => by
          unfold arrB
          rw [hz, decide_eq_false h1, Bool.and_false, if_neg Bool.false_ne_true, takes_bd]
          exact one_len h1
        match as, xs', ct1, hlx, q1, eno, hb1 with
        | [], [], _, _, q1, eno, hb1 =>
          refine if_f rfl ?_
          have z1 := q1 H1 (Same.refl H1)
          rw [eno (by simp)] at z1
          exact z1
        | [a], [x], .cons da .nil, _, q1, eno, hb1 =>
          have z1 : ∀ H', Same H1 H' → Q (.bl ((namesN 6 o).any fun y => eqStr y a)) H' := fun H' S' => by
            have z0 := q1 H' S'
            unfold arrB at z0
            rw [hz] at z0
            exact z0
          refine if_t rfl ⟨_, rfl, b, _, _, x, rfl, rfl, sqT_rd hb1, atI_nat (j := 1) rfl, x, .ty "str", _, _, _, rfl, .ty _, da.ty, kit_str _ a, _, rfl, ?_⟩
          cases hs : isStr a with
          | false =>
            refine if_f rfl ?_
            have e : ((namesN 6 o).any fun y => eqStr y a) = false := by
              rw [List.any_eq_false]
              intro y _
              cases a with
              | str y => cases hs
              | _ => exact Bool.false_ne_true
            have z2 := z1 H1 (Same.refl H1)
            rw [e] at z2
            exact z2
          | true =>
            exact if_t rfl ⟨_, rfl, b, _, _, x, rfl, rfl, sqT_rd hb1, atI_nat (j := 1) rfl, _, rfl, a, p, namesN 6 o, da, rfl, hp, z1 H1 (Same.refl H1)⟩
        | a :: a2 :: as, x :: x2 :: xs', _, _, q1, eno, hb1 =>
          refine if_f (decide_eq_false fun y => ?_) ?_
          · have := V.int.inj y
            simp only [List.length_cons] at this
            omega
          · have z1 := q1 H1 (Same.refl H1)
            rw [eno (by simp)] at z1
            exact z1
      | false =>
        have z1 : ∀ H', Same H1 H' → Q (.bl (one (bd [("entry", ((namesN 6 o).length : Int) - 1)] z) as)) H' := fun H' S' => by
          have z0 := q1 H' S'
          unfold arrB at z0
          rw [hz, Bool.false_and, if_neg Bool.false_ne_true, takes_bd] at z0
          exact z0
        refine if_f rfl ⟨_, rfl, b, _, _, _, rfl, rfl, sqT_rd hb1, atI_nat (j := 0) rfl, rfl, _, rfl, ?_⟩
        rw [dec_str]
        cases he : decide (z = ("entry" : Str)) with
        | false =>
          refine if_f rfl ?_
          have e0 : bd [("entry", ((namesN 6 o).length : Int) - 1)] z = 0 := by
            unfold bd
            rw [List.lookup, beq_eq_false_iff_ne.mpr (of_decide_eq_false he)]
            rfl
          have z2 := z1 H1 (Same.refl H1)
          rw [e0] at z2
          have e3 : one 0 as = false := by
            match as with
            | [] => rfl
            | [a] => exact btw_neg (Int.le_refl 0)
            | _ :: _ :: _ => rfl
          rw [e3] at z2
          exact z2
        | true =>
          have hz' := of_decide_eq_true he
          subst hz'
          have e0 : bd [("entry", ((namesN 6 o).length : Int) - 1)] "entry" = ((namesN 6 o).length : Int) := by
            show ((namesN 6 o).length : Int) - 1 + 1 = _
            omega
          rw [e0] at z1
          refine if_t rfl (fin_two (i := 1) (z := "entry") (as := as) (B := ((namesN 6 o).length : Int)) hb1 (hx.same S1) rfl (fun R hR => ?_) z1)
          refine ⟨_, rfl, p, _, rfl, .inl (SqL.of hp), ?_⟩
          rw [List.length_map]
          exact hR H1 (Same.refl H1)
    · 
      have eL' : (PyData.tuple [.str "tree", .int (n : Nat)]) = .tuple (.str "tree" :: d1 :: ds) := eL
      injection eL' with eL'
      injection eL' with _ eL'
      injection eL' with e1 e2
      subst e1 e2
      cases c1
      have q : ∀ H', Same H H' → Q (.bl (treeB n z as)) H' := q
      refine if_f (decide_eq_false (show ¬ (V.str "tree" = V.str "arrangement") by decide)) ⟨_, rfl, a0, _, _, _, rfl, rfl, sqT_rd h0, atI_nat (j := 0) rfl, rfl, _, rfl, if_t (decide_eq_true rfl) ?_⟩
      refine ⟨_, rfl, b, _, _, _, rfl, rfl, sqT_rd hb, atI_nat (j := 0) rfl, rfl, _, rfl, ?_⟩
      rw [dec_str]
      have et : ∀ as', treeB n z as' = (one (bd [("parent", (n : Int) - 1)] z) as' && !decide (intOf (as'.headD .none) = 0)) := fun as' => by
        unfold treeB
        rw [takes_bd]
      cases he : decide (z = ("parent" : Str)) with
      | false =>
        refine if_f rfl ?_
        have e0 : bd [("parent", (n : Int) - 1)] z = 0 := by
          unfold bd
          rw [List.lookup, beq_eq_false_iff_ne.mpr (of_decide_eq_false he)]
          rfl
        have z2 := q H (Same.refl H)
        rw [et, e0] at z2
        have e3 : one 0 as = false := by
          match as with
          | [] => rfl
          | [a] => exact btw_neg (Int.le_refl 0)
          | _ :: _ :: _ => rfl
        rw [e3] at z2
        exact z2
      | true =>
        have hz' := of_decide_eq_true he
        subst hz'
        have e0 : bd [("parent", (n : Int) - 1)] "parent" = (n : Int) := by
          show (n : Int) - 1 + 1 = _
          omega
        refine if_t rfl ⟨_, rfl, b, _, rfl, .inr (sqT_rd hb), rfl, _, rfl, ?_⟩
        match as, xs', ct, hlx, q, hb with
        | [], [], _, _, q, hb =>
          refine if_f rfl ?_
          have z1 := q H (Same.refl H)
          rw [et] at z1
          exact z1
        | [a], [x], .cons da .nil, _, q, hb =>
          refine if_t rfl ⟨_, rfl, 1, rfl, ?_⟩
          dsimp only [tNoPart]
          refine slAny_of hb fun b2 H1 S1 hb2 => ⟨(by show 1 ≤ sizeLine; decide), fun p np => ?_⟩
          have hb2' : TP H1 b2 [x] := hb2
          have S2 := same_new (o := HO.tup [.int 0]) np
          refine ⟨b2, p, x, a, rfl, rfl, upR hb2' S2, upd_same, (da.same S1).same S2, _, rfl, ?_⟩
          generalize upd H1 p (.tup [.int 0]) = H2 at S2 ⊢
          have S12 := S1.trans S2
          have z1 : ∀ H', Same H2 H' → Q (.bl (btw 0 ((n : Int) - 1) a && !decide (intOf a = 0))) H' := fun H' S' => by
            have z0 := q H' (S12.trans S')
            rw [et, e0] at z0
            exact z0
          cases hq : eqZero a with
          | true =>
            refine if_f rfl ?_
            have e : (btw 0 ((n : Int) - 1) a && !decide (intOf a = 0)) = false := by
              cases a with
              | int i =>
                have : i = 0 := by
                  have h : (i == 0) = true := hq
                  exact beq_iff_eq.mp h
                subst this
                rw [show intOf (.int 0) = 0 from rfl, decide_eq_true rfl, Bool.not_true, Bool.and_false]
              | _ => rfl
            have z2 := z1 H2 (Same.refl H2)
            rw [e] at z2
            exact z2
          | false =>
            refine if_t rfl ⟨_, rfl, b, _, _, x, rfl, rfl, sqT_rd (upR hb S12), atI_nat (j := 1) rfl, _, rfl, x, a, (n : Int), rfl, da.same S12, fun H' S' => ?_⟩
            have e : (btw 0 ((n : Int) - 1) a && !decide (intOf a = 0)) = btw 0 ((n : Int) - 1) a := by
              cases a with
              | int i =>
                have : ¬ i = 0 := by
                  have h : (i == 0) = false := hq
                  exact beq_eq_false_iff_ne.mp h
                rw [show intOf (.int i) = i from rfl, decide_eq_false this, Bool.not_false, Bool.and_true]
              | _ => rfl
            have z2 := z1 H' S'
            rw [e] at z2
            exact z2
        | a :: a2 :: as, x :: x2 :: xs', _, _, q, hb =>
          refine if_f (decide_eq_false fun y => ?_) ?_
          · have := V.int.inj y
            simp only [List.length_cons] at this
            omega
          · have z1 := q H (Same.refl H)
            rw [et] at z1
            exact z1
    · cases c1
      refine if_f (decide_eq_false fun e => hA (V.str.inj e)) ⟨_, rfl, a0, _, _, _, rfl, rfl, sqT_rd h0, atI_nat (j := 0) rfl, rfl, _, rfl, if_f (decide_eq_false fun e => hT (V.str.inj e)) ?_⟩
      refine fun p np => ⟨(by show 2 ≤ sizeLine; decide), fun l1 n1 => ⟨(by show 2 ≤ sizeLine; decide), fun l2 n2 => ⟨(by show 1 ≤ sizeLine; decide), fun l3 n3 => ?_⟩⟩⟩
      have t1 := same_new (o := HO.lst [.str "successor", .str "predecessor"]) n1
      have t2 := same_new (o := HO.lst [.str "image", .str "preimage"]) n2
      have t3 := same_new (o := HO.lst [.str "partner"]) n3
      have s0 := same_new (o := HO.dK []) np
      have g0 : upd H p (.dK []) p = some (.dK []) := upd_same
      have k1 : upd (upd H p (.dK [])) l1 (.lst [.str "successor", .str "predecessor"]) l1 = some (.lst [.str "successor", .str "predecessor"]) := upd_same
      have k2 : upd (upd (upd H p (.dK [])) l1 (.lst [.str "successor", .str "predecessor"])) l2 (.lst [.str "image", .str "preimage"]) l2 = some (.lst [.str "image", .str "preimage"]) := upd_same
      have k3 : upd (upd (upd (upd H p (.dK [])) l1 (.lst [.str "successor", .str "predecessor"])) l2 (.lst [.str "image", .str "preimage"])) l3 (.lst [.str "partner"]) l3 = some (.lst [.str "partner"]) := upd_same
      have w1 : l1 ≠ p := fun e => by
        rw [e, g0] at n1
        cases n1
      have g1 := t1 _ _ g0
      have w2 : l2 ≠ p := fun e => by
        rw [e, g1] at n2
        cases n2
      have g2 := t2 _ _ g1
      have w3 : l3 ≠ p := fun e => by
        rw [e, g2] at n3
        cases n3
      have g3 := t3 _ _ g2
      have k1' := t3 _ _ (t2 _ _ k1)
      have k2' := t3 _ _ k2
      have s3 := ((s0.trans t1).trans t2).trans t3
      generalize upd (upd (upd (upd H p (.dK [])) l1 (.lst [.str "successor", .str "predecessor"])) l2 (.lst [.str "image", .str "preimage"])) l3 (.lst [.str "partner"]) = H4 at g3 k1' k2' k3 s3 ⊢
      refine ⟨g3, [(.inr "cycle", .ref l1), (.inr "permutation", .ref l2), (.inr "matching", .ref l3)], rfl, (by show 3 ≤ 15; decide), ?_⟩
      have S5 : Same H (upd H4 p (.dK (mergeK [] [(.inr "cycle", .ref l1), (.inr "permutation", .ref l2), (.inr "matching", .ref l3)]))) := fun c o e => by
        rw [upd_ne (ne_of_none e np)]
        exact s3 _ _ e
      have g5 : upd H4 p (.dK (mergeK [] [(.inr "cycle", .ref l1), (.inr "permutation", .ref l2), (.inr "matching", .ref l3)])) p = some (.dK [(.inr "cycle", .ref l1), (.inr "permutation", .ref l2), (.inr "matching", .ref l3)]) := upd_same
      have j1 : upd H4 p (.dK (mergeK [] [(.inr "cycle", .ref l1), (.inr "permutation", .ref l2), (.inr "matching", .ref l3)])) l1 = some (.lst [.str "successor", .str "predecessor"]) := by rw [upd_ne w1]; exact k1'
      have j2 : upd H4 p (.dK (mergeK [] [(.inr "cycle", .ref l1), (.inr "permutation", .ref l2), (.inr "matching", .ref l3)])) l2 = some (.lst [.str "image", .str "preimage"]) := by rw [upd_ne w2]; exact k2'
      have j3 : upd H4 p (.dK (mergeK [] [(.inr "cycle", .ref l1), (.inr "permutation", .ref l2), (.inr "matching", .ref l3)])) l3 = some (.lst [.str "partner"]) := by rw [upd_ne w3]; exact k3
      generalize upd H4 p (.dK (mergeK [] [(.inr "cycle", .ref l1), (.inr "permutation", .ref l2), (.inr "matching", .ref l3)])) = H5 at S5 g5 j1 j2 j3 ⊢
      refine ⟨fun σ H' => ∃ B : Int, σ = [some (.ref a0), some (.ref b), some (.int (n : Nat)), none, some (.ref p), some (.int B)] ∧ Same H H' ∧ ∀ as', askL l z as' = one B as', ?_, ?_⟩
      · refine ⟨_, rfl, a0, _, _, _, rfl, rfl, sqT_rd (upR h0 S5), atI_nat (j := 0) rfl, rfl, _, rfl, ?_⟩
        rcases hk with ⟨hS, k, rfl, hB⟩ | ⟨hS, zs, hw, hB⟩
        · obtain ⟨vk, rfl, ck⟩ := dat1 cps
          cases ck
          refine if_t (decide_eq_true (by rw [hS])) fun p2 np2 => ⟨_, rfl, _, rfl, _, _, rfl, rfl, _, rfl, a0, _, _, _, rfl, rfl, sqT_rd (upR (upR h0 S5) (same_new np2)), atI_nat (j := 2) rfl, upd_same, kvB [("contains", (n : Int) - 1), ("rank", (n : Int)), ("select", (k : Int) - 1)], ?_, (by show 3 ≤ 15; decide), ?_⟩
          · show _ = [(V.str "contains", V.int ((n : Int) - 1 + 1)), (V.str "rank", V.int ((n : Int) + 1)), (V.str "select", V.int ((k : Int) - 1 + 1))]
            rw [Int.sub_add_cancel, Int.sub_add_cancel]
          · have S6 := disp_same (o := .dK (mergeK [] (kvB [("contains", (n : Int) - 1), ("rank", (n : Int)), ("select", (k : Int) - 1)]))) np2
            have g6 : upd (upd H5 p2 (.dK [])) p2 (.dK (mergeK [] (kvB [("contains", (n : Int) - 1), ("rank", (n : Int)), ("select", (k : Int) - 1)]))) p2 = some (.dK (kvB [("contains", (n : Int) - 1), ("rank", (n : Int)), ("select", (k : Int) - 1)])) := upd_same
            generalize upd (upd H5 p2 (.dK [])) p2 (.dK (mergeK [] (kvB [("contains", (n : Int) - 1), ("rank", (n : Int)), ("select", (k : Int) - 1)]))) = H6 at S6 g6 ⊢
            have S56 := S5.trans S6
            refine ⟨p2, rfl, .inl ⟨_, .inl g6⟩, _, rfl, b, _, _, _, rfl, rfl, sqT_rd (upR hb S56), atI_nat (j := 0) rfl, _, DGet.k (k := .inr z) g6, ?_⟩
            rw [kvB_get]
            exact ⟨_, rfl, S56, hB⟩
        · refine if_f (decide_eq_false fun e => hS (V.str.inj e)) ?_
          have hg : ∃ li : Addr, H5 li = some (.lst (zs.map V.str)) ∧ DGet H5 p (.str (hdL l)) (some (.ref li)) := by
            cases l with
            | cyc n => cases hw; exact ⟨l1, j1, DGet.k (k := .inr "cycle") g5⟩
            | perm n d => cases hw; exact ⟨l2, j2, DGet.k (k := .inr "permutation") g5⟩
            | mat n => cases hw; exact ⟨l3, j3, DGet.k (k := .inr "matching") g5⟩
            | _ => cases hw
          obtain ⟨li, hli, hget⟩ := hg
          have small : ∀ i : Nat, i ≤ 2000 → ((i : Nat) : Int).natAbs.log2 < 20 := fun i hi => by
            rw [Int.natAbs_natCast]
            by_cases h : i = 0
            · rw [h]; decide
            · exact (Nat.log2_lt h).mpr (by omega)
          refine ⟨_, rfl, _, rfl, a0, _, _, _, rfl, rfl, sqT_rd (upR h0 S5), atI_nat (j := 0) rfl, rfl, .inr ⟨_, rfl, _, _, rfl, rfl, _, _, rfl, rfl, ?_, ?_⟩⟩
          · show _ + _ < 1000000
            have := small n (by omega)
            split
            · have : ((1 : Int) + 1).natAbs.log2 = 1 := by decide
              omega
            · have : ((1 : Int) + 0).natAbs.log2 = 0 := by decide
              omega
          · refine ⟨_, rfl, b, _, _, _, rfl, rfl, sqT_rd (upR hb S5), atI_nat (j := 0) rfl, _, rfl, _, rfl, a0, _, _, _, rfl, rfl, sqT_rd (upR h0 S5), atI_nat (j := 0) rfl, p, _, rfl, hget, .str z, li, zs, .str z hzl, rfl, hli, .inr ⟨_, rfl, _, _, rfl, rfl, ?_, ?_⟩⟩
            · show _ + _ < 1000000
              have e1 : ((if (zs.any fun y => eqStr y (.str z)) = true then 1 else 0 : Int)).natAbs.log2 = 0 := by
                split <;> decide
              rw [e1]
              split
              · have := small (n * 2) (by omega)
                have e : ((n : Int) * (1 + 1)) = ((n * 2 : Nat) : Int) := by omega
                rw [e]
                omega
              · have := small n (by omega)
                have e : ((n : Int) * (1 + 0)) = ((n : Nat) : Int) := by omega
                rw [e]
                omega
            · exact ⟨_, rfl, S5, hB⟩
      · rintro σ H' ⟨B, rfl, S', hB⟩
        refine fin_two (i := 1) (z := z) (as := as) (B := B) (upR hb S') (hx.same S') rfl (fun R hR => ⟨_, rfl, hR H' (Same.refl H')⟩) fun H2 S2 => ?_
        have z1 := q H2 (S'.trans S2)
        rw [hB] at z1
        exact z1
end
end K9
set_option maxRecDepth 100000
set_option maxHeartbeats 8000000
namespace K9
open PySem PySem.Spec PyProof.Rows L2
/-! ### words == ("selected",) -/
section
variable {X : Cx}
def rEqOne : R2 := fun x y H Q => ∃ (a b : Addr) (z u : Str) (xs : List V), x = .ref a ∧ y = .ref b ∧ TP H a (.str z :: xs) ∧ H b = some (.tup [.str u]) ∧ Q (.bl (decide (z = u) && xs.isEmpty)) H
theorem op_eqOne (hu : X.A.units + 1 < cLine) : OpR X (compareOp .Eq) rEqOne := by
  intro pins s σ H x y v u Q I rx ry h
  obtain ⟨a, b, z, u0, xs, rfl, rfl, ha, hb, q⟩ := h
  cases rx
  cases ry
  obtain ⟨its, rv, p, _⟩ := I.tuple (sqT_rd ha)
  obtain ⟨its2, rv2, p2, _⟩ := I.tuple (SqT.of hb)
  cases rv with
  | cons r0 rt =>
    obtain ⟨t0, rfl⟩ := r0
    cases rv2 with
    | cons r1 rt2 =>
      cases rt2
      obtain ⟨t, rfl⟩ := r1
      have hl := rt.length
      refine SeqAt.eq_tupleAt (e := fun _ => (z == u0)) p p2 (by omega) (fun j h1 h2 => ?_) ⟨.bl (decide (z = u0) && xs.isEmpty), H, I, ?_, q⟩
      · have hj : j = 0 := by
          have : j < 1 := h2
          omega
        subst hj
        exact SeqAt.EqAt.str_str z t0 u0 t
      · have hb1 : (z == u0) = decide (z = u0) := by
          by_cases h : z = u0
          · rw [decide_eq_true h, h]
            exact beq_self_eq_true _
          · rw [decide_eq_false h]
            exact beq_eq_false_iff_ne.mpr h
        cases xs with
        | nil =>
          cases rt
          simp [L2.RelV, hb1]
        | cons x1 xs =>
          cases rt
          simp [L2.RelV]
end
end K9
set_option maxRecDepth 100000
set_option maxHeartbeats 8000000
namespace K9
open PySem PySem.Spec PyProof.Rows L2
/-! ### what is asked of a space at every depth -/
/-- the sizes of leaves -/
def cntsY (cs : Cn) : Bool := decide ((cs.map (·.2)).sum ≤ 1000) && cs.all fun c => nameS c.1
def leafZ : L9 → Bool
  | .sub _ k => decide (k ≤ 1000)
  | .word cs => cntsY cs
  | .arr o => decide ((namesN 6 o).length ≤ 60)
  | .mat n => decide (n ≤ 500)
  | .walk n s e lo hi => (decide (0 ≤ n) && decide (n ≤ 60)) && ((decide (-100 ≤ s) && decide (s ≤ 100)) && ((decide (-100 ≤ e) && decide (e ≤ 100)) && ((decide (-100 ≤ lo) && decide (lo ≤ 100)) && (decide (-100 ≤ hi) && decide (hi ≤ 100)))))
  | .str ms _ n => decide (n ≤ 60) && (decide (ms.length ≤ 6) && ms.all fun m => nameS m.2.1)
  | _ => true
mutual
def smS : S9 → Bool
  | .leaf l => smallL l && leafZ l
  | .row _ xs => smSs xs
  | .pow _ x => smS x
  | .dec _ xs => smSs xs
def smSs : List S9 → Bool
  | [] => true
  | x :: xs => smS x && smSs xs
end
theorem sm_mem : ∀ {xs : List S9} {x : S9}, smSs xs = true → x ∈ xs → smS x = true
  | y :: xs, x, hb, h => by
    rw [smSs, Bool.and_eq_true] at hb
    rcases List.mem_cons.mp h with rfl | h
    · exact hb.1
    · exact sm_mem hb.2 h
structure FineS (s : S9) : Prop where
  ok : okS s = true
  ti : tinyS s = true
  sm : smS s = true
theorem FineS.next {s e : S9} {d : PyData} (h : FineS s) (hn : nextS s d = some e) : FineS e := by
  refine ⟨next_ok h.ok hn, ?_, ?_⟩
  · have hm := (next_iff s d e (okS_d h.ok)).mp hn
    have ht := h.ti
    cases s with
    | leaf l => cases hm
    | row c xs =>
      rw [tinyS, Bool.and_eq_true] at ht
      obtain ⟨j, _, hj⟩ := (enum_get xs 0 d e).mp hm
      exact tiny_mem ht.2 (List.mem_of_getElem? hj)
    | pow n x =>
      rw [tinyS, Bool.and_eq_true] at ht
      obtain ⟨k, _, hk⟩ := List.mem_map.mp hm
      cases hk
      exact ht.2
    | dec cs xs =>
      rw [tinyS, Bool.and_eq_true] at ht
      obtain ⟨q, hq, hq2⟩ := List.mem_flatMap.mp hm
      obtain ⟨rfl, _⟩ := dec_mem.mp hq2
      exact tiny_mem ht.2 (List.of_mem_zip (a := q.1) (b := q.2) hq).2
  · have hm := (next_iff s d e (okS_d h.ok)).mp hn
    have ht := h.sm
    cases s with
    | leaf l => cases hm
    | row c xs =>
      rw [smS] at ht
      obtain ⟨j, _, hj⟩ := (enum_get xs 0 d e).mp hm
      exact sm_mem ht (List.mem_of_getElem? hj)
    | pow n x =>
      rw [smS] at ht
      obtain ⟨k, _, hk⟩ := List.mem_map.mp hm
      cases hk
      exact ht
    | dec cs xs =>
      rw [smS] at ht
      obtain ⟨q, hq, hq2⟩ := List.mem_flatMap.mp hm
      obtain ⟨rfl, _⟩ := dec_mem.mp hq2
      exact sm_mem ht (List.of_mem_zip (a := q.1) (b := q.2) hq).2
/-- is_due: what the law takes for a query -/
abbrev s_is_due : Stmt := top 57
def spDue : Sp := fun vs H Q _ => ∃ (v x : V) (s : S9) (d : PyData), vs = [v, x] ∧ Dat H v (dt s) ∧ FzS H v s ∧ FineS s ∧ Dat H x d ∧ shortQ (tupItems d) ∧ (∀ ds q, d = .tuple (.tuple ds :: q) → ∀ e ∈ ds, RepOk e) ∧ ∀ H', Same H H' → Q (.bl (queryI Y9 s d)) H'
/-- the part at a path, walked step by step -/
def walkP : Option S9 → List PyData → Option S9
  | o, [] => o
  | none, _ :: ds => walkP none ds
  | some s, d :: ds => walkP (nextS s d) ds
theorem walk_none : ∀ ds : List PyData, walkP none ds = none
  | [] => rfl
  | _ :: ds => walk_none ds
theorem partI_cons {Y : Sys} (s : Y.ι) (d : PyData) (ds : List PyData) : partI Y s (d :: ds) = (Y.nx s d).bind fun e => partI Y e ds := by
  rw [partI]
  cases Y.nx s d <;> rfl
theorem walk_partI : ∀ (ds : List PyData) (s : S9), walkP (some s) ds = partI Y9 s ds
  | [], s => rfl
  | d :: ds, s => by
    refine Eq.trans ?_ (partI_cons (Y := Y9) s d ds).symm
    show walkP (nextS s d) ds = (nextS s d).bind fun e => partI Y9 e ds
    cases nextS s d with
    | none => exact walk_none ds
    | some e => exact walk_partI ds e
theorem walk_snoc : ∀ (ds : List PyData) (o : Option S9) (d : PyData), walkP o (ds ++ [d]) = (walkP o ds).bind fun e => nextS e d
  | [], none, d => rfl
  | [], some s, d => rfl
  | c :: ds, none, d => walk_snoc ds none d
  | c :: ds, some s, d => walk_snoc ds (nextS s c) d
theorem sc_is_due : FnScope ["_law_domain", "_law_given", "_law_part", "_law_words", "_law_step"] ["_law_domain", "_law_given"] (defScope s_is_due) := ⟨rfl, rfl, rfl, by decide +kernel, rfl, by decide +kernel, by decide +kernel⟩
end K9
set_option maxRecDepth 100000
set_option maxHeartbeats 8000000
namespace K9
open PySem PySem.Spec PyProof.Rows L2
theorem queryI_tup {Y : Sys} (s : Y.ι) (path q : List PyData) : queryI Y s (.tuple (.tuple path :: q)) = match partI Y s path with
    | some e => Y.ask e q
    | none => false := by
  rw [queryI] <;> (cases partI Y s path <;> rfl)
theorem ask_nil (s : S9) : askQ (askS s) [] = false := rfl
/-- the head of a part's datum -/
def hd9 : S9 → Str
  | .leaf l => hdL l
  | .row c _ => rowW c
  | .pow _ _ => "power"
  | .dec _ _ => "decorated"
theorem dt_hd9 {H : Hp} {u : V} {e : S9} (h : Dat H u (dt e)) : ∃ (au : Addr) (ps : List V), u = .ref au ∧ TP H au (.str (hd9 e) :: ps) := by
  have : ∃ ds, dt e = .tuple (.str (hd9 e) :: ds) := by
    cases e with
    | leaf l =>
      obtain ⟨ds, e⟩ := ldt_hd l
      exact ⟨ds, by rw [dt]; exact e⟩
    | row c xs => exact ⟨_, by rw [dt]; rfl⟩
    | pow n x => exact ⟨_, by rw [dt]; rfl⟩
    | dec cs xs => exact ⟨_, by rw [dt]; rfl⟩
  obtain ⟨ds, e⟩ := this
  rw [e] at h
  obtain ⟨a, ps, e1, e2, _⟩ := tup_hd h
  exact ⟨a, ps, e1, e2⟩
theorem noPP : ∀ z ∈ hds, ¬ (z = ("product" : Str) ∨ z = ("power" : Str)) := by decide +kernel
theorem noC : ∀ z ∈ hds, ¬ (z = ("choice" : Str)) := by decide +kernel
theorem kind_no {e : S9} (h : (decide (hd9 e = ("product" : Str)) || decide (hd9 e = ("power" : Str))) = true) : ∀ z as, askS e z as = false := by
  rw [Bool.or_eq_true, decide_eq_true_eq, decide_eq_true_eq] at h
  cases e with
  | leaf l =>
    have := hd_mem l
    have h : hdL l = "product" ∨ hdL l = "power" := h
    exact absurd h (noPP _ this)
  | row c xs =>
    cases c with
    | true =>
      have h : ("choice" : Str) = "product" ∨ ("choice" : Str) = "power" := h
      exact absurd h (by decide +kernel)
    | false => exact fun _ _ => rfl
  | pow n x => exact fun _ _ => rfl
  | dec cs xs =>
    have h : ("decorated" : Str) = "product" ∨ ("decorated" : Str) = "power" := h
    exact absurd h (by decide +kernel)
theorem kind_cho {e : S9} (h : decide (V.str (hd9 e) = V.str "choice") = true) : ∃ xs, e = .row true xs := by
  have h := V.str.inj (of_decide_eq_true h)
  cases e with
  | leaf l =>
    have := hd_mem l
    have h : hdL l = "choice" := h
    exact absurd h (noC _ this)
  | row c xs =>
    cases c with
    | true => exact ⟨xs, rfl⟩
    | false =>
      have h : ("product" : Str) = "choice" := h
      exact absurd h (by decide +kernel)
  | pow n x =>
    have h : ("power" : Str) = "choice" := h
    exact absurd h (by decide +kernel)
  | dec cs xs =>
    have h : ("decorated" : Str) = "choice" := h
    exact absurd h (by decide +kernel)
theorem kind_row {e : S9} (h : (decide (hd9 e = ("word" : Str)) || decide (hd9 e = ("decorated" : Str))) = true) : (∃ cs, e = .leaf (.word cs)) ∨ ∃ cs xs, e = .dec cs xs := by
  rw [Bool.or_eq_true, decide_eq_true_eq, decide_eq_true_eq] at h
  cases e with
  | leaf l =>
    cases l with
    | word cs => exact .inl ⟨cs, rfl⟩
    | _ =>
      simp only [hd9, hdL] at h
      exact absurd h (by decide +kernel)
  | row c xs =>
    cases c with
    | true =>
      have h : ("choice" : Str) = "word" ∨ ("choice" : Str) = "decorated" := h
      exact absurd h (by decide +kernel)
    | false =>
      have h : ("product" : Str) = "word" ∨ ("product" : Str) = "decorated" := h
      exact absurd h (by decide +kernel)
  | pow n x =>
    simp only [hd9] at h
    exact absurd h (by decide +kernel)
  | dec cs xs => exact .inr ⟨cs, xs, rfl⟩
theorem kind_track {e : S9} (h : (decide (hd9 e = ("walk" : Str)) || decide (hd9 e = ("string" : Str))) = true) : (∃ n s t lo hi, e = .leaf (.walk n s t lo hi)) ∨ ∃ ms ac n, e = .leaf (.str ms ac n) := by
  rw [Bool.or_eq_true, decide_eq_true_eq, decide_eq_true_eq] at h
  cases e with
  | leaf l =>
    cases l with
    | walk n s t lo hi => exact .inl ⟨n, s, t, lo, hi, rfl⟩
    | str ms ac n => exact .inr ⟨ms, ac, n, rfl⟩
    | _ =>
      simp only [hd9, hdL] at h
      exact absurd h (by decide +kernel)
  | row c xs =>
    cases c with
    | true =>
      have h : ("choice" : Str) = "walk" ∨ ("choice" : Str) = "string" := h
      exact absurd h (by decide +kernel)
    | false =>
      have h : ("product" : Str) = "walk" ∨ ("product" : Str) = "string" := h
      exact absurd h (by decide +kernel)
  | pow n x =>
    simp only [hd9] at h
    exact absurd h (by decide +kernel)
  | dec cs xs =>
    simp only [hd9] at h
    exact absurd h (by decide +kernel)
theorem or_no {a b : Prop} [Decidable a] [Decidable b] (h : (decide a || decide b) = false) : ¬ (a ∨ b) := by
  rw [Bool.or_eq_false_iff] at h
  rintro (x | x)
  · exact absurd x (of_decide_eq_false h.1)
  · exact absurd x (of_decide_eq_false h.2)
theorem kind_leaf {e : S9} (h1 : (decide (hd9 e = ("product" : Str)) || decide (hd9 e = ("power" : Str))) = false) (h2 : decide (V.str (hd9 e) = V.str "choice") = false) (h3 : (decide (hd9 e = ("word" : Str)) || decide (hd9 e = ("decorated" : Str))) = false) (h4 : (decide (hd9 e = ("walk" : Str)) || decide (hd9 e = ("string" : Str))) = false) : ∃ l, e = .leaf l ∧ otherL l = true := by
  have h1 := or_no h1
  have h2 := of_decide_eq_false h2
  have h3 := or_no h3
  have h4 := or_no h4
  cases e with
  | leaf l =>
    cases l with
    | word cs => exact absurd (.inl rfl) h3
    | walk n s t lo hi => exact absurd (.inl rfl) h4
    | str ms ac n => exact absurd (.inr rfl) h4
    | _ => exact ⟨_, rfl, rfl⟩
  | row c xs =>
    cases c with
    | true => exact absurd rfl h2
    | false => exact absurd (.inl rfl) h1
  | pow n x => exact absurd (.inr rfl) h1
  | dec cs xs => exact absurd (.inr rfl) h3
theorem askQ_not {g : Str → List PyData → Bool} {w0 : PyData} {as : List PyData} (h : isStr w0 = false) : askQ g (w0 :: as) = false := by
  cases w0 with
  | str z => cases h
  | _ => rfl
theorem askQ_no {e : S9} (h : ∀ z as, askS e z as = false) (w0 : PyData) (as : List PyData) : askQ (askS e) (w0 :: as) = false := by
  cases w0 with
  | str z => exact h z as
  | _ => rfl
theorem len_empty {H : Hp} {xs : List V} {ds : List PyData} (h : DatAll H xs ds) : xs.isEmpty = decide (ds.length = 0) := by
  cases h <;> simp
section
variable {P : Program} {w : World} {K : PySem.W.Frag} {mg : Str → Option Value} {base : Heap}
theorem okl_due {f fB fR fW fS fL : Addr} {fd fdB fdR fdW fdS fdL : FuncData} (F : Fun K "_law_is_due" "_law_is_due" s_is_due f fd) (T : Nm mg)
    (DB : DefOk K mg "_law_part_behind" s_part_behind ["_law_part", "_law_step"] fB fdB) (GB : FnG P w K mg base 4 fB fdB ["_law_part", "_law_step"] spBehind)
    (DR : DefOk K mg "_law_is_row_query" s_is_row_query ["_law_part", "_law_words"] fR fdR) (GR : FnOk P w K mg base CX0 2 fR fdR ["_law_part", "_law_words"] spRowQ)
    (DW : DefOk K mg "_law_is_walk_query" s_is_walk_query ["_law_part", "_law_words"] fW fdW) (GW : FnOk P w K mg base CX0 2 fW fdW ["_law_part", "_law_words"] spWalkQ)
    (DS : DefOk K mg "_law_is_string_query" s_is_string_query ["_law_part", "_law_words"] fS fdS) (GS : FnOk P w K mg base CX0 2 fS fdS ["_law_part", "_law_words"] spStrQ)
    (DL : DefOk K mg "_law_is_leaf_query" s_is_leaf_query ["_law_part", "_law_words"] fL fdL) (GL : FnOk P w K mg base CX0 8 fL fdL ["_law_part", "_law_words"] spLeafQ) :
    FnG P w K mg base 9 f fd ["_law_domain", "_law_given"] spDue := by
  refine F.okG sc_is_due (fun vs H Q E h => ?_) (fun cdv A outer s H vs Q E hg hr h => ?_)
  · obtain ⟨v, x, s, d, rfl, _⟩ := h
    rfl
  · obtain ⟨v, x, sp, d, rfl, hv, hfz, hfi, hx, hsh, hrep, q⟩ := h
    have hu1 := hu_of hr
    have hr2 : Room 2 _ := hr.mono (by decide)
    have hr4 : Room 4 _ := hr.mono (by decide)
    refine ⟨_, (pss_cons (ps_if (PW.pt (pw_or (pt_not (pt_val (pe_callB call_isi (by rfl) T.isinstance boot_isinstance (pa_cons (pv 1) (pa_cons (pe_bltn (v := .ty "tuple") rfl T.tuple (by decide +kernel) rfl) pa_nil))))) (pw_or (pt_cmpR op_lt (pe_callB cr_lenS (by rfl) T.len PySem.boot_len (pa_cons (pv 1) pa_nil)) pe_int (nomark _)) (pw_or1 (pt_not (pt_val (pe_callB call_isi (by rfl) T.isinstance boot_isinstance (pa_cons (pe_ix ix_tup (pv 1) pe_int (fun _ _ => rfl)) (pa_cons (pe_bltn (v := .ty "tuple") rfl T.tuple (by decide +kernel) rfl) pa_nil)))))))))
        (pss_one (ps_ret pe_bl))
        pss_nil)
      (pss_cons (ps_par (i := 2) (j := 3) rfl sc_is_due.nd rfl rfl (by decide) rfl rfl (pa_cons (pv 0) (pa_cons (pe_slice sl_tupA (pv 1) (po_some pe_int) po_none) pa_nil)) (by rfl))
      (pss_cons (ps_for PassesOwn.never rfl (pi_tup (pe_ix ix_tup (pv 1) pe_int (fun _ _ => rfl))) (pg_name (i := 4) sc_is_due.nd rfl (Or.inl rfl))
        (pss_one (ps_set (i := 2) sc_is_due.nd rfl (Or.inl rfl) (pe_ifExp (pt_cmpR op_isN (pv 2) pe_non (nomark _)) pe_non (pe_callG GB hg hr4 rfl DB.g DB.F.kp DB.b (pa_cons (pv 2) (pa_cons (pv 4) pa_nil)))))))
      (pss_cons (ps_if (PW.pt (pw_or (pt_cmpR op_isN (pv 2) pe_non (nomark _)) (pw_or (pt_cmpR op_in_seq (pe_ix ix_tup (pv 2) pe_int (fun _ _ => rfl)) (pe_tup (pa_cons pe_str (pa_cons pe_str pa_nil))) rfl) (pw_or1 (pt_not (pt_val (pe_callB call_isi (by rfl) T.isinstance boot_isinstance (pa_cons (pe_ix ix_tup (pv 3) pe_int (fun _ _ => rfl)) (pa_cons (pe_bltn (v := .ty "str") rfl T.str (by decide +kernel) rfl) pa_nil)))))))))
        (pss_one (ps_ret pe_bl))
        pss_nil)
      (pss_cons (ps_if (pt_cmpR op_eq (pe_ix ix_tup (pv 2) pe_int (fun _ _ => rfl)) pe_str (nomark _))
        (pss_one (ps_ret (pe_cmpR (op_eqOne hu1) (pv 3) (pe_tup (pa_cons pe_str pa_nil)) (nomark _))))
        pss_nil)
      (pss_cons (ps_if (pt_cmpR op_in_seq (pe_ix ix_tup (pv 2) pe_int (fun _ _ => rfl)) (pe_tup (pa_cons pe_str (pa_cons pe_str pa_nil))) rfl)
        (pss_one (ps_ret (pe_call GR hr2 rfl DR.g DR.F.kp DR.b .nil pass0 (pa_cons (pv 2) (pa_cons (pv 3) pa_nil)))))
        pss_nil)
      (pss_cons (ps_if (pt_cmpR op_in_seq (pe_ix ix_tup (pv 2) pe_int (fun _ _ => rfl)) (pe_tup (pa_cons pe_str (pa_cons pe_str pa_nil))) rfl)
        (pss_one (ps_ret (pe_ifExp (pt_cmpR op_eq (pe_ix ix_tup (pv 2) pe_int (fun _ _ => rfl)) pe_str (nomark _)) (pe_call GW hr2 rfl DW.g DW.F.kp DW.b .nil pass0 (pa_cons (pv 2) (pa_cons (pv 3) pa_nil))) (pe_call GS hr2 rfl DS.g DS.F.kp DS.b .nil pass0 (pa_cons (pv 2) (pa_cons (pv 3) pa_nil))))))
        pss_nil)
      (pss_one (ps_ret (pe_call GL hr rfl DL.g DL.F.kp DL.b .nil pass0 (pa_cons (pv 2) (pa_cons (pv 3) pa_nil)))))))))))), ?_⟩
    have q0 := q H (Same.refl H)
    refine ⟨_, rfl, x, .ty "tuple", _, _, _, rfl, .ty _, hx.ty, kit_tuple _ d, _, rfl, ?_⟩
    cases ht : isTup d with
    | false =>
      refine if_t rfl (if_t rfl ?_)
      have e : queryI Y9 sp d = false := by
        cases d with
        | tuple ds => cases ht
        | _ => rfl
      rw [e] at q0
      exact q0
    | true =>
      obtain ⟨ds, rfl⟩ : ∃ ds, d = .tuple ds := by
        cases d with
        | tuple ds => exact ⟨ds, rfl⟩
        | _ => cases ht
      obtain ⟨a, xs, rfl, ha, hxs⟩ := dat_tup hx
      refine if_f rfl ⟨_, rfl, a, xs, rfl, .inr (sqT_rd ha), _, _, rfl, rfl, _, rfl, ?_⟩
      match ds, xs, hxs, ha, q, q0, hsh, hrep with
      | [], [], _, ha, q, q0, _, _ => exact if_t rfl (if_t rfl q0)
      | [p0], [x0], _, ha, q, q0, _, _ =>
        refine if_t rfl (if_t rfl ?_)
        have e : queryI Y9 sp (.tuple [p0]) = false := by
          cases p0 with
          | tuple path =>
            refine (queryI_tup (Y := Y9) sp path []).trans ?_
            cases partI Y9 sp path <;> rfl
          | _ => rfl
        rw [e] at q0
        exact q0
      | p0 :: w0 :: as, x0 :: xw :: xs, .cons c0 (.cons cw cwt), ha, q, q0, hsh, hrep =>
        refine if_f (decide_eq_false (by simp only [List.length_cons]; omega)) ⟨_, rfl, a, _, _, x0, rfl, rfl, sqT_rd ha, atI_nat (j := 0) rfl, x0, .ty "tuple", _, _, _, rfl, .ty _, c0.ty, kit_tuple _ p0, _, rfl, ?_⟩
        cases htp : isTup p0 with
        | false =>
          refine if_t rfl ?_
          have e : queryI Y9 sp (.tuple (p0 :: w0 :: as)) = false := by
            cases p0 with
            | tuple ds => cases htp
            | _ => rfl
          rw [e] at q0
          exact q0
        | true =>
          obtain ⟨path, rfl⟩ : ∃ ds, p0 = .tuple ds := by
            cases p0 with
            | tuple ds => exact ⟨ds, rfl⟩
            | _ => cases htp
          obtain ⟨ap, ys, rfl, hap, hys⟩ := dat_tup c0
          refine if_f rfl ⟨_, rfl, _, rfl, 1, rfl, ?_⟩
          dsimp only [tNoPart]
          refine slAny_of ha fun b2 H1 S1 hb2 => ?_
          rw [cut1] at hb2
          have hb2 : TP H1 b2 (xw :: xs) := hb2
          have hcw := cw.same S1
          have cw' := cwt.same S1
          have hys1 := hys.same S1
          have ha1 := upR ha S1
          have hap1 := upR hap S1
          refine ⟨_, _, rfl, _, rfl, a, _, _, _, rfl, rfl, sqT_rd ha1, atI_nat (j := 0) rfl, ap, rfl, ⟨_, sqT_rd hap1⟩, ?_⟩
          refine for_tup (K := K) (xs := ys) (fun i σ Hx => ∃ (u : V) (w4 : Option V), σ = [some v, some (.ref a), some u, some (.ref b2), w4] ∧ Same H1 Hx ∧ (match walkP (some sp) (path.take i) with
            | none => u = .non
            | some e => Dat Hx u (dt e) ∧ FzS Hx u e ∧ FineS e)) ⟨v, none, rfl, Same.refl H1, hv.same S1, hfz.same S1, hfi⟩ (fun i σ Hx _ ⟨_, _, _, S, _⟩ => sqT_rd (upR hap1 S)) ?_ ?_
          · rintro i y σ Hx hyi ⟨u, w4, rfl, S, hu⟩
            obtain ⟨e, hei, te⟩ := hys1.get hyi
            have hw : walkP (some sp) (path.take (i + 1)) = (walkP (some sp) (path.take i)).bind fun s => nextS s e := by
              rw [List.take_add_one, hei]
              exact walk_snoc _ _ _
            refine ⟨_, rfl, rfl, _, rfl, ?_⟩
            cases hwp : walkP (some sp) (path.take i) with
            | none =>
              rw [hwp] at hu hw
              subst hu
              refine if_t rfl ⟨_, _, rfl, S, ?_⟩
              rw [hw]
              rfl
            | some s1 =>
              rw [hwp] at hu hw
              obtain ⟨du, fu, fi⟩ := hu
              obtain ⟨au, rfl⟩ := dt_ref du
              refine if_f rfl ⟨_, rfl, _, rfl, .ref au, y, s1, e, rfl, du, te.same S, fi.ok, fi.ti, fu, hrep path _ rfl e (List.mem_of_getElem? hei), fun H2 S2 hn => ?_, fun u2 e2 H2 S2 hn d2 f2 => ?_⟩
              · refine ⟨_, _, rfl, S.trans S2, ?_⟩
                rw [hw]
                show (match nextS s1 e with | none => _ | some _ => _)
                rw [hn]
              · refine ⟨_, _, rfl, S.trans S2, ?_⟩
                rw [hw]
                show (match nextS s1 e with | none => _ | some _ => _)
                rw [hn]
                exact ⟨d2, f2, fi.next hn⟩
          · rintro σ Hx ⟨u, w4, rfl, S, hu⟩
            rw [hys1.len, List.take_length, walk_partI] at hu
            have S' := S1.trans S
            cases hpe : partI Y9 sp path with
            | none =>
              rw [hpe] at hu
              have hu : u = .non := hu
              subst hu
              have eQ := queryI_tup (Y := Y9) sp path (w0 :: as)
              rw [hpe] at eQ
              have z : Q (.bl false) Hx := Eq.mp (congrArg (fun b => Q (V.bl b) Hx) eQ) (q Hx S')
              exact ⟨_, rfl, rfl, _, rfl, if_t rfl (if_t rfl z)⟩
            | some e =>
              rw [hpe] at hu
              obtain ⟨du, fu, fi⟩ : Dat Hx u (dt e) ∧ FzS Hx u e ∧ FineS e := hu
              have q2 : ∀ H', Same Hx H' → Q (.bl (askQ (askS e) (w0 :: as))) H' := fun H' S2 => by
                have eQ := queryI_tup (Y := Y9) sp path (w0 :: as)
                rw [hpe] at eQ
                exact Eq.mp (congrArg (fun b => Q (V.bl b) H') eQ) (q H' (S'.trans S2))
              obtain ⟨au, ps, rfl, h0⟩ := dt_hd9 du
              have hb3 := upR hb2 S
              have hw3 := hcw.same S
              refine ⟨_, rfl, rfl, _, rfl, if_f rfl ?_⟩
              refine ⟨_, rfl, au, _, _, _, rfl, rfl, sqT_rd h0, atI_nat (j := 0) rfl, (by show 2 ≤ sizeLine; decide), fun tp ntp => ⟨tp, _, rfl, .inr (SqT.of upd_same), rfl, rfl, _, rfl, ?_⟩⟩
              have T1 := same_new (o := HO.tup [.str "product", .str "power"]) ntp
              generalize upd Hx tp (.tup [.str "product", .str "power"]) = H3 at T1 ⊢
              show (if inV (.str (hd9 e)) [.str "product", .str "power"] = true then _ else _)
              rw [inV2]
              cases k1 : (decide (hd9 e = ("product" : Str)) || decide (hd9 e = ("power" : Str))) with
              | true =>
                have z := q2 H3 T1
                rw [askQ_no (kind_no k1)] at z
                exact if_t rfl (if_t rfl z)
              | false =>
                refine if_f rfl ⟨_, rfl, b2, _, _, xw, rfl, rfl, sqT_rd (upR hb3 T1), atI_nat (j := 0) rfl, xw, .ty "str", _, _, _, rfl, .ty _, (hw3.same T1).ty, kit_str _ w0, _, rfl, ?_⟩
                cases hs : isStr w0 with
                | false =>
                  have z := q2 H3 T1
                  rw [askQ_not hs] at z
                  exact if_t rfl z
                | true =>
                  obtain ⟨z0, rfl⟩ : ∃ z, w0 = .str z := by
                    cases w0 with
                    | str z => exact ⟨z, rfl⟩
                    | _ => cases hs
                  have q3 : ∀ H', Same H3 H' → Q (.bl (askS e z0 as)) H' := fun H' S2 => q2 H' (T1.trans S2)
                  have hb4 := upR hb3 T1
                  have hx4 : DatAll H3 (xw :: xs) (.str z0 :: as) := (DatAll.cons hw3 (cw'.same S)).same T1
                  have h4 := upR h0 T1
                  have du4 := du.same T1
                  have fu4 := fu.same T1
                  refine if_f rfl ⟨_, rfl, au, _, _, _, rfl, rfl, sqT_rd h4, atI_nat (j := 0) rfl, rfl, _, rfl, ?_⟩
                  cases k2 : decide (V.str (hd9 e) = V.str "choice") with
                  | true =>
                    obtain ⟨xs5, rfl⟩ := kind_cho k2
                    refine if_t rfl ?_
                    obtain ⟨xw', r1, r2⟩ : ∃ r, xw = V.str z0 ∧ DatAll H3 xs as := by
                      cases hx4 with
                      | cons c t =>
                        cases c
                        exact ⟨0, rfl, t⟩
                    subst r1
                    refine ⟨_, rfl, (by show 1 ≤ sizeLine; decide), fun t nt => ?_⟩
                    have T2 := same_new (o := HO.tup [.str "selected"]) nt
                    refine ⟨b2, t, z0, "selected", xs, rfl, rfl, upR hb4 T2, upd_same, ?_⟩
                    have z := q3 _ T2
                    rw [len_empty r2]
                    exact z
                  | false =>
                    refine if_f rfl ⟨_, rfl, au, _, _, _, rfl, rfl, sqT_rd h4, atI_nat (j := 0) rfl, (by show 2 ≤ sizeLine; decide), fun tp ntp => ⟨tp, _, rfl, .inr (SqT.of upd_same), rfl, rfl, _, rfl, ?_⟩⟩
                    have T2 := same_new (o := HO.tup [.str "word", .str "decorated"]) ntp
                    generalize upd H3 tp (.tup [.str "word", .str "decorated"]) = H4 at T2 ⊢
                    show (if inV (.str (hd9 e)) [.str "word", .str "decorated"] = true then _ else _)
                    rw [inV2]
                    have q4 : ∀ H', Same H4 H' → Q (.bl (askS e z0 as)) H' := fun H' S2 => q3 H' (T2.trans S2)
                    have hb5 := upR hb4 T2
                    have hx5 := hx4.same T2
                    have h5 := upR h4 T2
                    have du5 := du4.same T2
                    have fu5 := fu4.same T2
                    cases k3 : (decide (hd9 e = ("word" : Str)) || decide (hd9 e = ("decorated" : Str))) with
                    | true =>
                      refine if_t rfl ⟨_, rfl, _, rfl, ?_⟩
                      rcases kind_row k3 with ⟨cs, rfl⟩ | ⟨cs, ls, rfl⟩
                      · have e1 := fi.ok
                        have e2 := fi.sm
                        rw [okS] at e1
                        rw [smS, Bool.and_eq_true] at e2
                        replace e2 := e2.1
                        rw [FzS] at fu5
                        obtain ⟨a9, z9, v9, g1, g2, g3⟩ := fu5 ⟨cs, rfl⟩
                        cases g1
                        have g4 := h5.uniq g2
                        cases g4
                        rw [dt] at du5
                        obtain ⟨a8, ys8, g5, g6, g7⟩ := dat_tup (show Dat H4 (.ref au) (.tuple [.str "word", cntsD cs]) from du5)
                        cases g5
                        have g8 := h5.uniq g6
                        subst g8
                        obtain ⟨y0, y1, g9, c0', c1'⟩ := dat_two g7
                        cases g9
                        exact ⟨au, b2, _, _, _, _, cs, z0, as, rfl, h5, c1', g3, of_decide_eq_true e2, of_decide_eq_true e1, hb5, hx5, q4⟩
                      · have e1 := fi.ok
                        rw [okS, Bool.and_eq_true, Bool.and_eq_true, Bool.and_eq_true] at e1
                        rw [FzS] at fu5
                        obtain ⟨a9, b9, z9, v9, ys9, g1, g2, g3, _⟩ := fu5
                        cases g1
                        have g4 := h5.uniq g2
                        cases g4
                        rw [dt] at du5
                        obtain ⟨a8, ys8, g5, g6, g7⟩ := dat_tup (show Dat H4 (.ref au) (.tuple [.str "decorated", cntsD cs, .tuple (dts ls)]) from du5)
                        cases g5
                        have g8 := h5.uniq g6
                        subst g8
                        obtain ⟨y0, y1, y2, g9, c0', c1', c2'⟩ := dat3 g7
                        cases g9
                        exact ⟨au, b2, _, _, _, _, cs, z0, as, rfl, h5, c1', g3, of_decide_eq_true e1.2.2.2, of_decide_eq_true e1.2.1, hb5, hx5, q4⟩
                    | false =>
                      refine if_f rfl ⟨_, rfl, au, _, _, _, rfl, rfl, sqT_rd h5, atI_nat (j := 0) rfl, (by show 2 ≤ sizeLine; decide), fun tp ntp => ⟨tp, _, rfl, .inr (SqT.of upd_same), rfl, rfl, _, rfl, ?_⟩⟩
                      have T3 := same_new (o := HO.tup [.str "walk", .str "string"]) ntp
                      generalize upd H4 tp (.tup [.str "walk", .str "string"]) = H5 at T3 ⊢
                      show (if inV (.str (hd9 e)) [.str "walk", .str "string"] = true then _ else _)
                      rw [inV2]
                      have q5 : ∀ H', Same H5 H' → Q (.bl (askS e z0 as)) H' := fun H' S2 => q4 H' (T3.trans S2)
                      have hb6 := upR hb5 T3
                      have hx6 := hx5.same T3
                      have h6 := upR h5 T3
                      have du6 := du5.same T3
                      cases k4 : (decide (hd9 e = ("walk" : Str)) || decide (hd9 e = ("string" : Str))) with
                      | true =>
                        refine if_t rfl ⟨_, rfl, au, _, _, _, rfl, rfl, sqT_rd h6, atI_nat (j := 0) rfl, rfl, _, rfl, ?_⟩
                        rcases kind_track k4 with ⟨n, s0, t0, lo, hi, rfl⟩ | ⟨ms, ac, n, rfl⟩
                        · refine if_t (decide_eq_true (by rfl)) ⟨_, rfl, _, rfl, ?_⟩
                          rw [dt] at du6
                          obtain ⟨a8, ys8, g5, g6, g7⟩ := dat_tup (show Dat H5 (.ref au) (.tuple [.str "walk", .int n, .int s0, .int t0, .int lo, .int hi]) from du6)
                          cases g5
                          match ys8, g7, g6 with
                          | _, .cons (.str _ _) (.cons (.int _) (.cons (.int _) (.cons (.int _) (.cons (.int _) (.cons (.int _) .nil))))), g6 =>
                            exact ⟨au, b2, _, n, s0, t0, lo, hi, _, z0, as, rfl, g6, hb6, hx6, q5⟩
                        · refine if_f (decide_eq_false fun h => absurd (show ("string" : Str) = "walk" from V.str.inj h) (by decide +kernel)) ⟨_, rfl, _, rfl, ?_⟩
                          rw [dt] at du6
                          obtain ⟨a8, ys8, g5, g6, g7⟩ := dat_tup (show Dat H5 (.ref au) (.tuple [.str "string", .tuple [.tuple (ms.map mvA), .tuple (ac.map fun i => .int (i : Nat))], .int (n : Nat)]) from du6)
                          cases g5
                          obtain ⟨y0, y1, y2, g9, c0', c1', c2'⟩ := dat3 g7
                          cases g9
                          cases c2'
                          exact ⟨au, b2, _, _, n, _, z0, as, rfl, g6, hb6, hx6, (fun d hd => hsh d (List.mem_cons_of_mem _ (List.mem_cons_of_mem _ hd))), q5⟩
                      | false =>
                        obtain ⟨l, rfl, hol⟩ := kind_leaf k1 k2 k3 k4
                        refine if_f rfl ⟨_, rfl, _, rfl, ?_⟩
                        have e1 := fi.ok
                        have e2 := fi.sm
                        rw [okS] at e1
                        rw [smS, Bool.and_eq_true] at e2
                        replace e2 := e2.1
                        rw [dt] at du6
                        exact ⟨au, b2, l, _, z0, as, rfl, du6, hol, e1, e2, hb6, hx6, q5⟩
end
end K9
set_option maxRecDepth 100000
set_option maxHeartbeats 4000000
namespace K9
open PySem PySem.Spec PyProof.Rows L2
/-! ### known data, comprehensions: lists that are new -/
def MkN (N : Nat) (G : List (Nat × PyData)) (t : TE) (d : PyData) : Prop := ∀ (σ : L2.St) (H : Hp) (Q : VK), σ.length = N → EnvOk G σ H → (∀ (v : V) (H' : Hp), Same H H' → Dat H' v d → Q v H') → t σ H Q
def MkF (N : Nat) (G : List (Nat × PyData)) (t : TE) (ds : List PyData) : Prop := ∀ (σ : L2.St) (H : Hp) (Q : VK), σ.length = N → EnvOk G σ H →
  (∀ (L : Addr) (zs : List V) (H0 H' : Hp), H0 L = none → Same H H0 → Same H0 H' → H' L = some (.lst zs) → DatAll H0 zs ds → Q (.ref L) H') → t σ H Q
theorem Mk.n {N : Nat} {G : List (Nat × PyData)} {t : TE} {d : PyData} (h : Mk G t d) : MkN N G t d := fun σ H Q _ E q => h σ H Q E q
theorem MkF.n {N : Nat} {G : List (Nat × PyData)} {t : TE} {ds : List PyData} (h : MkF N G t ds) : MkN N G t (.list ds) := fun σ H Q l E q => h σ H Q l E fun L zs H0 H' _ S0 S1 e d => q _ H' (S0.trans S1) (.lst e (d.same S1))
theorem EnvOk.none {G : List (Nat × PyData)} {σ : L2.St} {H : Hp} {i : Nat} (E : EnvOk G σ H) (hn : ∀ p ∈ G, p.1 ≠ i) : EnvOk G (σ.set i none) H := fun p hp => by
  obtain ⟨u, a, b⟩ := E p hp
  exact ⟨u, by rw [List.getElem?_set_ne (fun z => hn p hp z.symm)]; exact a, b⟩
theorem mks_tup2 {G : List (Nat × PyData)} {t u : TE} {d e : PyData} (h : Mk G t d) (h2 : Mk G u e) : Mk G (tTup (tCons t (tCons u tNil))) (.tuple [d, e]) := mk_tup (mks_cons h (mks_cons h2 mks_nil)) (by show 2 ≤ 1000; decide)
theorem mks_tup3 {G : List (Nat × PyData)} {t u w : TE} {d e f : PyData} (h : Mk G t d) (h2 : Mk G u e) (h3 : Mk G w f) : Mk G (tTup (tCons t (tCons u (tCons w tNil)))) (.tuple [d, e, f]) := mk_tup (mks_cons h (mks_cons h2 (mks_cons h3 mks_nil))) (by show 3 ≤ 1000; decide)
theorem wipe_one {σ : L2.St} {i : Nat} {x : Option V} : wipe ((wipe σ [i]).set i x) [i] = wipe σ [i] := by
  show ((σ.set i none).set i x).set i none = σ.set i none
  rw [List.set_set, List.set_set]
section
variable {N : Nat} {G : List (Nat × PyData)} {t u te : TE}
/-- the turns of a comprehension -/
theorem gr_out {H1 : Hp} {D : Addr} {ds : List PyData} {Hz : Hp} (g : Gr H1 D ds Hz) : ∃ (zs : List V) (H0 : Hp), H0 D = none ∧ Same H1 H0 ∧ Same H0 Hz ∧ Hz D = some (.lst zs) ∧ DatAll H0 zs ds := by
  obtain ⟨n, S0, xs, h, d⟩ := g
  exact ⟨xs, noR D Hz, if_pos rfl, noR_same n S0, noR_sub, h, d⟩
theorem mkf_range1 {i n : Nat} {f : Nat → PyData} (h : Mk G t (.int (n : Nat))) (hn : n ≤ 5000) (hG : G.all (fun p => p.1 != i) = true) (hi : i < N) (he : ∀ j, j < n → Mk ((i, .int (j : Nat)) :: G) te (f j)) (hf : ∀ j, j < n → noL (f j) = true) :
    MkF N G (tLc (iRng1 (tCons t tNil)) (gName i) tYes te [i]) ((List.range n).map f) := fun σ H Q hN E q => h σ H _ E fun v H1 S1 d1 => by
  have hG := ne_of hG
  obtain rfl := dat_isInt d1
  have E1 := (E.same S1).none hG
  refine ⟨((n : Nat) : Int), rfl, by omega, by omega, fun D nD => lc_range (n := n) (fun j Hz => Gr H1 D ((List.range j).map f) Hz) (Gr.start nD) ?_ ?_⟩
  · rintro j Hz hj g
    rw [show ((0 : Int) + (j : Nat)) = ((j : Nat) : Int) from Int.zero_add _]
    refine ⟨wipe_one, ?_⟩
    dsimp only [tYes]
    refine if_t rfl (he j hj _ Hz _ ((E1.same g.2.1).put hG (by rw [List.length_set, hN]; exact hi) (.int _)) fun v4 H4 S4 d4 => ?_)
    obtain ⟨xs, hL, hxl, _, g'⟩ := g.add S4 (.cons d4 .nil) (by show noLs [f j] = true; simp [noLs, hf j hj])
    rw [List.length_map, List.length_range] at hxl
    refine ⟨xs, hL, by rw [sizeLine_eq]; omega, ?_⟩
    rw [List.range_succ, List.map_append]
    exact g'
  · rintro Hz g
    obtain ⟨zs, H0, n0, S0, S2, e, d⟩ := gr_out g
    exact q D zs H0 Hz n0 (S1.trans S0) S2 e d
theorem mkf_rangeI {i : Nat} {m : Int} {f : Nat → PyData} (h : Mk G t (.int m)) (hm : -1000000 ≤ m ∧ m ≤ 5000) (hG : G.all (fun p => p.1 != i) = true) (hi : i < N) (he : ∀ j, j < m.toNat → Mk ((i, .int (j : Nat)) :: G) te (f j)) (hf : ∀ j, j < m.toNat → noL (f j) = true) :
    MkF N G (tLc (iRng1 (tCons t tNil)) (gName i) tYes te [i]) ((List.range m.toNat).map f) := fun σ H Q hN E q => h σ H _ E fun v H1 S1 d1 => by
  have hG := ne_of hG
  obtain rfl := dat_isInt d1
  have E1 := (E.same S1).none hG
  refine ⟨m, rfl, by omega, by omega, fun D nD => lc_range (n := m.toNat) (fun j Hz => Gr H1 D ((List.range j).map f) Hz) (Gr.start nD) ?_ ?_⟩
  · rintro j Hz hj g
    rw [show ((0 : Int) + (j : Nat)) = ((j : Nat) : Int) from Int.zero_add _]
    refine ⟨wipe_one, ?_⟩
    dsimp only [tYes]
    refine if_t rfl (he j hj _ Hz _ ((E1.same g.2.1).put hG (by rw [List.length_set, hN]; exact hi) (.int _)) fun v4 H4 S4 d4 => ?_)
    obtain ⟨xs, hL, hxl, _, g'⟩ := g.add S4 (.cons d4 .nil) (by show noLs [f j] = true; simp [noLs, hf j hj])
    rw [List.length_map, List.length_range] at hxl
    refine ⟨xs, hL, by rw [sizeLine_eq]; omega, ?_⟩
    rw [List.range_succ, List.map_append]
    exact g'
  · rintro Hz g
    obtain ⟨zs, H0, n0, S0, S2, e, d⟩ := gr_out g
    exact q D zs H0 Hz n0 (S1.trans S0) S2 e d
theorem mkf_range2 {i n : Nat} {lo hi : Int} {f : Nat → PyData} (h : Mk G t (.int lo)) (h2 : Mk G u (.int hi)) (hn : (hi - lo).toNat = n) (hn1 : n ≤ 5000) (hlo : -1000000 ≤ lo ∧ lo ≤ 1000000) (hhi : -1000000 ≤ hi ∧ hi ≤ 1000000) (hG : G.all (fun p => p.1 != i) = true) (hiN : i < N)
    (he : ∀ j, j < n → Mk ((i, .int (lo + (j : Nat))) :: G) te (f j)) (hf : ∀ j, j < n → noL (f j) = true) :
    MkF N G (tLc (iRng2 (tCons t (tCons u tNil))) (gName i) tYes te [i]) ((List.range n).map f) := fun σ H Q hN E q => h σ H _ E fun v H1 S1 d1 => h2 σ H1 _ (E.same S1) fun v2 H2 S2 d2 => by
  have hG := ne_of hG
  obtain rfl := dat_isInt d1
  obtain rfl := dat_isInt d2
  have E1 := ((E.same S1).same S2).none hG
  refine ⟨lo, hi, rfl, ⟨by omega, by omega, by omega, by omega⟩, fun D nD => ?_⟩
  rw [hn]
  refine lc_range (n := n) (fun j Hz => Gr H2 D ((List.range j).map f) Hz) (Gr.start nD) ?_ ?_
  · rintro j Hz hj g
    refine ⟨wipe_one, ?_⟩
    dsimp only [tYes]
    refine if_t rfl (he j hj _ Hz _ ((E1.same g.2.1).put hG (by rw [List.length_set, hN]; exact hiN) (.int _)) fun v4 H4 S4 d4 => ?_)
    obtain ⟨xs, hL, hxl, _, g'⟩ := g.add S4 (.cons d4 .nil) (by show noLs [f j] = true; simp [noLs, hf j hj])
    rw [List.length_map, List.length_range] at hxl
    refine ⟨xs, hL, by rw [sizeLine_eq]; omega, ?_⟩
    rw [List.range_succ, List.map_append]
    exact g'
  · rintro Hz g
    obtain ⟨zs, H0, n0, S0, S3, e, d⟩ := gr_out g
    exact q D zs H0 Hz n0 ((S1.trans S2).trans S0) S3 e d
theorem take_map_succ {α β : Type} {f : α → β} {ds : List α} {j : Nat} {d : α} (h : ds[j]? = some d) : (ds.take (j + 1)).map f = (ds.take j).map f ++ [f d] := by
  rw [List.take_add_one, h, List.map_append]
  rfl
/-- over a list of known data -/
theorem mkf_list {K : PySem.W.Frag} {i : Nat} {ds : List PyData} {f : PyData → PyData} (h : Mk G t (.list ds)) (hn : ds.length ≤ 5000) (hG : G.all (fun p => p.1 != i) = true) (hi : i < N) (he : ∀ d ∈ ds, Mk ((i, d) :: G) te (f d)) (hf : ∀ d ∈ ds, noL (f d) = true) :
    MkF N G (tLc (iList K t) (gName i) tYes te [i]) (ds.map f) := fun σ H Q hN E q => h σ H _ E fun v H1 S1 d1 => by
  have hG := ne_of hG
  obtain ⟨a, xs, rfl, ha, hx⟩ := dat_lst d1
  have hxl := hx.len
  have E1 := (E.same S1).none hG
  refine ⟨a, rfl, ⟨_, SqL.of ha⟩, fun D nD => lc_list (K := K) (xs := xs) (fun j Hz => Gr H1 D ((ds.take j).map f) Hz) (by rw [List.take_zero]; exact Gr.start nD) (fun j Hz _ g => SqL.of (g.2.1 _ _ ha)) ?_ ?_⟩
  · rintro j y Hz hy g
    obtain ⟨d, hd, dy⟩ := hx.get hy
    have hm := List.mem_of_getElem? hd
    refine ⟨wipe_one, ?_⟩
    dsimp only [tYes]
    refine if_t rfl (he d hm _ Hz _ ((E1.same g.2.1).put hG (by rw [List.length_set, hN]; exact hi) (dy.same g.2.1)) fun v4 H4 S4 d4 => ?_)
    obtain ⟨zs, hL, hzl, _, g'⟩ := g.add S4 (.cons d4 .nil) (by show noLs [f d] = true; simp [noLs, hf d hm])
    rw [List.length_map, List.length_take] at hzl
    refine ⟨zs, hL, by rw [sizeLine_eq]; omega, ?_⟩
    rw [take_map_succ hd]
    exact g'
  · rintro Hz g
    rw [hxl, List.take_length] at g
    obtain ⟨zs, H0, n0, S0, S2, e, d⟩ := gr_out g
    exact q D zs H0 Hz n0 (S1.trans S0) S2 e d
/-- over a tuple of pairs, the second of each -/
theorem mkf_pairs {K : PySem.W.Frag} {i k : Nat} {ps : List (PyData × PyData)} {f : PyData × PyData → PyData} (h : Mk G t (.tuple (ps.map fun p => .tuple [p.1, p.2]))) (hn : ps.length ≤ 5000) (hG : G.all (fun p => p.1 != i) = true) (hG2 : G.all (fun p => p.1 != k) = true) (hik : i ≠ k) (hi : i < N) (hk : k < N)
    (he : ∀ p ∈ ps, Mk ((k, p.2) :: (i, p.1) :: G) te (f p)) (hf : ∀ p ∈ ps, noL (f p) = true) :
    MkF N G (tLc (iTup K t) (gTup K 2 (gCons (gName i) (gCons (gName k) gNil))) tYes te [i, k]) (ps.map f) := fun σ H Q hN E q => h σ H _ E fun v H1 S1 d1 => by
  have hG := ne_of hG
  have hG2 := ne_of hG2
  obtain ⟨a, xs, rfl, ha, hx⟩ := dat_tup d1
  have hxl := hx.len
  rw [List.length_map] at hxl
  have E1 := ((E.same S1).none hG2).none hG
  refine ⟨a, rfl, ⟨_, sqT_rd ha⟩, fun D nD => lc_tup (K := K) (xs := xs) (fun j Hz => Gr H1 D ((ps.take j).map f) Hz) (by rw [List.take_zero]; exact Gr.start nD) (fun j Hz _ g => sqT_rd (upR ha g.2.1)) ?_ ?_⟩
  · rintro j y Hz hy g
    obtain ⟨d, hd, dy⟩ := hx.get hy
    rw [List.getElem?_map] at hd
    obtain ⟨p, hp, rfl⟩ := Option.map_eq_some_iff.mp hd
    have hm := List.mem_of_getElem? hp
    obtain ⟨b, ys, rfl, hb, hys⟩ := dat_tup (dy.same g.2.1)
    obtain ⟨y0, y1, rfl, c0, c1⟩ := dat_two hys
    refine ⟨b, _, rfl, sqT_rd hb, rfl, y0, _, rfl, y1, _, rfl, rfl, ?_, ?_⟩
    · show ((((((σ.set k none).set i none).set i (some y0)).set k (some y1)).set k none).set i none) = (σ.set k none).set i none
      rw [List.set_set, List.set_set, List.set_comm _ _ hik]
      simp only [List.set_set]
    · dsimp only [tYes]
      have hk1 : ∀ p0 ∈ (i, p.1) :: G, p0.1 ≠ k := fun p0 h0 => by
        rcases List.mem_cons.mp h0 with rfl | h0
        · exact hik
        · exact hG2 p0 h0
      refine if_t rfl (he p hm _ Hz _ (((E1.same g.2.1).put hG (by rw [List.length_set, List.length_set, hN]; exact hi) c0).put hk1 (by rw [List.length_set, List.length_set, List.length_set, hN]; exact hk) c1) fun v4 H4 S4 d4 => ?_)
      obtain ⟨zs, hL, hzl, _, g'⟩ := g.add S4 (.cons d4 .nil) (by show noLs [f p] = true; simp [noLs, hf p hm])
      rw [List.length_map, List.length_take] at hzl
      refine ⟨zs, hL, by rw [sizeLine_eq]; omega, ?_⟩
      rw [take_map_succ hp]
      exact g'
  · rintro Hz g
    rw [hxl, List.take_length] at g
    obtain ⟨zs, H0, n0, S0, S2, e, d⟩ := gr_out g
    exact q D zs H0 Hz n0 (S1.trans S0) S2 e d
theorem mkf_cat {l1 l2 : List PyData} (h : MkN N G t (.list l1)) (h2 : MkN N G u (.list l2)) (hl : l1.length + l2.length ≤ 50000) : MkF N G (tOp rCat t u) (l1 ++ l2) := fun σ H Q hN E q =>
  h σ H _ hN E fun v H1 S1 d1 => h2 σ H1 _ hN (E.same S1) fun w H2 S2 d2 => by
    obtain ⟨a, xs, rfl, ha, hx⟩ := dat_lst (d1.same S2)
    obtain ⟨b, ys, rfl, hb, hy⟩ := dat_lst d2
    have lx := hx.len
    have ly := hy.len
    exact ⟨a, b, xs, ys, rfl, rfl, ha, hb, by rw [lx, ly, sizeLine_eq]; omega, fun p np => q p _ H2 _ np (S1.trans S2) (same_new np) upd_same (datAll_append hx hy)⟩
theorem mkf_lst {w : TA} {ds : List PyData} (hs : Mks G w ds) (hl : ds.length ≤ 1000) : MkF N G (tLst w) ds := fun σ H Q _ E q =>
  hs σ H _ E fun vs H1 S1 d1 => ⟨by rw [d1.len, sizeLine_eq]; omega, fun p np => q p vs H1 _ np S1 (same_new np) upd_same d1⟩
theorem mkn_sum {K : PySem.W.Frag} {ns : List Int} (h : MkN N G t (.list (ns.map PyData.int))) : MkN N G (tCB (rSum K) (tCons t tNil)) (.int ns.sum) := fun σ H Q hN E q => h σ H _ hN E fun v H1 S d => by
  obtain ⟨a, xs, rfl, ha, hx⟩ := dat_lst d
  rw [dat_ints hx] at ha
  exact ⟨a, ns, rfl, SqL.of ha, q _ H1 S (.int _)⟩
end
/-! statements -/
section
variable {N : Nat} {G : List (Nat × PyData)} {Hi : Hp} {i : Nat} {d : PyData} {ds es : List PyData} {σ : L2.St} {H : Hp} {te : TE} {D : Ends} {R : TS}
theorem sq_setN (M : MkN N G te d) (hN : σ.length = N) (E : EnvOk G σ H) (hn : G.all (fun p => p.1 != i) = true) (hi : i < N) (k : ∀ (v : V) (H' : Hp), Same H H' → EnvOk ((i, d) :: G) (σ.set i (some v)) H' → R D (σ.set i (some v)) H') : tSeq (tAsg te (gName i)) R D σ H :=
  M σ H (fun v H1 => R D (σ.set i (some v)) H1) hN E fun v H1 S d1 => k v H1 S ((E.same S).put (ne_of hn) (by rw [hN]; exact hi) d1)
/-- found = (a new list) -/
theorem sq_setF {G' : List (Nat × PyData)} (M : MkF N G' te ds) (hN : σ.length = N) (E : EnvOk G' σ H) (S : Same Hi H) (hs : ∀ p ∈ G, p ∈ G') (hn : G.all (fun p => p.1 != i) = true) (hi : i < N)
    (k : ∀ (p : Addr) (H' : Hp), ST Hi G i ds (σ.set i (some (.ref p))) H' → R D (σ.set i (some (.ref p))) H') : tSeq (tAsg te (gName i)) R D σ H :=
  M σ H (fun v H1 => R D (σ.set i (some v)) H1) hN E fun L zs H0 H' n0 S0 S1 e d1 => k L H' ⟨L, zs, H0, List.getElem?_set_self (by rw [hN]; exact hi), e, n0, S.trans S0, S1, d1, EnvOk.set (fun p hp => (E.same S0) p (hs p hp)) (ne_of hn)⟩
theorem rt_mkf (M : MkF N G te ds) (hN : σ.length = N) (E : EnvOk G σ H) (k : ∀ (L : Addr) (zs : List V) (H' : Hp), H L = none → Same H H' → H' L = some (.lst zs) → DatAll H' zs ds → D.rt (.ref L) H') : tRet te D σ H :=
  M σ H D.rt hN E fun L zs H0 H' n0 S0 S1 e d1 => k L zs H' (none_back S0 n0) (S0.trans S1) e (d1.same S1)
/-- found.extend(..) -/
theorem st_ext {K : PySem.W.Frag} {Q : VK} (S : ST Hi G i ds σ H) (hN : σ.length = N) (M : MkF N G te es) (hf : noLs es = true) (hl : ds.length + es.length ≤ 50000)
    (k : ∀ H' : Hp, ST Hi G i (ds ++ es) σ H' → Q .non H') : tBM K "list" rExtend (tVar i) (tCons te tNil) σ H Q := by
  obtain ⟨L, zs, H0, h1, h2, h3, h4, h5, h6, h7⟩ := S
  refine ⟨_, h1, .inl ⟨rfl, _, SqL.of h2⟩, M σ H _ hN (h7.same h5) fun L2 ys H2 H3 n2 S2 S3 e2 d2 => ?_⟩
  have lz := h6.len
  have ly := d2.len
  have hL := S3 _ _ (S2 _ _ h2)
  have T := noR_same h3 ((h5.trans S2).trans S3)
  refine ⟨L, L2, zs, ys, rfl, rfl, hL, e2, by rw [lz, ly, sizeLine_eq]; omega, k _ ⟨L, zs ++ ys, noR L H3, h1, upd_same, if_pos rfl, h4.trans T, noR_to, datAll_append (h6.same T) (dat_noLs hL hf (d2.same S3)), h7.same T⟩⟩
theorem sq_ext {K : PySem.W.Frag} (S : ST Hi G i ds σ H) (hN : σ.length = N) (M : MkF N G te es) (hf : noLs es = true) (hl : ds.length + es.length ≤ 50000)
    (k : ∀ H' : Hp, ST Hi G i (ds ++ es) σ H' → R D σ H') : tSeq (tDrop (tBM K "list" rExtend (tVar i) (tCons te tNil))) R D σ H := st_ext (Q := fun _ H1 => R D σ H1) S hN M hf hl k
theorem one_ext {K : PySem.W.Frag} (S : ST Hi G i ds σ H) (hN : σ.length = N) (M : MkF N G te es) (hf : noLs es = true) (hl : ds.length + es.length ≤ 50000)
    (k : ∀ H' : Hp, ST Hi G i (ds ++ es) σ H' → D.nx σ H') : tDrop (tBM K "list" rExtend (tVar i) (tCons te tNil)) D σ H := st_ext (Q := fun _ H1 => D.nx σ H1) S hN M hf hl k
theorem ST.weak {G' : List (Nat × PyData)} (S : ST Hi G i ds σ H) (h : ∀ p ∈ G', p ∈ G) : ST Hi G' i ds σ H := by
  obtain ⟨L, zs, H0, h1, h2, h3, h4, h5, h6, h7⟩ := S
  exact ⟨L, zs, H0, h1, h2, h3, h4, h5, h6, fun p hp => h7 p (h p hp)⟩
/-- the list is returned -/
theorem rt_st (S : ST Hi G i ds σ H) (k : ∀ (L : Addr) (zs : List V), Hi L = none → Same Hi H → H L = some (.lst zs) → DatAll H zs ds → D.rt (.ref L) H) : tRet (tVar i) D σ H := by
  obtain ⟨L, zs, H0, h1, h2, h3, h4, h5, h6, h7⟩ := S
  exact ⟨_, h1, k L zs (none_back h4 h3) (h4.trans h5) h2 (h6.same h5)⟩
/-- the base of a growing list is moved on -/
theorem ST.rebase (S : ST Hi G i ds σ H) {H1 : Hp} (S1 : Same H H1) : ∃ Hb, Same Hi Hb ∧ Same Hb H1 ∧ ST Hb G i ds σ H1 ∧ ∀ v d, noL d = true → Dat H1 v d → Dat Hb v d := by
  obtain ⟨L, zs, H0, h1, h2, h3, h4, h5, h6, h7⟩ := S
  have hL := S1 _ _ h2
  have T := noR_same h3 (h5.trans S1)
  exact ⟨noR L H1, h4.trans T, noR_sub, ⟨L, zs, noR L H1, h1, hL, if_pos rfl, Same.refl _, noR_sub, h6.same T, h7.same T⟩, fun v d no dd => dat_noL hL no dd⟩
theorem ST.base {Hb : Hp} (S : ST Hb G i ds σ H) (h : Same Hi Hb) : ST Hi G i ds σ H := by
  obtain ⟨L, zs, H0, h1, h2, h3, h4, h5, h6, h7⟩ := S
  exact ⟨L, zs, H0, h1, h2, h3, h.trans h4, h5, h6, h7⟩
theorem ST.next (S : ST Hi G i ds σ H) {H1 : Hp} (S1 : Same H H1) : ST Hi G i ds σ H1 := by
  obtain ⟨Hb, B1, _, SB, _⟩ := S.rebase S1
  exact SB.base B1
theorem flat_succ {α β : Type} {f : α → List β} {ps : List α} {j : Nat} {p : α} (h : ps[j]? = some p) : (ps.take (j + 1)).flatMap f = (ps.take j).flatMap f ++ f p := by
  rw [List.take_add_one, h, List.flatMap_append]
  simp
/-- for a, b in (a tuple of pairs): the list grows -/
theorem for_pairs {K : PySem.W.Frag} {a b : Nat} {t : TE} {tb : TS} {ps : List (PyData × PyData)} {fF : PyData × PyData → List PyData} (S : ST Hi G i ds σ H) (hN : σ.length = N) (M : Mk G t (.tuple (ps.map fun p => .tuple [p.1, p.2]))) (no : noL (.tuple (ps.map fun p => .tuple [p.1, p.2])) = true)
    (hG : G.all (fun p => p.1 != a) = true) (hG2 : G.all (fun p => p.1 != b) = true) (hab : a ≠ b) (hai : a ≠ i) (hbi : b ≠ i) (haN : a < N) (hbN : b < N)
    (body : ∀ (j : Nat) (p : PyData × PyData) (Hb : Hp) (acc : List PyData) (σ' : L2.St) (H' : Hp) (D' : Ends), ps[j]? = some p → σ'.length = N → acc = ds ++ (ps.take j).flatMap fF → ST Hb ((b, p.2) :: (a, p.1) :: G) i acc σ' H' → (∀ H2, ST Hb ((b, p.2) :: (a, p.1) :: G) i (acc ++ fF p) σ' H2 → D'.nx σ' H2) → tb D' σ' H')
    (k : ∀ (σ' : L2.St) (H' : Hp), σ'.length = N → ST Hi G i (ds ++ ps.flatMap fF) σ' H' → D.nx σ' H') : tFor (iTup K t) (gTup K 2 (gCons (gName a) (gCons (gName b) gNil))) tb D σ H := M σ H _ S.env fun v H1 S1 d1 => by
  have hG := ne_of hG
  have hG2 := ne_of hG2
  obtain ⟨Hb, B1, B2, SB, bd⟩ := S.rebase S1
  obtain ⟨a0, xs, rfl, ha, hx⟩ := dat_tup (bd _ _ no d1)
  have hxl := hx.len
  rw [List.length_map] at hxl
  refine ⟨a0, rfl, ⟨_, sqT_rd (upR ha B2)⟩, for_tup (K := K) (xs := xs) (fun j σ' H' => σ'.length = N ∧ ST Hb G i (ds ++ (ps.take j).flatMap fF) σ' H') ⟨hN, by rw [List.take_zero, List.flatMap_nil, List.append_nil]; exact SB⟩ (fun j σ' H' _ g => sqT_rd (upR ha g.2.same)) ?_ ?_⟩
  · rintro j y σ' H' hy ⟨hN', g⟩
    obtain ⟨d, hd, dy⟩ := hx.get hy
    rw [List.getElem?_map] at hd
    obtain ⟨p, hp, rfl⟩ := Option.map_eq_some_iff.mp hd
    obtain ⟨b0, ys, rfl, hb, hys⟩ := dat_tup dy
    obtain ⟨y0, y1, rfl, c0, c1⟩ := dat_two hys
    have noP : noL (.tuple [p.1, p.2]) = true := noLs_iff.mp (show noLs (ps.map fun p => .tuple [p.1, p.2]) = true from no) _ (List.mem_map_of_mem (List.mem_of_getElem? hp))
    have noP2 : noLs [p.1, p.2] = true := noP
    simp only [noLs, Bool.and_eq_true] at noP2
    refine ⟨b0, _, rfl, sqT_rd (upR hb g.same), rfl, y0, _, rfl, y1, _, rfl, rfl, ?_⟩
    have g1 := st_set g (Same.refl H') (c0.same g.same) noP2.1 hG hai (by rw [hN']; exact haN)
    have hk1 : ∀ p0 ∈ (a, p.1) :: G, p0.1 ≠ b := fun p0 h0 => by
      rcases List.mem_cons.mp h0 with rfl | h0
      · exact hab
      · exact hG2 p0 h0
    have g2 := st_set g1 (Same.refl H') (c1.same g.same) noP2.2.1 hk1 hbi (by rw [List.length_set, hN']; exact hbN)
    refine body j p Hb _ _ H' _ hp (by rw [List.length_set, List.length_set, hN']) rfl g2 fun H2 g3 => ⟨by rw [List.length_set, List.length_set, hN'], ?_⟩
    rw [flat_succ hp, ← List.append_assoc]
    exact g3.weak fun q hq => List.mem_cons_of_mem _ (List.mem_cons_of_mem _ hq)
  · rintro σ' H' ⟨hN', g⟩
    rw [hxl, List.take_length] at g
    exact k σ' H' hN' (g.base B1)
/-- for a in (a tuple): the list grows -/
theorem for_itemsP {K : PySem.W.Frag} {a : Nat} {t : TE} {tb : TS} {ps : List PyData} {fF : PyData → List PyData} (S : ST Hi G i ds σ H) (hN : σ.length = N) (M : ∀ Q : VK, (∀ (v : V) (H' : Hp), Same H H' → Dat H' v (.tuple ps) → Q v H') → t σ H Q) (no : noLs ps = true)
    (hG : G.all (fun p => p.1 != a) = true) (hai : a ≠ i) (haN : a < N)
    (body : ∀ (j : Nat) (p : PyData) (Hb : Hp) (acc : List PyData) (σ' : L2.St) (H' : Hp) (D' : Ends), ps[j]? = some p → σ'.length = N → acc = ds ++ (ps.take j).flatMap fF → ST Hb ((a, p) :: G) i acc σ' H' → (∀ H2, ST Hb ((a, p) :: G) i (acc ++ fF p) σ' H2 → D'.nx σ' H2) → tb D' σ' H')
    (k : ∀ (σ' : L2.St) (H' : Hp), σ'.length = N → ST Hi G i (ds ++ ps.flatMap fF) σ' H' → D.nx σ' H') : tFor (iTup K t) (gName a) tb D σ H := M _ fun v H1 S1 d1 => by
  have hG := ne_of hG
  obtain ⟨Hb, B1, B2, SB, bd⟩ := S.rebase S1
  obtain ⟨a0, xs, rfl, ha, hx⟩ := dat_tup (bd _ _ (show noL (.tuple ps) = true from no) d1)
  have hxl := hx.len
  refine ⟨a0, rfl, ⟨_, sqT_rd (upR ha B2)⟩, for_tup (K := K) (xs := xs) (fun j σ' H' => σ'.length = N ∧ ST Hb G i (ds ++ (ps.take j).flatMap fF) σ' H') ⟨hN, by rw [List.take_zero, List.flatMap_nil, List.append_nil]; exact SB⟩ (fun j σ' H' _ g => sqT_rd (upR ha g.2.same)) ?_ ?_⟩
  · rintro j y σ' H' hy ⟨hN', g⟩
    obtain ⟨p, hp, dy⟩ := hx.get hy
    have g1 := st_set g (Same.refl H') (dy.same g.same) (noLs_iff.mp no _ (List.mem_of_getElem? hp)) hG hai (by rw [hN']; exact haN)
    refine body j p Hb _ _ H' _ hp (by rw [List.length_set, hN']) rfl g1 fun H2 g3 => ⟨by rw [List.length_set, hN'], ?_⟩
    rw [flat_succ hp, ← List.append_assoc]
    exact g3.weak fun q hq => List.mem_cons_of_mem _ hq
  · rintro σ' H' ⟨hN', g⟩
    rw [hxl, List.take_length] at g
    exact k σ' H' hN' (g.base B1)
/-- for a in (a tuple): the list grows -/
theorem for_items {K : PySem.W.Frag} {a : Nat} {t : TE} {tb : TS} {ps : List PyData} {fF : PyData → List PyData} (S : ST Hi G i ds σ H) (hN : σ.length = N) (M : MkN N G t (.tuple ps)) (no : noLs ps = true)
    (hG : G.all (fun p => p.1 != a) = true) (hai : a ≠ i) (haN : a < N)
    (body : ∀ (j : Nat) (p : PyData) (Hb : Hp) (acc : List PyData) (σ' : L2.St) (H' : Hp) (D' : Ends), ps[j]? = some p → σ'.length = N → acc = ds ++ (ps.take j).flatMap fF → ST Hb ((a, p) :: G) i acc σ' H' → (∀ H2, ST Hb ((a, p) :: G) i (acc ++ fF p) σ' H2 → D'.nx σ' H2) → tb D' σ' H')
    (k : ∀ (σ' : L2.St) (H' : Hp), σ'.length = N → ST Hi G i (ds ++ ps.flatMap fF) σ' H' → D.nx σ' H') : tFor (iTup K t) (gName a) tb D σ H := for_itemsP S hN (fun Q k => M σ H Q hN S.env k) no hG hai haN body k
/-- for a in range(n): the list grows -/
theorem for_upto {a n : Nat} {t : TE} {tb : TS} {fF : Nat → List PyData} (S : ST Hi G i ds σ H) (hN : σ.length = N) (M : Mk G t (.int (n : Nat))) (hn : n ≤ 5000)
    (hG : G.all (fun p => p.1 != a) = true) (hai : a ≠ i) (haN : a < N)
    (body : ∀ (j : Nat) (acc : List PyData) (σ' : L2.St) (H' : Hp) (D' : Ends), j < n → σ'.length = N → acc = ds ++ (List.range j).flatMap fF → ST Hi ((a, .int (j : Nat)) :: G) i acc σ' H' → (∀ H2, ST Hi ((a, .int (j : Nat)) :: G) i (acc ++ fF j) σ' H2 → D'.nx σ' H2) → tb D' σ' H')
    (k : ∀ (σ' : L2.St) (H' : Hp), σ'.length = N → ST Hi G i (ds ++ (List.range n).flatMap fF) σ' H' → D.nx σ' H') : tFor (iRng1 (tCons t tNil)) (gName a) tb D σ H := M σ H _ S.env fun v H1 S1 d1 => by
  have hG := ne_of hG
  obtain rfl := dat_isInt d1
  obtain ⟨Hb, B1, B2, SB, bd⟩ := S.rebase S1
  refine ⟨((n : Nat) : Int), rfl, by omega, by omega, for_range (n := n) (fun j σ' H' => σ'.length = N ∧ ST Hi G i (ds ++ (List.range j).flatMap fF) σ' H') ⟨hN, by rw [List.range_zero, List.flatMap_nil, List.append_nil]; exact SB.base B1⟩ ?_ ?_⟩
  · rintro j σ' H' hj ⟨hN', g⟩
    rw [show ((0 : Int) + (j : Nat)) = ((j : Nat) : Int) from Int.zero_add _]
    have g1 := st_set g (Same.refl H') (.int ((j : Nat) : Int)) rfl hG hai (by rw [hN']; exact haN)
    refine body j _ _ H' _ hj (by rw [List.length_set, hN']) rfl g1 fun H2 g3 => ⟨by rw [List.length_set, hN'], ?_⟩
    rw [List.range_succ, List.flatMap_append, ← List.append_assoc]
    refine (g3.weak fun q hq => List.mem_cons_of_mem _ hq : ST Hi G i _ _ H2) |> fun z => ?_
    simpa using z
  · rintro σ' H' ⟨hN', g⟩
    exact k σ' H' hN' g
end
end K9
set_option maxRecDepth 100000
set_option maxHeartbeats 8000000
namespace K9
open PySem PySem.Spec PyProof.Rows L2
theorem sq_of {t R : TS} {D : Ends} {σ : L2.St} {H : Hp} (h : t { D with nx := R D } σ H) : tSeq t R D σ H := h
/-! ### tests of texts -/
section
variable {G : List (Nat × PyData)} {t u : TE}
theorem dat_strV {H : Hp} {v : V} {z : Str} (h : Dat H v (.str z)) : v = .str z := by
  cases h
  rfl
theorem mk_eqS {a b : Str} {c : Bool} (h : Mk G t (.str a)) (h2 : Mk G u (.str b)) (e : decide (V.str a = V.str b) = c) : Mk G (tOp rEq t u) (.bool c) := fun σ H Q E q => h σ H _ E fun v H1 S1 d1 => h2 σ H1 _ (E.same S1) fun v2 H2 S2 d2 => by
  obtain rfl := dat_strV d1
  obtain rfl := dat_strV d2
  refine ⟨rfl, ?_⟩
  rw [e]
  exact q _ H2 (S1.trans S2) (.bl c)
end
/-! ### the queries of rows -/
def totN (cs : Cn) : Nat := (cs.map (·.2)).sum
def qW (w : Str) (n : Nat) : List PyData := (List.range n).map fun p => .tuple [.str w, .int (p : Nat)]
def qSel (c : Str × Nat) : List PyData := (List.range c.2).map fun j => .tuple [.str "select", .str c.1, .int (j : Nat)]
def rowQ0 (cs : Cn) : List PyData := qW "letter" (totN cs) ++ qW "prefix" (totN cs + 1) ++ qW "entry" (totN cs)
def rowQ (cs : Cn) : List PyData := rowQ0 cs ++ cs.flatMap qSel
def qLoc (ns : List Str) : List PyData := ns.map fun z => .tuple [.str "locate", .str z]
def arrQ (ns : List Str) : List PyData := qW "entry" ns.length ++ qLoc ns
theorem qW_len (w : Str) (n : Nat) : (qW w n).length = n := by unfold qW; rw [List.length_map, List.length_range]
theorem qSel_len (c : Str × Nat) : (qSel c).length = c.2 := by unfold qSel; rw [List.length_map, List.length_range]
theorem sel_len : ∀ cs : Cn, (cs.flatMap qSel).length = totN cs
  | [] => rfl
  | c :: cs => by
    rw [List.flatMap_cons, List.length_append, sel_len cs, qSel_len]
    unfold totN
    rw [List.map_cons, List.sum_cons]
theorem qSel_noL (c : Str × Nat) : noLs (qSel c) = true := noLs_iff.mpr fun d hd => by
  unfold qSel at hd
  obtain ⟨k, _, rfl⟩ := List.mem_map.mp hd
  rfl
theorem tot_int (cs : Cn) : (cs.map fun c => (c.2 : Int)).sum = ((totN cs : Nat) : Int) := by
  induction cs with
  | nil => rfl
  | cons c cs ih =>
    rw [List.map_cons, List.sum_cons, ih]
    unfold totN
    rw [List.map_cons, List.sum_cons]
    omega
theorem names_ok : ∀ (n : Nat) (d : PyData), orderB n d = true → ∀ z ∈ namesN n d, nameS z = true
  | 0, _, _ => fun z h => by simp [namesN] at h
  | n + 1, d, h => by
    obtain ⟨d0, d1, rfl, hh⟩ := order_cases h
    have e : namesN (n + 1) (.tuple [d0, d1]) = if eqStr "item" d0 = true then [strOf d1] else (tupItems d1).flatMap (namesN n) := by rw [namesN]; rfl
    rw [e]
    rcases hh with ⟨h0, hn⟩ | ⟨h0, es, rfl, _, l6, hes⟩
    · rw [h0, if_pos rfl]
      intro z hz
      obtain rfl := List.mem_singleton.mp hz
      cases d1 with
      | str s => exact hn
      | _ => cases hn
    · rw [h0, if_neg Bool.false_ne_true]
      intro z hz
      obtain ⟨q, hq, hz⟩ := List.mem_flatMap.mp hz
      exact names_ok n q (hes q hq) z hz
theorem name_short {z : Str} (h : nameS z = true) : z.length ≤ 1000 := by have := (nameS_all h).2; omega
/-- a fresh list of data is handed on -/
def Fresh (H : Hp) (Q : VK) (ok : List PyData → Prop) : Prop := ∀ (L : Addr) (zs : List V) (ds : List PyData) (H' : Hp), H L = none → Same H H' → H' L = some (.lst zs) → DatAll H' zs ds → ok ds → Q (.ref L) H'
def selF : PyData × PyData → List PyData
  | (.str z, .int i) => qSel (z, i.toNat)
  | _ => []
theorem selF_all (cs : Cn) : (cs.map fun c => (PyData.str c.1, PyData.int (c.2 : Nat))).flatMap selF = cs.flatMap qSel := by
  induction cs with
  | nil => rfl
  | cons c cs ih =>
    rw [List.map_cons, List.flatMap_cons, List.flatMap_cons, ih]
    rfl
theorem flat_le {α β : Type} {f : α → List β} (l : List α) (i : Nat) : ((l.take i).flatMap f).length ≤ (l.flatMap f).length := by
  have z : l.flatMap f = (l.take i).flatMap f ++ (l.drop i).flatMap f := by rw [← List.flatMap_append, List.take_append_drop]
  rw [z, List.length_append]
  omega
theorem flat_mem {α β : Type} {f : α → List β} {l : List α} {a : α} (h : a ∈ l) : (f a).length ≤ (l.flatMap f).length := by
  obtain ⟨s, t, rfl⟩ := List.append_of_mem h
  rw [List.flatMap_append, List.flatMap_cons, List.length_append, List.length_append]
  omega
def isRow : S9 → Bool
  | .leaf (.word _) => true
  | .leaf (.arr _) => true
  | .dec _ _ => true
  | _ => false
def okRow : S9 → List PyData → Prop
  | .leaf (.word cs) => fun ds => ds = rowQ cs
  | .leaf (.arr o) => fun ds => ∃ ns, ns.Perm (namesN 6 o) ∧ ds = arrQ ns
  | .dec cs _ => fun ds => ds = rowQ cs
  | _ => fun _ => False
def spRowQs : Sp := fun vs H Q _ => ∃ (v : V) (s : S9), vs = [v] ∧ Dat H v (dt s) ∧ FineS s ∧ isRow s = true ∧ Fresh H Q (okRow s)
abbrev s_row_queries : Stmt := top 38
theorem row_cases {s : S9} (hf : FineS s) (hk : isRow s = true) : (∃ o, s = .leaf (.arr o)) ∨ ∃ (cs : Cn) (zk : Str) (rest : List PyData), decide (V.str zk = V.str "arrangement") = false ∧ dt s = .tuple (.str zk :: cntsD cs :: rest) ∧ cntsY cs = true ∧ (∀ ds, ds = rowQ cs → okRow s ds) ∧ cs.length ≤ 100 := by
  cases s with
  | leaf l =>
    cases l with
    | word cs =>
      have e1 := hf.sm
      rw [smS, Bool.and_eq_true] at e1
      have e2 := hf.ok
      rw [okS] at e2
      exact .inr ⟨cs, "word", [], by decide +kernel, by rw [dt]; rfl, e1.2, fun ds h => h, of_decide_eq_true e2⟩
    | arr o => exact .inl ⟨o, rfl⟩
    | _ => cases hk
  | row c xs => cases hk
  | pow n x => cases hk
  | dec cs xs =>
    have e2 := hf.ok
    rw [okS, Bool.and_eq_true, Bool.and_eq_true, Bool.and_eq_true] at e2
    have e1 := hf.ti
    rw [tinyS, Bool.and_eq_true] at e1
    obtain ⟨l3, l2⟩ := cnts_le e1.1
    refine .inr ⟨cs, "decorated", [.tuple (dts xs)], by decide +kernel, by rw [dt], ?_, fun ds h => h, of_decide_eq_true e2.2.1⟩
    unfold cntsY
    have e3 := e1.1
    unfold cntsZ at e3
    rw [Bool.and_eq_true, List.all_eq_true] at e3
    rw [Bool.and_eq_true, List.all_eq_true]
    refine ⟨decide_eq_true ?_, fun c hc => ?_⟩
    · have : ∀ l : Cn, (∀ c ∈ l, c.2 ≤ 2) → (l.map (·.2)).sum ≤ 2 * l.length := by
        intro l
        induction l with
        | nil => exact fun _ => Nat.le_refl _
        | cons c l ih =>
          intro hl
          have h1 := ih fun c hc => hl c (List.mem_cons_of_mem _ hc)
          have h2 := hl c List.mem_cons_self
          rw [List.map_cons, List.sum_cons, List.length_cons]
          omega
      have := this cs fun c hc => (l2 c hc).1
      omega
    · have := e3.2 c hc
      rw [Bool.and_eq_true] at this
      exact this.2
section
variable {P : Program} {w : World} {K : PySem.W.Frag} {mg : Str → Option Value} {base : Heap}
theorem sc_row_queries : FnScope ["_law_part", "_law_names_here", "_law_n", "_law_found", "_law_letter", "_law_often", "_law_p", "_law_name", "_law_j"] ["_law_part"] (defScope s_row_queries) := ⟨rfl, rfl, rfl, by decide +kernel, rfl, by decide +kernel, by decide +kernel⟩
theorem okl_rowq {f fN : Addr} {fd fdN : FuncData} (F : Fun K "_law_row_queries" "_law_row_queries" s_row_queries f fd) (T : Nm mg) (Ts : mg "sorted" = none) (D : DefOk K mg "_law_names" s_names ["_law_order_here"] fN fdN) : FnOk P w K mg base CX0 8 f fd ["_law_part"] spRowQs := by
  have G_names : FnOk P w K mg base CX0 7 fN fdN ["_law_order_here"] (spNames 6) := okl_names D.F D.b D.g 6
  refine F.ok sc_row_queries (fun vs H Q E h => ?_) (fun cdv A outer s H vs Q E hr h => ?_)
  · obtain ⟨v, s, rfl, _⟩ := h
    rfl
  · obtain ⟨v, sp, rfl, hv, hf, hk, q⟩ := h
    refine ⟨_, (pss_cons (ps_if (pt_cmpR op_eq (pe_ix ix_tup (pv 0) pe_int (fun _ _ => rfl)) pe_str (nomark _))
        (pss_cons (ps_set (i := 1) sc_row_queries.nd rfl (Or.inl rfl) (pe_callB cr_sortedS (by rfl) Ts (by decide +kernel) (pa_cons (pe_call G_names hr rfl D.g D.F.kp D.b .nil pass0 (pa_cons (pe_ix ix_tup (pv 0) pe_int (fun _ _ => rfl)) pa_nil)) pa_nil)))
        (pss_one (ps_ret (pe_op op_cat (pe_lc (own := [("_law_p", 6)]) (g := (gName 6)) (tt := tYes) rfl sc_row_queries.nd (pi_range1 rfl T.range (pa_cons (pe_callB cr_lenS (by rfl) T.len PySem.boot_len (pa_cons (pv 1) pa_nil)) pa_nil)) (blkOk_by (N := ["_law_part", "_law_names_here", "_law_n", "_law_found", "_law_letter", "_law_often", "_law_p", "_law_name", "_law_j"]) (sc := defScope s_row_queries) (by decide +kernel))
          (fun _ _ _ _ _ => (pg_name (i := 6) sc_row_queries.nd rfl (Or.inl rfl))) (fun _ _ _ _ _ => pts_nil) (fun _ _ _ _ _ => (pe_tup (pa_cons pe_str (pa_cons (pv 6) pa_nil))))) (pe_lc (own := [("_law_name", 7)]) (g := (gName 7)) (tt := tYes) rfl sc_row_queries.nd (pi_list (pv 1)) (blkOk_by (N := ["_law_part", "_law_names_here", "_law_n", "_law_found", "_law_letter", "_law_often", "_law_p", "_law_name", "_law_j"]) (sc := defScope s_row_queries) (by decide +kernel))
          (fun _ _ _ _ _ => (pg_name (i := 7) sc_row_queries.nd rfl (Or.inl rfl))) (fun _ _ _ _ _ => pts_nil) (fun _ _ _ _ _ => (pe_tup (pa_cons pe_str (pa_cons (pv 7) pa_nil)))))))))
        pss_nil)
      (pss_cons (ps_set (i := 2) sc_row_queries.nd rfl (Or.inl rfl) (pe_callB (cr_sum rfl) (by rfl) T.sum boot_sum (pa_cons (pe_lc (own := [("_law_letter", 4), ("_law_often", 5)]) (g := (gTup K 2 (gCons (gName 4) (gCons (gName 5) gNil)))) (tt := tYes) rfl sc_row_queries.nd (pi_tup (pe_ix ix_tup (pv 0) pe_int (fun _ _ => rfl))) (blkOk_by (N := ["_law_part", "_law_names_here", "_law_n", "_law_found", "_law_letter", "_law_often", "_law_p", "_law_name", "_law_j"]) (sc := defScope s_row_queries) (by decide +kernel))
          (fun _ _ _ _ _ => (pg_tup rfl (pgs_cons (pg_name (i := 4) sc_row_queries.nd rfl (Or.inl rfl)) (pgs_cons (pg_name (i := 5) sc_row_queries.nd rfl (Or.inl rfl)) pgs_nil)))) (fun _ _ _ _ _ => pts_nil) (fun _ _ _ _ _ => (pv 5))) pa_nil)))
      (pss_cons (ps_set (i := 3) sc_row_queries.nd rfl (Or.inl rfl) (pe_op op_cat (pe_lc (own := [("_law_p", 6)]) (g := (gName 6)) (tt := tYes) rfl sc_row_queries.nd (pi_range1 rfl T.range (pa_cons (pv 2) pa_nil)) (blkOk_by (N := ["_law_part", "_law_names_here", "_law_n", "_law_found", "_law_letter", "_law_often", "_law_p", "_law_name", "_law_j"]) (sc := defScope s_row_queries) (by decide +kernel))
          (fun _ _ _ _ _ => (pg_name (i := 6) sc_row_queries.nd rfl (Or.inl rfl))) (fun _ _ _ _ _ => pts_nil) (fun _ _ _ _ _ => (pe_tup (pa_cons pe_str (pa_cons (pv 6) pa_nil))))) (pe_lc (own := [("_law_p", 6)]) (g := (gName 6)) (tt := tYes) rfl sc_row_queries.nd (pi_range1 rfl T.range (pa_cons (pe_op op_add (pv 2) pe_int) pa_nil)) (blkOk_by (N := ["_law_part", "_law_names_here", "_law_n", "_law_found", "_law_letter", "_law_often", "_law_p", "_law_name", "_law_j"]) (sc := defScope s_row_queries) (by decide +kernel))
          (fun _ _ _ _ _ => (pg_name (i := 6) sc_row_queries.nd rfl (Or.inl rfl))) (fun _ _ _ _ _ => pts_nil) (fun _ _ _ _ _ => (pe_tup (pa_cons pe_str (pa_cons (pv 6) pa_nil)))))))
      (pss_cons (ps_set (i := 3) sc_row_queries.nd rfl (Or.inl rfl) (pe_op op_cat (pv 3) (pe_lc (own := [("_law_p", 6)]) (g := (gName 6)) (tt := tYes) rfl sc_row_queries.nd (pi_range1 rfl T.range (pa_cons (pv 2) pa_nil)) (blkOk_by (N := ["_law_part", "_law_names_here", "_law_n", "_law_found", "_law_letter", "_law_often", "_law_p", "_law_name", "_law_j"]) (sc := defScope s_row_queries) (by decide +kernel))
          (fun _ _ _ _ _ => (pg_name (i := 6) sc_row_queries.nd rfl (Or.inl rfl))) (fun _ _ _ _ _ => pts_nil) (fun _ _ _ _ _ => (pe_tup (pa_cons pe_str (pa_cons (pv 6) pa_nil)))))))
      (pss_cons (ps_for PassesOwn.never rfl (pi_tup (pe_ix ix_tup (pv 0) pe_int (fun _ _ => rfl))) (pg_tup rfl (pgs_cons (pg_name (i := 4) sc_row_queries.nd rfl (Or.inr rfl)) (pgs_cons (pg_name (i := 5) sc_row_queries.nd rfl (Or.inl rfl)) pgs_nil)))
        (pss_one (ps_expr (pe_bm PySem.F.plainAttrs_list PySem.F.slot_list_extend PySem.F.type_list_extend mt_extend (pv 3) (pa_cons (pe_lc (own := [("_law_j", 8)]) (g := (gName 8)) (tt := tYes) rfl sc_row_queries.nd (pi_range1 rfl T.range (pa_cons (pv 5) pa_nil)) (blkOk_by (N := ["_law_part", "_law_names_here", "_law_n", "_law_found", "_law_letter", "_law_often", "_law_p", "_law_name", "_law_j"]) (sc := defScope s_row_queries) (by decide +kernel))
          (fun _ _ _ _ _ => (pg_name (i := 8) sc_row_queries.nd rfl (Or.inl rfl))) (fun _ _ _ _ _ => pts_nil) (fun _ _ _ _ _ => (pe_tup (pa_cons pe_str (pa_cons (pv 4) (pa_cons (pv 8) pa_nil)))))) pa_nil)))))
      (pss_one (ps_ret (pv 3)))))))), ?_⟩
    rcases row_cases hf hk with ⟨o, rfl⟩ | ⟨cs, zk, rest, hz, he, hc, hok, hl⟩
    · rw [dt] at hv
      have ho : orderB 6 o = true := hf.ok
      have hz := hf.sm
      rw [smS, Bool.and_eq_true] at hz
      have hl : (namesN 6 o).length ≤ 60 := of_decide_eq_true hz.2
      have E0 : EnvOk [(0, ldt (.arr o))] ([some v] ++ List.replicate 8 none) H := fun p hp => by
        obtain rfl := List.mem_singleton.mp hp
        exact ⟨v, rfl, hv⟩
      have M : ∀ {j : Nat} {d : PyData}, [PyData.str "arrangement", o][j]? = some d → Mk [(0, ldt (.arr o))] (tOp (rIxT K) (tVar 0) (tC (.int (j : Nat)))) d := fun {j d} h => mk_ixT (ds := [.str "arrangement", o]) (mk_var List.mem_cons_self) rfl h
      refine sq_if1 (mkt (mk_eqS (M (j := 0) rfl) (mk_str (by decide)) (decide_eq_true rfl))) E0 fun H1 S1 => ?_
      refine M (j := 1) rfl _ H1 _ (E0.same S1) fun v1 H2 S2 d2 => ⟨v1, o, rfl, by decide, d2, ho, fun p H3 S3 n3 hp => ⟨p, namesN 6 o, rfl, SqL.of hp, by omega, fun ys p4 hperm hsort n4 => ?_⟩⟩
      have hly := hperm.length_eq
      have S4 := same_new (o := HO.lst (ys.map V.str)) n4
      have E4 : EnvOk [(1, .list (ys.map PyData.str)), (0, ldt (.arr o))] (([some v] ++ List.replicate 8 none).set 1 (some (.ref p4))) (upd H3 p4 (.lst (ys.map V.str))) := ((E0.same (((S1.trans S2).trans S3).trans S4))).put (fun p hp => by
        obtain rfl := List.mem_singleton.mp hp
        show 0 ≠ 1
        decide) (by show 1 < 9; decide) (.lst upd_same (strs_all _ ys fun z hz => name_short (names_ok 6 o ho z (hperm.mem_iff.mp hz))))
      have T4 := ((S1.trans S2).trans S3).trans S4
      generalize upd H3 p4 (.lst (ys.map V.str)) = H4 at E4 T4 ⊢
      refine rt_mkf (N := 9) (mkf_cat (MkF.n (mkf_range1 (n := ys.length) (f := fun p => .tuple [.str "entry", .int (p : Nat)]) (mk_lenL (mk_var List.mem_cons_self) (by rw [List.length_map])) (by omega) rfl (by decide) (fun j _ => mks_tup2 (mk_str (by decide)) (mk_var (List.mem_cons_self))) (fun _ _ => rfl)))
          (MkF.n (mkf_list (f := fun d => .tuple [.str "locate", d]) (mk_var List.mem_cons_self) (by rw [List.length_map]; omega) rfl (by decide) (fun j _ => mks_tup2 (mk_str (by decide)) (mk_var (List.mem_cons_self))) (fun d hd => by
            obtain ⟨z, _, rfl⟩ := List.mem_map.mp hd
            rfl))) (by simp only [List.length_map, List.length_range]; omega)) rfl E4 fun L zs H' n0 S e d => ?_
      refine q L zs _ H' (none_back T4 n0) (T4.trans S) e d ⟨ys, hperm, ?_⟩
      unfold arrQ qLoc qW
      rw [List.map_map]
      rfl
    · have q : Fresh H Q (fun ds => ds = rowQ cs) := fun L zs ds H' n0 S e d h => q L zs ds H' n0 S e d (hok ds h)
      rw [he] at hv
      unfold cntsY at hc
      rw [Bool.and_eq_true, List.all_eq_true] at hc
      have ht : totN cs ≤ 1000 := of_decide_eq_true hc.1
      have E0 : EnvOk [(0, PyData.tuple (.str zk :: cntsD cs :: rest))] ([some v] ++ List.replicate 8 none) H := fun p hp => by
        obtain rfl := List.mem_singleton.mp hp
        exact ⟨v, rfl, hv⟩
      have M1 : ∀ {G : List (Nat × PyData)}, (0, PyData.tuple (.str zk :: cntsD cs :: rest)) ∈ G → Mk G (tOp (rIxT K) (tVar 0) (tC (.int 1))) (.tuple (cs.map fun c => .tuple [.str c.1, .int (c.2 : Nat)])) := fun {G} hG => mk_ixT (j := 1) (mk_var hG) rfl rfl
      refine sq_if0 (mkt (mk_eqS (mk_ixT (j := 0) (mk_var (List.mem_cons_self)) rfl rfl) (mk_str (by decide)) hz)) E0 fun H1 S1 => ?_
      have E1 := E0.same S1
      refine sq_setN (N := 9) (d := .int ((totN cs : Nat) : Int)) ?_ rfl E1 rfl (by decide) fun v2 H2 S2 E2 => ?_
      · rw [← tot_int]
        refine mkn_sum ?_
        have m := mkf_pairs (N := 9) (K := K) (G := [(0, PyData.tuple (.str zk :: cntsD cs :: rest))]) (i := 4) (k := 5) (te := tVar 5) (ps := cs.map fun c => (PyData.str c.1, PyData.int (c.2 : Nat))) (f := fun p => p.2) (by
          rw [List.map_map]
          exact M1 List.mem_cons_self) (by rw [List.length_map]; omega) rfl rfl (by decide) (by decide) (by decide) (fun p _ => mk_var List.mem_cons_self) (fun p hp => by
          obtain ⟨c, _, rfl⟩ := List.mem_map.mp hp
          rfl)
        have e : (cs.map fun c => (PyData.str c.1, PyData.int (c.2 : Nat))).map (fun p => p.2) = (cs.map fun c => (c.2 : Int)).map PyData.int := by
          rw [List.map_map, List.map_map]
          rfl
        rw [e] at m
        exact m.n
      refine sq_setN (N := 9) (d := .list (qW "letter" (totN cs) ++ qW "prefix" (totN cs + 1))) ?_ rfl E2 rfl (by decide) fun v3 H3 S3 E3 => ?_
      · exact (mkf_cat (MkF.n (mkf_range1 (n := totN cs) (f := fun p => .tuple [.str "letter", .int (p : Nat)]) (mk_var (List.mem_cons_self)) (by omega) rfl (by decide) (fun j _ => mks_tup2 (mk_str (by decide)) (mk_var (List.mem_cons_self))) (fun _ _ => rfl)))
          (MkF.n (mkf_range1 (n := totN cs + 1) (f := fun p => .tuple [.str "prefix", .int (p : Nat)]) (mk_addN (y := 1) (mk_var (List.mem_cons_self)) mk_int rfl) (by omega) rfl (by decide) (fun j _ => mks_tup2 (mk_str (by decide)) (mk_var (List.mem_cons_self))) (fun _ _ => rfl))) (by simp only [List.length_map, List.length_range]; omega)).n
      refine sq_setF (N := 9) (Hi := H) (ds := rowQ0 cs) (G := [(2, .int ((totN cs : Nat) : Int)), (0, PyData.tuple (.str zk :: cntsD cs :: rest))]) (mkf_cat (mk_var (List.mem_cons_self)).n
          (MkF.n (mkf_range1 (n := totN cs) (f := fun p => .tuple [.str "entry", .int (p : Nat)]) (mk_var (List.mem_cons_of_mem _ List.mem_cons_self)) (by omega) rfl (by decide) (fun j _ => mks_tup2 (mk_str (by decide)) (mk_var (List.mem_cons_self))) (fun _ _ => rfl))) (by simp only [List.length_append, qW_len, List.length_map, List.length_range]; omega))
        rfl E3 ((S1.trans S2).trans S3) (fun p hp => List.mem_cons_of_mem _ hp) rfl (by decide) fun p4 H4 T4 => ?_
      have l0 : (rowQ0 cs).length = 3 * totN cs + 1 := by
        unfold rowQ0
        rw [List.length_append, List.length_append, qW_len, qW_len, qW_len]
        omega
      refine sq_of (for_pairs (N := 9) (K := K) (ps := cs.map fun c => (PyData.str c.1, PyData.int (c.2 : Nat))) (fF := selF) T4 rfl (by
        rw [List.map_map]
        exact M1 (List.mem_cons_of_mem _ List.mem_cons_self)) (by
        rw [List.map_map]
        exact cnts_noL cs) rfl rfl (by decide) (by decide) (by decide) (by decide) (by decide) ?_ ?_)
      · intro j p Hb acc σ' H' D' hp hN' hacc g k
        have hm := List.mem_of_getElem? hp
        obtain ⟨c, hc', rfl⟩ := List.mem_map.mp hm
        have lc := flat_mem (f := qSel) hc'
        rw [sel_len, qSel_len] at lc
        have la := flat_le (f := selF) (cs.map fun c => (PyData.str c.1, PyData.int (c.2 : Nat))) j
        rw [selF_all, sel_len] at la
        refine one_ext g hN' (mkf_range1 (n := c.2) (f := fun j => .tuple [.str "select", .str c.1, .int (j : Nat)]) (mk_var List.mem_cons_self) (by omega) rfl (by decide) (fun j _ => mks_tup3 (mk_str (by decide)) (mk_var (by simp)) (mk_var List.mem_cons_self)) (fun _ _ => rfl)) (qSel_noL c) ?_ k
        rw [hacc, List.length_append, l0, List.length_map, List.length_range]
        omega
      · intro σ' H' hN' g
        rw [selF_all] at g
        exact rt_st g fun L zs n0 S e d => q L zs _ H' n0 S e d rfl
end
end K9
set_option maxRecDepth 100000
set_option maxHeartbeats 8000000
namespace K9
open PySem PySem.Spec PyProof.Rows L2
/-! ### the queries of walks -/
def qVis (w : Str) (t : Nat) (lo : Int) (m : Nat) : List PyData := (List.range m).map fun h => .tuple [.str w, .int (t : Nat), .int (lo - 1 + (h : Nat))]
def wkC (lo hi : Int) : Nat := (hi + 2 - (lo - 1)).toNat
def walkQ0 (n : Nat) (lo hi : Int) : List PyData := qW "height" (n + 1) ++ (List.range (n + 1)).flatMap fun t => qVis "first_visit" t lo (wkC lo hi) ++ qVis "last_visit" t lo (wkC lo hi)
def walkQ (n : Nat) (s e lo hi : Int) : List PyData := walkQ0 n lo hi ++ (if ((n : Int) + e - s) % 2 = 0 then qW "up" (((n : Int) + e - s) / 2).toNat ++ qW "down" (((n : Int) - e + s) / 2).toNat else [])
theorem qVis_len (w : Str) (t : Nat) (lo : Int) (m : Nat) : (qVis w t lo m).length = m := by unfold qVis; rw [List.length_map, List.length_range]
theorem qVis_noL (w : Str) (t : Nat) (lo : Int) (m : Nat) : noLs (qVis w t lo m) = true := noLs_iff.mpr fun d hd => by
  unfold qVis at hd
  obtain ⟨k, _, rfl⟩ := List.mem_map.mp hd
  rfl
theorem qW_noL (w : Str) (n : Nat) : noLs (qW w n) = true := noLs_iff.mpr fun d hd => by
  unfold qW at hd
  obtain ⟨k, _, rfl⟩ := List.mem_map.mp hd
  rfl
theorem vis_len (lo : Int) (m : Nat) : ∀ k : Nat, ((List.range k).flatMap fun t => qVis "first_visit" t lo m ++ qVis "last_visit" t lo m).length = k * (2 * m)
  | 0 => by simp
  | k + 1 => by
    rw [List.range_succ, List.flatMap_append, List.length_append, vis_len lo m k, Nat.succ_mul k (2 * m), List.flatMap_cons, List.flatMap_nil, List.append_nil, List.length_append, qVis_len, qVis_len]
    omega
def spWalkQs : Sp := fun vs H Q _ => ∃ (v : V) (n : Nat) (s e lo hi : Int), vs = [v] ∧ Dat H v (ldt (.walk n s e lo hi)) ∧ n ≤ 60 ∧ (-100 ≤ s ∧ s ≤ 100) ∧ (-100 ≤ e ∧ e ≤ 100) ∧ (-100 ≤ lo ∧ lo ≤ 100) ∧ (-100 ≤ hi ∧ hi ≤ 100) ∧ Fresh H Q (fun ds => ds = walkQ n s e lo hi)
abbrev s_walk_queries : Stmt := top 39
section
variable {P : Program} {w : World} {K : PySem.W.Frag} {mg : Str → Option Value} {base : Heap}
theorem sc_walk_queries : FnScope ["_law_part", "_law_word", "_law_n", "_law_start", "_law_end", "_law_low", "_law_high", "_law_found", "_law_t", "_law_h", "_law_j"] ["_law_part"] (defScope s_walk_queries) := ⟨rfl, rfl, rfl, by decide +kernel, rfl, by decide +kernel, by decide +kernel⟩
theorem okl_walkqs {f : Addr} {fd : FuncData} (F : Fun K "_law_walk_queries" "_law_walk_queries" s_walk_queries f fd) (T : Nm mg) : FnOk P w K mg base CX0 1 f fd ["_law_part"] spWalkQs := by
  refine F.ok sc_walk_queries (fun vs H Q E h => ?_) (fun cdv A outer s H vs Q E hr h => ?_)
  · obtain ⟨v, n, s, e, lo, hi, rfl, _⟩ := h
    rfl
  · obtain ⟨v, n, s0, e0, lo, hi, rfl, hv, hn, hs, he, hlo, hhi, q⟩ := h
    refine ⟨_, (pss_cons (ps_asg (pv 0) (pg_tup rfl (pgs_cons (pg_name (i := 1) sc_walk_queries.nd rfl (Or.inl rfl)) (pgs_cons (pg_name (i := 2) sc_walk_queries.nd rfl (Or.inl rfl)) (pgs_cons (pg_name (i := 3) sc_walk_queries.nd rfl (Or.inl rfl)) (pgs_cons (pg_name (i := 4) sc_walk_queries.nd rfl (Or.inl rfl)) (pgs_cons (pg_name (i := 5) sc_walk_queries.nd rfl (Or.inl rfl)) (pgs_cons (pg_name (i := 6) sc_walk_queries.nd rfl (Or.inl rfl)) pgs_nil))))))))
      (pss_cons (ps_setLc (i := 7) (own := [("_law_t", 8)]) (g := (gName 8)) (tt := tYes) rfl sc_walk_queries.nd rfl rfl (sw_true rfl rfl rfl (by decide +kernel)) (pi_range1 rfl T.range (pa_cons (pe_op op_add (pv 2) pe_int) pa_nil)) (blkOk_by (N := ["_law_part", "_law_word", "_law_n", "_law_start", "_law_end", "_law_low", "_law_high", "_law_found", "_law_t", "_law_h", "_law_j"]) (sc := defScope s_walk_queries) (by decide +kernel))
          (fun _ _ _ _ _ => (pg_name (i := 8) sc_walk_queries.nd rfl (Or.inl rfl))) (fun _ _ _ _ _ => pts_nil) (fun _ _ _ _ _ => (pe_tup (pa_cons pe_str (pa_cons (pv 8) pa_nil)))))
      (pss_cons (ps_for PassesOwn.never rfl (pi_range1 rfl T.range (pa_cons (pe_op op_add (pv 2) pe_int) pa_nil)) (pg_name (i := 8) sc_walk_queries.nd rfl (Or.inr rfl))
        (pss_cons (ps_expr (pe_bm PySem.F.plainAttrs_list PySem.F.slot_list_extend PySem.F.type_list_extend mt_extend (pv 7) (pa_cons (pe_lc (own := [("_law_h", 9)]) (g := (gName 9)) (tt := tYes) rfl sc_walk_queries.nd (pi_range2 rfl T.range (pa_cons (pe_op op_sub (pv 5) pe_int) (pa_cons (pe_op op_add (pv 6) pe_int) pa_nil))) (blkOk_by (N := ["_law_part", "_law_word", "_law_n", "_law_start", "_law_end", "_law_low", "_law_high", "_law_found", "_law_t", "_law_h", "_law_j"]) (sc := defScope s_walk_queries) (by decide +kernel))
          (fun _ _ _ _ _ => (pg_name (i := 9) sc_walk_queries.nd rfl (Or.inl rfl))) (fun _ _ _ _ _ => pts_nil) (fun _ _ _ _ _ => (pe_tup (pa_cons pe_str (pa_cons (pv 8) (pa_cons (pv 9) pa_nil)))))) pa_nil)))
        (pss_one (ps_expr (pe_bm PySem.F.plainAttrs_list PySem.F.slot_list_extend PySem.F.type_list_extend mt_extend (pv 7) (pa_cons (pe_lc (own := [("_law_h", 9)]) (g := (gName 9)) (tt := tYes) rfl sc_walk_queries.nd (pi_range2 rfl T.range (pa_cons (pe_op op_sub (pv 5) pe_int) (pa_cons (pe_op op_add (pv 6) pe_int) pa_nil))) (blkOk_by (N := ["_law_part", "_law_word", "_law_n", "_law_start", "_law_end", "_law_low", "_law_high", "_law_found", "_law_t", "_law_h", "_law_j"]) (sc := defScope s_walk_queries) (by decide +kernel))
          (fun _ _ _ _ _ => (pg_name (i := 9) sc_walk_queries.nd rfl (Or.inl rfl))) (fun _ _ _ _ _ => pts_nil) (fun _ _ _ _ _ => (pe_tup (pa_cons pe_str (pa_cons (pv 8) (pa_cons (pv 9) pa_nil)))))) pa_nil))))))
      (pss_cons (ps_if (pt_cmpR op_eq (pe_op op_mod (pe_op op_sub (pe_op op_add (pv 2) (pv 4)) (pv 3)) pe_int) pe_int (nomark _))
        (pss_cons (ps_expr (pe_bm PySem.F.plainAttrs_list PySem.F.slot_list_extend PySem.F.type_list_extend mt_extend (pv 7) (pa_cons (pe_lc (own := [("_law_j", 10)]) (g := (gName 10)) (tt := tYes) rfl sc_walk_queries.nd (pi_range1 rfl T.range (pa_cons (pe_op op_fdiv (pe_op op_sub (pe_op op_add (pv 2) (pv 4)) (pv 3)) pe_int) pa_nil)) (blkOk_by (N := ["_law_part", "_law_word", "_law_n", "_law_start", "_law_end", "_law_low", "_law_high", "_law_found", "_law_t", "_law_h", "_law_j"]) (sc := defScope s_walk_queries) (by decide +kernel))
          (fun _ _ _ _ _ => (pg_name (i := 10) sc_walk_queries.nd rfl (Or.inl rfl))) (fun _ _ _ _ _ => pts_nil) (fun _ _ _ _ _ => (pe_tup (pa_cons pe_str (pa_cons (pv 10) pa_nil))))) pa_nil)))
        (pss_one (ps_expr (pe_bm PySem.F.plainAttrs_list PySem.F.slot_list_extend PySem.F.type_list_extend mt_extend (pv 7) (pa_cons (pe_lc (own := [("_law_j", 10)]) (g := (gName 10)) (tt := tYes) rfl sc_walk_queries.nd (pi_range1 rfl T.range (pa_cons (pe_op op_fdiv (pe_op op_add (pe_op op_sub (pv 2) (pv 4)) (pv 3)) pe_int) pa_nil)) (blkOk_by (N := ["_law_part", "_law_word", "_law_n", "_law_start", "_law_end", "_law_low", "_law_high", "_law_found", "_law_t", "_law_h", "_law_j"]) (sc := defScope s_walk_queries) (by decide +kernel))
          (fun _ _ _ _ _ => (pg_name (i := 10) sc_walk_queries.nd rfl (Or.inl rfl))) (fun _ _ _ _ _ => pts_nil) (fun _ _ _ _ _ => (pe_tup (pa_cons pe_str (pa_cons (pv 10) pa_nil))))) pa_nil)))))
        pss_nil)
      (pss_one (ps_ret (pv 7))))))), ?_⟩
    obtain ⟨a0, ys, rfl, ha, hys⟩ := dat_tup (show Dat H v (.tuple [.str "walk", .int (n : Nat), .int s0, .int e0, .int lo, .int hi]) from hv)
    match ys, hys, ha with
    | _, .cons (.str _ _) (.cons (.int _) (.cons (.int _) (.cons (.int _) (.cons (.int _) (.cons (.int _) .nil))))), ha =>
      refine ⟨_, rfl, a0, _, rfl, sqT_rd ha, rfl, _, _, rfl, _, _, rfl, _, _, rfl, _, _, rfl, _, _, rfl, _, _, rfl, rfl, ?_⟩
      have E0 : EnvOk [(2, .int (n : Nat)), (3, .int s0), (4, .int e0), (5, .int lo), (6, .int hi)] [some (V.ref a0), some (.str "walk"), some (.int (n : Nat)), some (.int s0), some (.int e0), some (.int lo), some (.int hi), none, none, none, none] H := fun p hp => by
        simp only [List.mem_cons, List.not_mem_nil, or_false] at hp
        rcases hp with rfl | rfl | rfl | rfl | rfl
        · exact ⟨_, rfl, .int _⟩
        · exact ⟨_, rfl, .int _⟩
        · exact ⟨_, rfl, .int _⟩
        · exact ⟨_, rfl, .int _⟩
        · exact ⟨_, rfl, .int _⟩
      have mv : ∀ {i : Nat} {d : PyData} {p1 p2 : Nat × PyData}, (i, d) ∈ [(2, .int (n : Nat)), (3, .int s0), (4, .int e0), (5, .int lo), (6, .int hi)] → Mk (p1 :: p2 :: [(2, .int (n : Nat)), (3, .int s0), (4, .int e0), (5, .int lo), (6, .int hi)]) (tVar i) d := fun {i d p1 p2} h => mk_var (List.mem_cons_of_mem _ (List.mem_cons_of_mem _ h))
      have hw : wkC lo hi ≤ 203 := by unfold wkC; omega
      refine sq_setF (N := 11) (Hi := H) (G := [(2, .int (n : Nat)), (3, .int s0), (4, .int e0), (5, .int lo), (6, .int hi)]) (ds := qW "height" (n + 1)) (mkf_range1 (n := n + 1) (f := fun p => .tuple [.str "height", .int (p : Nat)]) (mk_addN (y := 1) (mk_var List.mem_cons_self) mk_int rfl) (by omega) rfl (by decide) (fun j _ => mks_tup2 (mk_str (by decide)) (mk_var List.mem_cons_self)) (fun _ _ => rfl))
        rfl E0 (Same.refl H) (fun p hp => hp) rfl (by decide) fun p4 H4 T4 => ?_
      refine sq_of (for_upto (N := 11) (n := n + 1) (fF := fun t => qVis "first_visit" t lo (wkC lo hi) ++ qVis "last_visit" t lo (wkC lo hi)) T4 rfl (mk_addN (y := 1) (mk_var List.mem_cons_self) mk_int rfl) (by omega) rfl (by decide) (by decide) ?_ ?_)
      · intro j acc σ' H' D' hj hN' hacc g k
        have la : acc.length ≤ 61 + 61 * 406 := by
          rw [hacc, List.length_append, qW_len, vis_len]
          have : j * (2 * wkC lo hi) ≤ 61 * 406 := Nat.mul_le_mul (by omega) (by omega)
          omega
        have mr : ∀ (w : Str), w.length ≤ 1000 → MkF 11 ((8, .int (j : Nat)) :: [(2, .int (n : Nat)), (3, .int s0), (4, .int e0), (5, .int lo), (6, .int hi)]) (tLc (iRng2 (tCons (tOp (rI0 fun i j => .int (i - j)) (tVar 5) (tC (.int 1))) (tCons (tOp (rI0 fun i j => .int (i + j)) (tVar 6) (tC (.int 2))) tNil))) (gName 9) tYes (tTup (tCons (tC (.str w)) (tCons (tVar 8) (tCons (tVar 9) tNil)))) [9]) (qVis w j lo (wkC lo hi)) := fun w hw' =>
          mkf_range2 (i := 9) (lo := lo - 1) (hi := hi + 2) (n := wkC lo hi) (f := fun h => .tuple [.str w, .int (j : Nat), .int (lo - 1 + (h : Nat))]) (mk_op0 (mk_var (by simp)) mk_int rfl) (mk_op0 (mk_var (by simp)) mk_int rfl) rfl (by omega) (by omega) (by omega) rfl (by decide)
            (fun j' _ => mks_tup3 (mk_str hw') (mk_var (by simp)) (mk_var List.mem_cons_self)) (fun _ _ => rfl)
        refine sq_ext g hN' (mr "first_visit" (by decide)) (qVis_noL _ _ _ _) (by rw [qVis_len]; omega) fun H2 g2 => ?_
        refine one_ext g2 hN' (mr "last_visit" (by decide)) (qVis_noL _ _ _ _) (by rw [List.length_append, qVis_len, qVis_len]; omega) fun H3 g3 => k H3 ?_
        rw [← List.append_assoc]
        exact g3
      · intro σ' H' hN' g
        have l0 : (walkQ0 n lo hi).length ≤ 61 + 61 * 406 := by
          unfold walkQ0
          rw [List.length_append, qW_len, vis_len]
          have : (n + 1) * (2 * wkC lo hi) ≤ 61 * 406 := Nat.mul_le_mul (by omega) (by omega)
          omega
        have g : ST H [(2, .int (n : Nat)), (3, .int s0), (4, .int e0), (5, .int lo), (6, .int hi)] 7 (walkQ0 n lo hi) σ' H' := g
        have mi : ∀ {i : Nat} {d : PyData}, (i, d) ∈ [(2, .int (n : Nat)), (3, .int s0), (4, .int e0), (5, .int lo), (6, .int hi)] → Mk [(2, .int (n : Nat)), (3, .int s0), (4, .int e0), (5, .int lo), (6, .int hi)] (tVar i) d := fun h => mk_var h
        have up := mk_op0 (mk_op0 (mi (i := 2) (by simp)) (mi (i := 4) (by simp)) (g := fun i j => .int (i + j)) rfl) (mi (i := 3) (by simp)) (g := fun i j => .int (i - j)) (k := (n : Int) + e0 - s0) rfl
        have dn := mk_op0 (mk_op0 (mi (i := 2) (by simp)) (mi (i := 4) (by simp)) (g := fun i j => .int (i - j)) rfl) (mi (i := 3) (by simp)) (g := fun i j => .int (i + j)) (k := (n : Int) - e0 + s0) rfl
        by_cases h2 : ((n : Int) + e0 - s0) % 2 = 0
        · refine sq_if1 (mkt (mk_eq (mk_op up mk_int (by show (0 : Int) < 2; decide) rfl) mk_int (decide_eq_true h2))) g.env fun H5 S5 => ?_
          have g5 := g.next S5
          have l1 : (qW "up" (((n : Int) + e0 - s0) / 2).toNat).length ≤ 200 := by rw [qW_len]; omega
          have l2 : (qW "down" (((n : Int) - e0 + s0) / 2).toNat).length ≤ 200 := by rw [qW_len]; omega
          refine sq_ext g5 hN' (mkf_rangeI (m := ((n : Int) + e0 - s0) / 2) (f := fun p => .tuple [.str "up", .int (p : Nat)]) (mk_op up mk_int ⟨by decide, by decide⟩ rfl) (by omega) rfl (by decide) (fun j _ => mks_tup2 (mk_str (by decide)) (mk_var List.mem_cons_self)) (fun _ _ => rfl)) (qW_noL "up" _) (by
            have := l1
            unfold qW at this
            omega) fun H6 g6 => ?_
          refine one_ext g6 hN' (mkf_rangeI (m := ((n : Int) - e0 + s0) / 2) (f := fun p => .tuple [.str "down", .int (p : Nat)]) (mk_op dn mk_int ⟨by decide, by decide⟩ rfl) (by omega) rfl (by decide) (fun j _ => mks_tup2 (mk_str (by decide)) (mk_var List.mem_cons_self)) (fun _ _ => rfl)) (qW_noL "down" _) (by
            have a1 := l1
            have a2 := l2
            unfold qW at a1 a2
            rw [List.length_append]
            omega) fun H7 g7 => ?_
          refine rt_st g7 fun L zs n0 S e d => q L zs _ H7 n0 S e d ?_
          unfold walkQ
          rw [if_pos h2, ← List.append_assoc]
          rfl
        · refine sq_if0 (mkt (mk_eq (mk_op up mk_int (by show (0 : Int) < 2; decide) rfl) mk_int (decide_eq_false h2))) g.env fun H5 S5 => ?_
          have g5 := g.next S5
          refine rt_st g5 fun L zs n0 S e d => q L zs _ H5 n0 S e d ?_
          unfold walkQ
          rw [if_neg h2, List.append_nil]
end
end K9
set_option maxRecDepth 100000
set_option maxHeartbeats 8000000
namespace K9
open PySem PySem.Spec PyProof.Rows L2
/-! ### the queries of strings -/
section
variable {N : Nat} {G : List (Nat × PyData)} {t u te : TE}
theorem triple_set {σ : L2.St} {i k l : Nat} {x y z : Option V} (h1 : i ≠ k) (h2 : i ≠ l) (h3 : k ≠ l) : wipe ((((wipe σ [i, k, l]).set i x).set k y).set l z) [i, k, l] = wipe σ [i, k, l] := by
  show ((((((((σ.set l none).set k none).set i none).set i x).set k y).set l z).set l none).set k none).set i none = ((σ.set l none).set k none).set i none
  refine List.ext_getElem? fun n => ?_
  simp only [List.getElem?_set, List.length_set]
  by_cases e1 : i = n
  · simp [e1]
  · by_cases e2 : k = n
    · simp [e1, e2]
    · by_cases e3 : l = n
      · simp [e1, e2, e3]
      · simp [e1, e2, e3]
/-- over a tuple of triples -/
theorem mkf_triples {K : PySem.W.Frag} {i k l : Nat} {ps : List (PyData × PyData × PyData)} {f : PyData × PyData × PyData → PyData} (h : Mk G t (.tuple (ps.map fun p => .tuple [p.1, p.2.1, p.2.2]))) (hn : ps.length ≤ 5000) (hG : G.all (fun p => p.1 != i) = true) (hG2 : G.all (fun p => p.1 != k) = true) (hG3 : G.all (fun p => p.1 != l) = true)
    (hik : i ≠ k) (hil : i ≠ l) (hkl : k ≠ l) (hi : i < N) (hk : k < N) (hl : l < N)
    (he : ∀ p ∈ ps, Mk ((l, p.2.2) :: (k, p.2.1) :: (i, p.1) :: G) te (f p)) (hf : ∀ p ∈ ps, noL (f p) = true) :
    MkF N G (tLc (iTup K t) (gTup K 3 (gCons (gName i) (gCons (gName k) (gCons (gName l) gNil)))) tYes te [i, k, l]) (ps.map f) := fun σ H Q hN E q => h σ H _ E fun v H1 S1 d1 => by
  have hG := ne_of hG
  have hG2 := ne_of hG2
  have hG3 := ne_of hG3
  obtain ⟨a, xs, rfl, ha, hx⟩ := dat_tup d1
  have hxl := hx.len
  rw [List.length_map] at hxl
  have E1 := (((E.same S1).none hG3).none hG2).none hG
  refine ⟨a, rfl, ⟨_, sqT_rd ha⟩, fun D nD => lc_tup (K := K) (xs := xs) (fun j Hz => Gr H1 D ((ps.take j).map f) Hz) (by rw [List.take_zero]; exact Gr.start nD) (fun j Hz _ g => sqT_rd (upR ha g.2.1)) ?_ ?_⟩
  · rintro j y Hz hy g
    obtain ⟨d, hd, dy⟩ := hx.get hy
    rw [List.getElem?_map] at hd
    obtain ⟨p, hp, rfl⟩ := Option.map_eq_some_iff.mp hd
    have hm := List.mem_of_getElem? hp
    obtain ⟨b, ys, rfl, hb, hys⟩ := dat_tup (dy.same g.2.1)
    obtain ⟨y0, y1, y2, rfl, c0, c1, c2⟩ := dat3 hys
    refine ⟨b, _, rfl, sqT_rd hb, rfl, y0, _, rfl, y1, _, rfl, y2, _, rfl, rfl, triple_set hik hil hkl, ?_⟩
    dsimp only [tYes]
    have hk1 : ∀ p0 ∈ (i, p.1) :: G, p0.1 ≠ k := fun p0 h0 => by
      rcases List.mem_cons.mp h0 with rfl | h0
      · exact hik
      · exact hG2 p0 h0
    have hk2 : ∀ p0 ∈ (k, p.2.1) :: (i, p.1) :: G, p0.1 ≠ l := fun p0 h0 => by
      rcases List.mem_cons.mp h0 with rfl | h0
      · exact hkl
      · rcases List.mem_cons.mp h0 with rfl | h0
        · exact hil
        · exact hG3 p0 h0
    refine if_t rfl (he p hm _ Hz _ ((((E1.same g.2.1).put hG (by simp only [List.length_set]; rw [hN]; exact hi) c0).put hk1 (by simp only [List.length_set]; rw [hN]; exact hk) c1).put hk2 (by simp only [List.length_set]; rw [hN]; exact hl) c2) fun v4 H4 S4 d4 => ?_)
    obtain ⟨zs, hL, hzl, _, g'⟩ := g.add S4 (.cons d4 .nil) (by show noLs [f p] = true; simp [noLs, hf p hm])
    rw [List.length_map, List.length_take] at hzl
    refine ⟨zs, hL, by rw [sizeLine_eq]; omega, ?_⟩
    rw [take_map_succ hp]
    exact g'
  · rintro Hz g
    rw [hxl, List.take_length] at g
    obtain ⟨zs, H0, n0, S0, S2, e, d⟩ := gr_out g
    exact q D zs H0 Hz n0 (S1.trans S0) S2 e d
theorem mk_sliceTo {K : PySem.W.Frag} {ds : List PyData} {b : Nat} (h : Mk G t (.list ds)) (h2 : Mk G u (.int (b : Nat))) : Mk G (tSl (rSlL K) t tNoPart (tPart u)) (.list (ds.take b)) := fun σ H Q E q => h σ H _ E fun v H1 S1 d1 => by
  dsimp only [tNoPart]
  refine h2 σ H1 _ (E.same S1) fun v2 H2 S2 d2 => ?_
  obtain rfl := dat_isInt d2
  obtain ⟨a, xs, rfl, ha, hx⟩ := dat_lst (d1.same S2)
  refine ⟨_, rfl, a, xs, rfl, SqL.of ha, fun p np => q _ _ ((S1.trans S2).trans (same_new np)) ?_⟩
  rw [cutV_to]
  have dz : DatAll H2 (xs.take b) (ds.take b) := datAll_at (by rw [List.length_take, List.length_take, hx.len]) fun j d hd => by
    rw [List.getElem?_take] at hd
    split at hd
    · rename_i hj
      obtain ⟨y, hy, dy⟩ := hx.at hd
      exact ⟨y, by rw [List.getElem?_take, if_pos hj]; exact hy, dy⟩
    · cases hd
  exact .lst upd_same (dz.same (same_new np))
end
theorem sq_call2 {r1 r2 : List V → Hp → VK → Prop} {te : TE} {g : TG} {R : TS} {D : Ends} {σ : L2.St} {H : Hp} (h : te σ H (fun v H1 => r1 [v] H1 (fun v1 H2 => r2 [v1] H2 (fun v2 H3 => g v2 σ H3 (R D))))) : tSeq (tAsg (tCB r2 (tCons (tCB r1 (tCons te tNil)) tNil)) g) R D σ H := h
/-- the heap with a new set -/
def setAt {P : Program} {w : World} {κ : Type} [DecidableEq κ] (knd : PySem.KeyKind P w κ) (dec : Value → κ) (H : Hp) (p : Addr) (ks : List κ) (c : Nat) : Hp := upd H p (SetHO knd dec p (fun j => decide (j ∈ ks)) c)
theorem setAt_same {P : Program} {w : World} {κ : Type} [DecidableEq κ] {knd : PySem.KeyKind P w κ} {dec : Value → κ} {H : Hp} {p : Addr} {ks : List κ} {c : Nat} (np : H p = none) : Same H (setAt knd dec H p ks c) := same_new np
def qIn (w : Str) (n : Nat) (d : PyData) : List PyData := (List.range n).map fun p => .tuple [.str w, .int (p : Nat), d]
def itL (zs : List Str) : List PyData := [.tuple [], .tuple ((zs.map PyData.str).take 1), .tuple (zs.map PyData.str)]
def itS : List PyData := [.tuple [], .tuple [.int (0 : Nat)], .tuple [.int (0 : Nat), .int (1 : Nat), .int (7 : Nat)]]
def strQ (zs : List Str) (n : Nat) : List PyData := (qW "letter" n ++ qW "state" (n + 1)) ++ (itL zs).flatMap (qIn "letter_in" n) ++ itS.flatMap (qIn "state_in" (n + 1))
theorem qIn_len (w : Str) (n : Nat) (d : PyData) : (qIn w n d).length = n := by unfold qIn; rw [List.length_map, List.length_range]
theorem qIn_noL (w : Str) (n : Nat) {d : PyData} (h : noL d = true) : noLs (qIn w n d) = true := noLs_iff.mpr fun e he => by
  unfold qIn at he
  obtain ⟨k, _, rfl⟩ := List.mem_map.mp he
  simp [noL, noLs, h]
theorem qIns_len (w : Str) (n : Nat) : ∀ l : List PyData, (l.flatMap (qIn w n)).length = l.length * n
  | [] => by simp
  | d :: l => by
    rw [List.flatMap_cons, List.length_append, qIn_len, qIns_len w n l, List.length_cons, Nat.succ_mul]
    omega
theorem strs_noL (zs : List Str) : noLs (zs.map PyData.str) = true := noLs_iff.mpr fun e he => by
  obtain ⟨k, _, rfl⟩ := List.mem_map.mp he
  rfl
def okStrs (ms : List (Nat × Str × Nat)) (n : Nat) (ds : List PyData) : Prop := ∃ zs : List Str, zs.length ≤ ms.length ∧ zs.Nodup ∧ sortedS zs = true ∧ (∀ y, y ∈ zs ↔ y ∈ ms.map (·.2.1)) ∧ ds = strQ zs n
def spStrQs : Sp := fun vs H Q _ => ∃ (v : V) (ms : List (Nat × Str × Nat)) (ac : List Nat) (n : Nat), vs = [v] ∧ Dat H v (ldt (.str ms ac n)) ∧ n ≤ 60 ∧ ms.length ≤ 48 ∧ (∀ m ∈ ms, nameS m.2.1 = true) ∧ Fresh H Q (okStrs ms n)
abbrev s_string_queries : Stmt := top 40
section
variable {P : Program} {w : World} {K : PySem.W.Frag} {mg : Str → Option Value} {base : Heap}
theorem sc_string_queries : FnScope ["_law_part", "_law_word", "_law_automaton_here", "_law_n", "_law_letters", "_law_found", "_law_items", "_law_here", "_law_letter", "_law_to", "_law_p"] ["_law_part"] (defScope s_string_queries) := ⟨rfl, rfl, rfl, by decide +kernel, rfl, by decide +kernel, by decide +kernel⟩
theorem okl_strqs {f : Addr} {fd : FuncData} (F : Fun K "_law_string_queries" "_law_string_queries" s_string_queries f fd) (T : Nm mg) (Ts : mg "sorted" = none) (Te : mg "set" = none) : FnOk P w K mg base CX0 1 f fd ["_law_part"] spStrQs := by
  refine F.ok sc_string_queries (fun vs H Q E h => ?_) (fun cdv A outer s H vs Q E hr h => ?_)
  · obtain ⟨v, ms, ac, n, rfl, _⟩ := h
    rfl
  · obtain ⟨v, ms, ac, n, rfl, hv, hn, hms, hnm, q⟩ := h
    refine ⟨_, (pss_cons (ps_asg (pv 0) (pg_tup rfl (pgs_cons (pg_name (i := 1) sc_string_queries.nd rfl (Or.inl rfl)) (pgs_cons (pg_name (i := 2) sc_string_queries.nd rfl (Or.inl rfl)) (pgs_cons (pg_name (i := 3) sc_string_queries.nd rfl (Or.inl rfl)) pgs_nil)))))
      (pss_cons (ps_set (i := 4) sc_string_queries.nd rfl (Or.inl rfl) (pe_callB (cr_sortX rfl) (by rfl) Ts (by decide +kernel) (pa_cons (pe_callTy (cr_setOf (knd := PySem.strKind P w) (dec := strV) (mk := V.str) rfl key_str) (by rfl) Te (by decide +kernel) (pa_cons (pe_lc (own := [("_law_here", 7), ("_law_letter", 8), ("_law_to", 9)]) (g := (gTup K 3 (gCons (gName 7) (gCons (gName 8) (gCons (gName 9) gNil))))) (tt := tYes) rfl sc_string_queries.nd (pi_tup (pe_ix ix_tup (pv 2) pe_int (fun _ _ => rfl))) (blkOk_by (N := ["_law_part", "_law_word", "_law_automaton_here", "_law_n", "_law_letters", "_law_found", "_law_items", "_law_here", "_law_letter", "_law_to", "_law_p"]) (sc := defScope s_string_queries) (by decide +kernel))
          (fun _ _ _ _ _ => (pg_tup rfl (pgs_cons (pg_name (i := 7) sc_string_queries.nd rfl (Or.inl rfl)) (pgs_cons (pg_name (i := 8) sc_string_queries.nd rfl (Or.inl rfl)) (pgs_cons (pg_name (i := 9) sc_string_queries.nd rfl (Or.inl rfl)) pgs_nil))))) (fun _ _ _ _ _ => pts_nil) (fun _ _ _ _ _ => (pv 8))) pa_nil)) pa_nil)))
      (pss_cons (ps_set (i := 5) sc_string_queries.nd rfl (Or.inl rfl) (pe_op op_cat (pe_lc (own := [("_law_p", 10)]) (g := (gName 10)) (tt := tYes) rfl sc_string_queries.nd (pi_range1 rfl T.range (pa_cons (pv 3) pa_nil)) (blkOk_by (N := ["_law_part", "_law_word", "_law_automaton_here", "_law_n", "_law_letters", "_law_found", "_law_items", "_law_here", "_law_letter", "_law_to", "_law_p"]) (sc := defScope s_string_queries) (by decide +kernel))
          (fun _ _ _ _ _ => (pg_name (i := 10) sc_string_queries.nd rfl (Or.inl rfl))) (fun _ _ _ _ _ => pts_nil) (fun _ _ _ _ _ => (pe_tup (pa_cons pe_str (pa_cons (pv 10) pa_nil))))) (pe_lc (own := [("_law_p", 10)]) (g := (gName 10)) (tt := tYes) rfl sc_string_queries.nd (pi_range1 rfl T.range (pa_cons (pe_op op_add (pv 3) pe_int) pa_nil)) (blkOk_by (N := ["_law_part", "_law_word", "_law_automaton_here", "_law_n", "_law_letters", "_law_found", "_law_items", "_law_here", "_law_letter", "_law_to", "_law_p"]) (sc := defScope s_string_queries) (by decide +kernel))
          (fun _ _ _ _ _ => (pg_name (i := 10) sc_string_queries.nd rfl (Or.inl rfl))) (fun _ _ _ _ _ => pts_nil) (fun _ _ _ _ _ => (pe_tup (pa_cons pe_str (pa_cons (pv 10) pa_nil)))))))
      (pss_cons (ps_for PassesOwn.never rfl (pi_tup (pe_tup (pa_cons (pe_tup pa_nil) (pa_cons (pe_callTy call_tuple_of (by rfl) T.tuple (by decide +kernel) (pa_cons (pe_slice sl_list (pv 4) po_none (po_some pe_int)) pa_nil)) (pa_cons (pe_callTy call_tuple_of (by rfl) T.tuple (by decide +kernel) (pa_cons (pv 4) pa_nil)) pa_nil))))) (pg_name (i := 6) sc_string_queries.nd rfl (Or.inr rfl))
        (pss_one (ps_expr (pe_bm PySem.F.plainAttrs_list PySem.F.slot_list_extend PySem.F.type_list_extend mt_extend (pv 5) (pa_cons (pe_lc (own := [("_law_p", 10)]) (g := (gName 10)) (tt := tYes) rfl sc_string_queries.nd (pi_range1 rfl T.range (pa_cons (pv 3) pa_nil)) (blkOk_by (N := ["_law_part", "_law_word", "_law_automaton_here", "_law_n", "_law_letters", "_law_found", "_law_items", "_law_here", "_law_letter", "_law_to", "_law_p"]) (sc := defScope s_string_queries) (by decide +kernel))
          (fun _ _ _ _ _ => (pg_name (i := 10) sc_string_queries.nd rfl (Or.inl rfl))) (fun _ _ _ _ _ => pts_nil) (fun _ _ _ _ _ => (pe_tup (pa_cons pe_str (pa_cons (pv 10) (pa_cons (pv 6) pa_nil)))))) pa_nil)))))
      (pss_cons (ps_for PassesOwn.never rfl (pi_tup (pe_tup (pa_cons (pe_tup pa_nil) (pa_cons (pe_tup (pa_cons pe_int pa_nil)) (pa_cons (pe_tup (pa_cons pe_int (pa_cons pe_int (pa_cons pe_int pa_nil)))) pa_nil))))) (pg_name (i := 6) sc_string_queries.nd rfl (Or.inr rfl))
        (pss_one (ps_expr (pe_bm PySem.F.plainAttrs_list PySem.F.slot_list_extend PySem.F.type_list_extend mt_extend (pv 5) (pa_cons (pe_lc (own := [("_law_p", 10)]) (g := (gName 10)) (tt := tYes) rfl sc_string_queries.nd (pi_range1 rfl T.range (pa_cons (pe_op op_add (pv 3) pe_int) pa_nil)) (blkOk_by (N := ["_law_part", "_law_word", "_law_automaton_here", "_law_n", "_law_letters", "_law_found", "_law_items", "_law_here", "_law_letter", "_law_to", "_law_p"]) (sc := defScope s_string_queries) (by decide +kernel))
          (fun _ _ _ _ _ => (pg_name (i := 10) sc_string_queries.nd rfl (Or.inl rfl))) (fun _ _ _ _ _ => pts_nil) (fun _ _ _ _ _ => (pe_tup (pa_cons pe_str (pa_cons (pv 10) (pa_cons (pv 6) pa_nil)))))) pa_nil)))))
      (pss_one (ps_ret (pv 5)))))))), ?_⟩
    obtain ⟨a0, ys, rfl, ha, hys⟩ := dat_tup (show Dat H v (.tuple [.str "string", .tuple [.tuple (ms.map mvA), .tuple (ac.map fun i => .int (i : Nat))], .int (n : Nat)]) from hv)
    obtain ⟨y0, y1, y2, rfl, c0, c1, c2⟩ := dat3 hys
    obtain rfl := dat_isInt c2
    refine ⟨_, rfl, a0, _, rfl, sqT_rd ha, rfl, _, _, rfl, _, _, rfl, _, _, rfl, rfl, ?_⟩
    have E0 : EnvOk [(2, .tuple [.tuple (ms.map mvA), .tuple (ac.map fun i => .int (i : Nat))]), (3, .int (n : Nat))] [some (V.ref a0), some y0, some y1, some (.int (n : Nat)), none, none, none, none, none, none, none] H := fun p hp => by
      simp only [List.mem_cons, List.not_mem_nil, or_false] at hp
      rcases hp with rfl | rfl
      · exact ⟨_, rfl, c1⟩
      · exact ⟨_, rfl, .int _⟩
    have mm : (ms.map fun m => (PyData.int (m.1 : Nat), PyData.str m.2.1, PyData.int (m.2.2 : Nat))).map (fun p => PyData.tuple [p.1, p.2.1, p.2.2]) = ms.map mvA := by
      rw [List.map_map]
      rfl
    have ml := mkf_triples (N := 11) (K := K) (G := [(2, .tuple [.tuple (ms.map mvA), .tuple (ac.map fun i => .int (i : Nat))]), (3, .int (n : Nat))]) (i := 7) (k := 8) (l := 9) (te := tVar 8) (t := tOp (rIxT K) (tVar 2) (tC (.int 0))) (ps := ms.map fun m => (PyData.int (m.1 : Nat), PyData.str m.2.1, PyData.int (m.2.2 : Nat))) (f := fun p => p.2.1)
      (by rw [mm]; exact mk_ixT (j := 0) (mk_var List.mem_cons_self) rfl rfl) (by rw [List.length_map]; omega) rfl rfl rfl (by decide) (by decide) (by decide) (by decide) (by decide) (by decide) (fun p _ => mk_var (List.mem_cons_of_mem _ List.mem_cons_self)) (fun p hp => by
        obtain ⟨m, _, rfl⟩ := List.mem_map.mp hp
        rfl)
    have me : (ms.map fun m => (PyData.int (m.1 : Nat), PyData.str m.2.1, PyData.int (m.2.2 : Nat))).map (fun p => p.2.1) = (ms.map (·.2.1)).map PyData.str := by
      rw [List.map_map, List.map_map]
      rfl
    rw [me] at ml
    refine sq_call2 (ml _ H _ rfl E0 fun L zs H0 H1 n0 S0 S1 hL hd => ?_)
    have ez := dat_strs hd
    subst ez
    refine ⟨L, ms.map (·.2.1), rfl, .inl (SqL.of hL), by rw [List.length_map]; omega, fun p c np hc => ⟨p, _, c, rfl, upd_same, by rw [List.length_map] at hc; omega, fun zs p4 hnd hso hmem hzl => ?_⟩⟩
    rw [List.length_map] at hc
    have hmem : ∀ y, y ∈ zs ↔ y ∈ ms.map (·.2.1) := fun y => (hmem y).trans (by rw [decide_eq_true_iff])
    have hzn : ∀ z ∈ zs, nameS z = true := fun z hz => by
      obtain ⟨m, hm, rfl⟩ := List.mem_map.mp ((hmem z).mp hz)
      exact hnm m hm
    show setAt (PySem.strKind P w) strV H1 p (ms.map (·.2.1)) c p4 = none → gName 4 (.ref p4) _ (upd (setAt (PySem.strKind P w) strV H1 p (ms.map (·.2.1)) c) p4 (.lst (zs.map V.str))) _
    have S2 : Same H1 (setAt (PySem.strKind P w) strV H1 p (ms.map (·.2.1)) c) := setAt_same np
    generalize setAt (PySem.strKind P w) strV H1 p (ms.map (·.2.1)) c = H2 at S2 ⊢
    intro n4
    have S4 := ((S0.trans S1).trans S2).trans (same_new (o := HO.lst (zs.map V.str)) n4)
    have d4 : Dat (upd H2 p4 (.lst (zs.map V.str))) (.ref p4) (.list (zs.map PyData.str)) := .lst upd_same (strs_all _ zs fun z hz => name_short (hzn z hz))
    generalize upd H2 p4 (.lst (zs.map V.str)) = H4 at S4 d4 ⊢
    have E4 : EnvOk [(4, .list (zs.map PyData.str)), (3, .int (n : Nat))] [some (V.ref a0), some y0, some y1, some (.int (n : Nat)), some (.ref p4), none, none, none, none, none, none] H4 := fun q hq => by
      simp only [List.mem_cons, List.not_mem_nil, or_false] at hq
      rcases hq with rfl | rfl
      · exact ⟨_, rfl, d4⟩
      · exact ⟨_, rfl, .int _⟩
    refine sq_setF (N := 11) (Hi := H) (G := [(4, .list (zs.map PyData.str)), (3, .int (n : Nat))]) (ds := qW "letter" n ++ qW "state" (n + 1)) (mkf_cat (MkF.n (mkf_range1 (G := [(4, .list (zs.map PyData.str)), (3, .int (n : Nat))]) (n := n) (f := fun p => .tuple [.str "letter", .int (p : Nat)]) (mk_var (by simp)) (by omega) rfl (by decide) (fun j _ => mks_tup2 (mk_str (by decide)) (mk_var List.mem_cons_self)) (fun _ _ => rfl)))
      (MkF.n (mkf_range1 (n := n + 1) (f := fun p => .tuple [.str "state", .int (p : Nat)]) (mk_addN (x := n) (y := 1) (mk_var (by simp [itL])) mk_int rfl) (by omega) rfl (by decide) (fun j _ => mks_tup2 (mk_str (by decide)) (mk_var List.mem_cons_self)) (fun _ _ => rfl))) (by first | (rw [qW_len, qW_len]; omega) | (simp only [List.length_map, List.length_range]; omega))) rfl E4 S4 (fun p hp => hp) rfl (by decide) fun p5 H5 T5 => ?_
    refine sq_of (for_items (N := 11) (K := K) (ps := itL zs) (fF := qIn "letter_in" n) T5 rfl (Mk.n (mks_tup3 (mk_tup mks_nil (by show 0 ≤ 1000; decide)) (mk_tupL (mk_sliceTo (b := 1) (mk_var List.mem_cons_self) mk_int)) (mk_tupL (mk_var List.mem_cons_self)))) ?_ rfl (by decide) (by decide) ?_ ?_)
    · show noLs [_, _, _] = true
      simp only [noLs, noL, Bool.and_true, Bool.true_and]
      rw [strs_noL, List.map_take.symm, strs_noL]
      rfl
    · intro j p Hb acc σ' H' D' hp hN' hacc g k
      have hm := List.mem_of_getElem? hp
      have hpn : noL p = true := by
        unfold itL at hm
        simp only [List.mem_cons, List.not_mem_nil, or_false] at hm
        rcases hm with rfl | rfl | rfl
        · rfl
        · show noLs _ = true
          rw [List.map_take.symm, strs_noL]
        · exact strs_noL zs
      have la : (((itL zs).take j).flatMap (qIn "letter_in" n)).length ≤ 3 * n := by
        rw [qIns_len]
        exact Nat.mul_le_mul_right _ (by rw [List.length_take]; exact Nat.min_le_right _ _)
      refine one_ext g hN' (mkf_range1 (n := n) (f := fun j => .tuple [.str "letter_in", .int (j : Nat), p]) (mk_var (by simp)) (by omega) rfl (by decide) (fun j _ => mks_tup3 (mk_str (by decide)) (mk_var List.mem_cons_self) (mk_var (by simp))) (fun _ _ => by simp [noL, noLs, hpn])) (qIn_noL _ _ hpn) ?_ k
      rw [hacc, List.length_append, List.length_append, qW_len, qW_len, List.length_map, List.length_range]
      omega
    · intro σ6 H6 hN6 g6
      refine sq_of (for_items (N := 11) (K := K) (ps := itS) (fF := qIn "state_in" (n + 1)) g6 hN6 (Mk.n (mks_tup3 (mk_tup mks_nil (by show 0 ≤ 1000; decide)) (mk_tup (mks_cons mk_int mks_nil) (by show 1 ≤ 1000; decide)) (mks_tup3 mk_int mk_int mk_int))) rfl rfl (by decide) (by decide) ?_ ?_)
      · intro j p Hb acc σ' H' D' hp hN' hacc g k
        have hm := List.mem_of_getElem? hp
        have hpn : noL p = true := by
          unfold itS at hm
          simp only [List.mem_cons, List.not_mem_nil, or_false] at hm
          rcases hm with rfl | rfl | rfl <;> rfl
        have la : ((itS.take j).flatMap (qIn "state_in" (n + 1))).length ≤ 3 * (n + 1) := by
          rw [qIns_len]
          exact Nat.mul_le_mul_right _ (by rw [List.length_take]; exact Nat.min_le_right _ _)
        refine one_ext g hN' (mkf_range1 (n := n + 1) (f := fun j => .tuple [.str "state_in", .int (j : Nat), p]) (mk_addN (x := n) (y := 1) (mk_var (by simp [itL])) mk_int rfl) (by omega) rfl (by decide) (fun j _ => mks_tup3 (mk_str (by decide)) (mk_var List.mem_cons_self) (mk_var (by simp))) (fun _ _ => by simp [noL, noLs, hpn])) (qIn_noL _ _ hpn) ?_ k
        have e1 : (itL zs).length = 3 := rfl
        rw [hacc, List.length_append, List.length_append, List.length_append, qW_len, qW_len, qIns_len, e1, List.length_map, List.length_range]
        omega
      · intro σ7 H7 hN7 g7
        exact rt_st g7 fun L zs' n0 S e d => q L zs' _ H7 n0 S e d ⟨zs, by omega, hnd, hso, hmem, rfl⟩
end
end K9
set_option maxRecDepth 100000
set_option maxHeartbeats 8000000
namespace K9
open PySem PySem.Spec PyProof.Rows L2
/-! ### the queries of a part -/
section
variable {G : List (Nat × PyData)} {t u : TE}
theorem mk_inS {K : PySem.W.Frag} {ws : List Str} {z : Str} {c : Bool} {w : TA} (h : Mk G t (.str z)) (hs : Mks G w (ws.map PyData.str)) (hl : ws.length ≤ 100) (e : inV (.str z) (ws.map V.str) = c) : Mk G (tOp (rIn K false) t (tTup w)) (.bool c) := fun σ H Q E q => h σ H _ E fun v H1 S1 d1 => hs σ H1 _ (E.same S1) fun vs H2 S2 d2 => by
  obtain rfl := dat_strV d1
  obtain rfl := dat_strs d2
  refine ⟨by rw [List.length_map, sizeLine_eq]; omega, fun p np => ⟨p, _, rfl, .inr (SqT.of upd_same), rfl, ?_, ?_⟩⟩
  · rw [List.all_eq_true]
    intro x hx
    obtain ⟨y, _, rfl⟩ := List.mem_map.mp hx
    rfl
  · show Q (.bl (inV (.str z) (ws.map V.str))) _
    rw [e]
    exact q _ _ ((S1.trans S2).trans (same_new np)) (.bl c)
theorem mk_intB {b : Bool} (h : Mk G t (.bool b)) : Mk G (tCB (fun xs H Q => (∃ i, xs = [.int i] ∧ Q (.int i) H) ∨ ∃ k, xs = [.bl k] ∧ Q (.int (if k then 1 else 0)) H) (tCons t tNil)) (.int (if b = true then 1 else 0)) := fun σ H Q E q => h σ H _ E fun v H1 S1 d1 => by
  obtain rfl := dat_bl d1
  exact .inr ⟨b, rfl, q _ H1 S1 (.int _)⟩
end
def qR (lo : Int) (n : Nat) (w : PyData) : List PyData := (List.range ((n : Int) - lo).toNat).map fun k => .tuple [w, .int (lo + (k : Nat))]
def qOwn (ws : List Str) (lo : Int) (n : Nat) : List PyData := (ws.map PyData.str).flatMap (qR lo n)
def okPart : S9 → List PyData → Prop
  | .row true _ => fun ds => ds = [.tuple [.str "selected"]]
  | .row false _ => fun ds => ds = []
  | .pow _ _ => fun ds => ds = []
  | .dec cs _ => fun ds => ds = rowQ cs
  | .leaf (.word cs) => fun ds => ds = rowQ cs
  | .leaf (.arr o) => fun ds => ∃ ns, ns.Perm (namesN 6 o) ∧ ds = arrQ ns
  | .leaf (.walk n s e lo hi) => fun ds => ds = walkQ n.toNat s e lo hi
  | .leaf (.str ms _ n) => okStrs ms n
  | .leaf (.sub n k) => fun ds => ds = (qW "contains" n ++ qW "rank" (n + 1)) ++ qW "select" k
  | .leaf (.cyc n) => fun ds => ds = qOwn ["successor", "predecessor"] 0 n
  | .leaf (.mat n) => fun ds => ds = qOwn ["partner"] 0 (n * 2)
  | .leaf (.perm n _) => fun ds => ds = qOwn ["image", "preimage"] 0 n
  | .leaf (.tree n) => fun ds => ds = qOwn ["parent"] 1 n
def spPartQs : Sp := fun vs H Q _ => ∃ (v : V) (s : S9), vs = [v] ∧ Dat H v (dt s) ∧ FineS s ∧ Fresh H Q (okPart s)
abbrev s_part_queries : Stmt := top 41
theorem dt_hd (s : S9) : ∃ rest, dt s = .tuple (.str (hd9 s) :: rest) := by
  cases s with
  | leaf l =>
    obtain ⟨ds, e⟩ := ldt_hd l
    exact ⟨ds, by rw [dt]; exact e⟩
  | row c xs => exact ⟨_, by rw [dt]; rfl⟩
  | pow n x => exact ⟨_, by rw [dt]; rfl⟩
  | dec cs xs => exact ⟨_, by rw [dt]; rfl⟩
theorem inV3 (z x y u : Str) : inV (.str z) [.str x, .str y, .str u] = (decide (z = x) || (decide (z = y) || decide (z = u))) := by
  have e : ∀ a : Str, eqV (.str a) (.str z) = decide (z = a) := fun a => by
    show (a == z) = decide (z = a)
    by_cases h : z = a
    · rw [decide_eq_true h, h]
      exact beq_self_eq_true _
    · rw [decide_eq_false h]
      exact beq_eq_false_iff_ne.mpr fun y => h y.symm
  unfold inV
  rw [List.any_cons, List.any_cons, List.any_cons, e, e, e, List.any_nil, Bool.or_false]
theorem part_no {s : S9} (h : (decide (hd9 s = ("product" : Str)) || decide (hd9 s = ("power" : Str))) = true) : okPart s [] := by
  rw [Bool.or_eq_true, decide_eq_true_eq, decide_eq_true_eq] at h
  cases s with
  | leaf l =>
    have h : hdL l = "product" ∨ hdL l = "power" := h
    exact absurd h (noPP _ (hd_mem l))
  | row c xs =>
    cases c with
    | true =>
      have h : ("choice" : Str) = "product" ∨ ("choice" : Str) = "power" := h
      exact absurd h (by decide +kernel)
    | false => rfl
  | pow n x => rfl
  | dec cs xs =>
    have h : ("decorated" : Str) = "product" ∨ ("decorated" : Str) = "power" := h
    exact absurd h (by decide +kernel)
theorem or3 {a b c : Prop} [Decidable a] [Decidable b] [Decidable c] : (decide a || (decide b || decide c)) = true ↔ a ∨ b ∨ c := by
  rw [Bool.or_eq_true, Bool.or_eq_true, decide_eq_true_eq, decide_eq_true_eq, decide_eq_true_eq]
theorem part_row {s : S9} (h : (decide (hd9 s = ("word" : Str)) || (decide (hd9 s = ("decorated" : Str)) || decide (hd9 s = ("arrangement" : Str)))) = true) : isRow s = true ∧ ∀ ds, okRow s ds → okPart s ds := by
  rw [or3] at h
  cases s with
  | leaf l =>
    cases l with
    | word cs => exact ⟨rfl, fun _ h => h⟩
    | arr o => exact ⟨rfl, fun _ h => h⟩
    | _ =>
      simp only [hd9, hdL] at h
      exact absurd h (by decide +kernel)
  | row c xs =>
    cases c with
    | true =>
      have h : ("choice" : Str) = "word" ∨ ("choice" : Str) = "decorated" ∨ ("choice" : Str) = "arrangement" := h
      exact absurd h (by decide +kernel)
    | false =>
      have h : ("product" : Str) = "word" ∨ ("product" : Str) = "decorated" ∨ ("product" : Str) = "arrangement" := h
      exact absurd h (by decide +kernel)
  | pow n x =>
    simp only [hd9] at h
    exact absurd h (by decide +kernel)
  | dec cs xs => exact ⟨rfl, fun _ h => h⟩
/-- the words of the other kinds -/
def ownW : L9 → List Str
  | .cyc _ => ["successor", "predecessor"]
  | .mat _ => ["partner"]
  | .perm _ _ => ["image", "preimage"]
  | _ => ["parent"]
def numL : L9 → Nat
  | .cyc n => n
  | .mat n => n
  | .perm n _ => n
  | .tree n => n
  | .sub n _ => n
  | _ => 0
theorem part_own {s : S9} (hf : FineS s) (h1 : (decide (hd9 s = ("product" : Str)) || decide (hd9 s = ("power" : Str))) = false) (h2 : decide (V.str (hd9 s) = V.str "choice") = false) (h3 : (decide (hd9 s = ("word" : Str)) || (decide (hd9 s = ("decorated" : Str)) || decide (hd9 s = ("arrangement" : Str)))) = false) (h4 : (decide (hd9 s = ("walk" : Str)) || decide (hd9 s = ("string" : Str))) = false) :
    (∃ n k, s = .leaf (.sub n k) ∧ n ≤ 1000 ∧ k ≤ 1000) ∨ ∃ l rest, s = .leaf l ∧ hdL l ≠ "subset" ∧ ldt l = .tuple (.str (hdL l) :: .int (numL l : Nat) :: rest) ∧ numL l ≤ 1000 ∧ hdL l ∈ (["cycle", "matching", "permutation", "tree"] : List Str) ∧
      ∀ ds, ds = qOwn (ownW l) (if decide (V.str (hdL l) = V.str "tree") = true then 1 else 0) (numL l * (1 + if decide (V.str (hdL l) = V.str "matching") = true then 1 else 0)) → okPart s ds := by
  have h1 := or_no h1
  have h2 := of_decide_eq_false h2
  have h3 : ¬ (hd9 s = ("word" : Str) ∨ hd9 s = ("decorated" : Str) ∨ hd9 s = ("arrangement" : Str)) := fun x => by
    rw [or3.mpr x] at h3
    cases h3
  have h4 := or_no h4
  cases s with
  | leaf l =>
    have e1 := hf.sm
    rw [smS, Bool.and_eq_true] at e1
    cases l with
    | word cs => exact absurd (.inl rfl) h3
    | arr o => exact absurd (.inr (.inr rfl)) h3
    | walk n s t lo hi => exact absurd (.inl rfl) h4
    | str ms ac n => exact absurd (.inr rfl) h4
    | sub n k => exact .inl ⟨n, k, rfl, of_decide_eq_true e1.1, of_decide_eq_true e1.2⟩
    | cyc n =>
      have t1 : decide (V.str ("cycle" : Str) = V.str "tree") = false := by decide +kernel
      have t2 : decide (V.str ("cycle" : Str) = V.str "matching") = false := by decide +kernel
      refine .inr ⟨_, [], rfl, (show ("cycle" : Str) ≠ "subset" by decide +kernel), rfl, of_decide_eq_true e1.1, by simp [hdL], fun ds h => ?_⟩
      have h : ds = qOwn (ownW (.cyc n)) (if decide (V.str ("cycle" : Str) = V.str "tree") = true then 1 else 0) (n * (1 + if decide (V.str ("cycle" : Str) = V.str "matching") = true then 1 else 0)) := h
      rw [t1, t2] at h
      exact h.trans (by simp [ownW])
    | mat n =>
      have t1 : decide (V.str ("matching" : Str) = V.str "tree") = false := by decide +kernel
      have t2 : decide (V.str ("matching" : Str) = V.str "matching") = true := by decide +kernel
      refine .inr ⟨_, [], rfl, (show ("matching" : Str) ≠ "subset" by decide +kernel), rfl, of_decide_eq_true e1.1, by simp [hdL], fun ds h => ?_⟩
      have h : ds = qOwn (ownW (.mat n)) (if decide (V.str ("matching" : Str) = V.str "tree") = true then 1 else 0) (n * (1 + if decide (V.str ("matching" : Str) = V.str "matching") = true then 1 else 0)) := h
      rw [t1, t2] at h
      exact h.trans (by simp [ownW])
    | perm n d =>
      have t1 : decide (V.str ("permutation" : Str) = V.str "tree") = false := by decide +kernel
      have t2 : decide (V.str ("permutation" : Str) = V.str "matching") = false := by decide +kernel
      refine .inr ⟨_, [d], rfl, (show ("permutation" : Str) ≠ "subset" by decide +kernel), rfl, of_decide_eq_true e1.1, by simp [hdL], fun ds h => ?_⟩
      have h : ds = qOwn (ownW (.perm n d)) (if decide (V.str ("permutation" : Str) = V.str "tree") = true then 1 else 0) (n * (1 + if decide (V.str ("permutation" : Str) = V.str "matching") = true then 1 else 0)) := h
      rw [t1, t2] at h
      exact h.trans (by simp [ownW])
    | tree n =>
      have t1 : decide (V.str ("tree" : Str) = V.str "tree") = true := by decide +kernel
      have t2 : decide (V.str ("tree" : Str) = V.str "matching") = false := by decide +kernel
      refine .inr ⟨_, [], rfl, (show ("tree" : Str) ≠ "subset" by decide +kernel), rfl, of_decide_eq_true e1.1, by simp [hdL], fun ds h => ?_⟩
      have h : ds = qOwn (ownW (.tree n)) (if decide (V.str ("tree" : Str) = V.str "tree") = true then 1 else 0) (n * (1 + if decide (V.str ("tree" : Str) = V.str "matching") = true then 1 else 0)) := h
      rw [t1, t2] at h
      exact h.trans (by simp [ownW])
  | row c xs =>
    cases c with
    | true => exact absurd rfl h2
    | false => exact absurd (.inl rfl) h1
  | pow n x => exact absurd (.inr rfl) h1
  | dec cs xs => exact absurd (.inr (.inl rfl)) h3
end K9
set_option maxRecDepth 100000
set_option maxHeartbeats 8000000
namespace K9
open PySem PySem.Spec PyProof.Rows L2
theorem sq_any {te : TE} {g : TG} {R : TS} {D : Ends} {σ : L2.St} {H : Hp} (h : te σ H (fun v H1 => g v σ H1 (R D))) : tSeq (tAsg te g) R D σ H := h
theorem qR_len (lo : Int) (n : Nat) (p : PyData) (h : 0 ≤ lo) : (qR lo n p).length ≤ n := by unfold qR; rw [List.length_map, List.length_range]; omega
theorem qR_noL (lo : Int) (n : Nat) {p : PyData} (h : noL p = true) : noLs (qR lo n p) = true := noLs_iff.mpr fun e he => by
  unfold qR at he
  obtain ⟨k, _, rfl⟩ := List.mem_map.mp he
  simp [noL, noLs, h]
theorem qRs_len (lo : Int) (n : Nat) (h : 0 ≤ lo) : ∀ l : List PyData, (l.flatMap (qR lo n)).length ≤ l.length * n
  | [] => by simp
  | d :: l => by
    have h1 := qRs_len lo n h l
    have h2 := qR_len lo n d h
    rw [List.flatMap_cons, List.length_append, List.length_cons, Nat.succ_mul]
    omega
theorem own_len (l : L9) : (ownW l).length ≤ 2 := by cases l <;> simp [ownW]
section
variable {P : Program} {w : World} {K : PySem.W.Frag} {mg : Str → Option Value} {base : Heap}
def kvW (t1 t2 t3 : Addr) : List (Key × V) := [(.inr "cycle", .ref t1), (.inr "matching", .ref t2), (.inr "permutation", .ref t3)]
theorem sc_part_queries : FnScope ["_law_part", "_law_word", "_law_n", "_law_found", "_law_words", "_law_own", "_law_p", "_law_j", "_law_k"] ["_law_part"] (defScope s_part_queries) := ⟨rfl, rfl, rfl, by decide +kernel, rfl, by decide +kernel, by decide +kernel⟩
theorem okl_partqs {f fR fW fS : Addr} {fd fdR fdW fdS : FuncData} (F : Fun K "_law_part_queries" "_law_part_queries" s_part_queries f fd) (T : Nm mg)
    (DR : DefOk K mg "_law_row_queries" s_row_queries ["_law_part"] fR fdR) (GR : FnOk P w K mg base CX0 8 fR fdR ["_law_part"] spRowQs)
    (DW : DefOk K mg "_law_walk_queries" s_walk_queries ["_law_part"] fW fdW) (GW : FnOk P w K mg base CX0 1 fW fdW ["_law_part"] spWalkQs)
    (DS : DefOk K mg "_law_string_queries" s_string_queries ["_law_part"] fS fdS) (GS : FnOk P w K mg base CX0 1 fS fdS ["_law_part"] spStrQs) : FnOk P w K mg base CX0 9 f fd ["_law_part"] spPartQs := by
  refine F.ok sc_part_queries (fun vs H Q E h => ?_) (fun cdv A outer s H vs Q E hr h => ?_)
  · obtain ⟨v, s, rfl, _⟩ := h
    rfl
  · obtain ⟨v, sp, rfl, hv, hf, q⟩ := h
    have hr1 : Room 1 _ := hr.mono (by decide)
    have hu1 := hu_of hr
    refine ⟨_, (pss_cons (ps_set (i := 1) sc_part_queries.nd rfl (Or.inl rfl) (pe_ix ix_tup (pv 0) pe_int (fun _ _ => rfl)))
      (pss_cons (ps_if (pt_cmpR op_in_seq (pv 1) (pe_tup (pa_cons pe_str (pa_cons pe_str pa_nil))) rfl)
        (pss_one (ps_ret (pe_lst pa_nil)))
        pss_nil)
      (pss_cons (ps_if (pt_cmpR op_eq (pv 1) pe_str (nomark _))
        (pss_one (ps_ret (pe_lst (pa_cons (pe_tup (pa_cons pe_str pa_nil)) pa_nil))))
        pss_nil)
      (pss_cons (ps_if (pt_cmpR op_in_seq (pv 1) (pe_tup (pa_cons pe_str (pa_cons pe_str (pa_cons pe_str pa_nil)))) rfl)
        (pss_one (ps_ret (pe_call GR hr rfl DR.g DR.F.kp DR.b .nil pass0 (pa_cons (pv 0) pa_nil))))
        pss_nil)
      (pss_cons (ps_if (pt_cmpR op_in_seq (pv 1) (pe_tup (pa_cons pe_str (pa_cons pe_str pa_nil))) rfl)
        (pss_one (ps_ret (pe_ifExp (pt_cmpR op_eq (pv 1) pe_str (nomark _)) (pe_call GW hr1 rfl DW.g DW.F.kp DW.b .nil pass0 (pa_cons (pv 0) pa_nil)) (pe_call GS hr1 rfl DS.g DS.F.kp DS.b .nil pass0 (pa_cons (pv 0) pa_nil)))))
        pss_nil)
      (pss_cons (ps_set (i := 2) sc_part_queries.nd rfl (Or.inl rfl) (pe_op op_mul (pe_ix ix_tup (pv 0) pe_int (fun _ _ => rfl)) (pe_op op_add pe_int (pe_callTy call_int1 (by rfl) T.int (by decide +kernel) (pa_cons (pe_cmpR op_eq (pv 1) pe_str (nomark _)) pa_nil)))))
      (pss_cons (ps_if (pt_cmpR op_eq (pv 1) pe_str (nomark _))
        (pss_cons (ps_set (i := 3) sc_part_queries.nd rfl (Or.inl rfl) (pe_op op_cat (pe_lc (own := [("_law_p", 6)]) (g := (gName 6)) (tt := tYes) rfl sc_part_queries.nd (pi_range1 rfl T.range (pa_cons (pv 2) pa_nil)) (blkOk_by (N := ["_law_part", "_law_word", "_law_n", "_law_found", "_law_words", "_law_own", "_law_p", "_law_j", "_law_k"]) (sc := defScope s_part_queries) (by decide +kernel))
          (fun _ _ _ _ _ => (pg_name (i := 6) sc_part_queries.nd rfl (Or.inl rfl))) (fun _ _ _ _ _ => pts_nil) (fun _ _ _ _ _ => (pe_tup (pa_cons pe_str (pa_cons (pv 6) pa_nil))))) (pe_lc (own := [("_law_p", 6)]) (g := (gName 6)) (tt := tYes) rfl sc_part_queries.nd (pi_range1 rfl T.range (pa_cons (pe_op op_add (pv 2) pe_int) pa_nil)) (blkOk_by (N := ["_law_part", "_law_word", "_law_n", "_law_found", "_law_words", "_law_own", "_law_p", "_law_j", "_law_k"]) (sc := defScope s_part_queries) (by decide +kernel))
          (fun _ _ _ _ _ => (pg_name (i := 6) sc_part_queries.nd rfl (Or.inl rfl))) (fun _ _ _ _ _ => pts_nil) (fun _ _ _ _ _ => (pe_tup (pa_cons pe_str (pa_cons (pv 6) pa_nil)))))))
        (pss_one (ps_ret (pe_op op_cat (pv 3) (pe_lc (own := [("_law_j", 7)]) (g := (gName 7)) (tt := tYes) rfl sc_part_queries.nd (pi_range1 rfl T.range (pa_cons (pe_ix ix_tup (pv 0) pe_int (fun _ _ => rfl)) pa_nil)) (blkOk_by (N := ["_law_part", "_law_word", "_law_n", "_law_found", "_law_words", "_law_own", "_law_p", "_law_j", "_law_k"]) (sc := defScope s_part_queries) (by decide +kernel))
          (fun _ _ _ _ _ => (pg_name (i := 7) sc_part_queries.nd rfl (Or.inl rfl))) (fun _ _ _ _ _ => pts_nil) (fun _ _ _ _ _ => (pe_tup (pa_cons pe_str (pa_cons (pv 7) pa_nil)))))))))
        pss_nil)
      (pss_cons (ps_set (i := 4) sc_part_queries.nd rfl (Or.inl rfl) (pe_disp (pps_cons pe_str (pe_tup (pa_cons pe_str (pa_cons pe_str pa_nil))) (pps_cons pe_str (pe_tup (pa_cons pe_str pa_nil)) (pps_cons pe_str (pe_tup (pa_cons pe_str (pa_cons pe_str pa_nil))) pps_nil))) (by rfl) (by rfl) (fun z => by cases z) (by decide)))
      (pss_cons (ps_set (i := 3) sc_part_queries.nd rfl (Or.inl rfl) (pe_lst pa_nil))
      (pss_cons (ps_for PassesOwn.never rfl (pi_tup (pe_dget2 hu1 (pv 4) (pv 1) (pe_tup (pa_cons pe_str pa_nil)) ⟨rfl, rfl, rfl, rfl⟩)) (pg_name (i := 5) sc_part_queries.nd rfl (Or.inr rfl))
        (pss_one (ps_expr (pe_bm PySem.F.plainAttrs_list PySem.F.slot_list_extend PySem.F.type_list_extend mt_extend (pv 3) (pa_cons (pe_lc (own := [("_law_k", 8)]) (g := (gName 8)) (tt := tYes) rfl sc_part_queries.nd (pi_range2 rfl T.range (pa_cons (pe_callTy call_int1 (by rfl) T.int (by decide +kernel) (pa_cons (pe_cmpR op_eq (pv 1) pe_str (nomark _)) pa_nil)) (pa_cons (pv 2) pa_nil))) (blkOk_by (N := ["_law_part", "_law_word", "_law_n", "_law_found", "_law_words", "_law_own", "_law_p", "_law_j", "_law_k"]) (sc := defScope s_part_queries) (by decide +kernel))
          (fun _ _ _ _ _ => (pg_name (i := 8) sc_part_queries.nd rfl (Or.inl rfl))) (fun _ _ _ _ _ => pts_nil) (fun _ _ _ _ _ => (pe_tup (pa_cons (pv 5) (pa_cons (pv 8) pa_nil))))) pa_nil)))))
      (pss_one (ps_ret (pv 3))))))))))))), ?_⟩
    obtain ⟨rest, he⟩ := dt_hd sp
    have hv0 := hv
    rw [he] at hv
    have E0 : EnvOk [(0, PyData.tuple (.str (hd9 sp) :: rest))] [some v, none, none, none, none, none, none, none, none] H := fun p hp => by
      obtain rfl := List.mem_singleton.mp hp
      exact ⟨v, rfl, hv⟩
    refine sq_set (mk_ixT (j := 0) (mk_var List.mem_cons_self) rfl rfl) E0 rfl (by show 1 < 9; decide) fun v1 H1 S1 E1 => ?_
    obtain ⟨u1, ev1, dv1⟩ := E1 (1, .str (hd9 sp)) List.mem_cons_self
    cases ev1
    obtain rfl := dat_strV dv1
    have W : Mk [(1, PyData.str (hd9 sp)), (0, PyData.tuple (.str (hd9 sp) :: rest))] (tVar 1) (.str (hd9 sp)) := mk_var List.mem_cons_self
    cases k1 : (decide (hd9 sp = ("product" : Str)) || decide (hd9 sp = ("power" : Str))) with
    | true =>
      refine sq_if1 (mkt (mk_inS (ws := ["product", "power"]) W (mks_cons (mk_str (by decide)) (mks_cons (mk_str (by decide)) mks_nil)) (by decide) ((inV2 _ _ _).trans k1))) E1 fun H2 S2 => ?_
      exact rt_mkf (N := 9) (mkf_lst mks_nil (by decide)) rfl (E1.same S2) fun L zs H' n0 S e d => q L zs _ H' (none_back (S1.trans S2) n0) ((S1.trans S2).trans S) e d (part_no k1)
    | false =>
    refine sq_if0 (mkt (mk_inS (ws := ["product", "power"]) W (mks_cons (mk_str (by decide)) (mks_cons (mk_str (by decide)) mks_nil)) (by decide) ((inV2 _ _ _).trans k1))) E1 fun H2 S2 => ?_
    have E2 := E1.same S2
    cases k2 : decide (V.str (hd9 sp) = V.str "choice") with
    | true =>
      refine sq_if1 (mkt (mk_eqS W (mk_str (by decide)) k2)) E2 fun H3 S3 => ?_
      obtain ⟨xs5, rfl⟩ := kind_cho k2
      exact rt_mkf (N := 9) (mkf_lst (ds := [.tuple [.str "selected"]]) (mks_cons (mk_tup (mks_cons (mk_str (by decide)) mks_nil) (by decide)) mks_nil) (by decide)) rfl (E2.same S3) fun L zs H' n0 S e d => q L zs _ H' (none_back ((S1.trans S2).trans S3) n0) (((S1.trans S2).trans S3).trans S) e d rfl
    | false =>
    refine sq_if0 (mkt (mk_eqS W (mk_str (by decide)) k2)) E2 fun H3 S3 => ?_
    have E3 := E2.same S3
    have T3 := (S1.trans S2).trans S3
    cases k3 : (decide (hd9 sp = ("word" : Str)) || (decide (hd9 sp = ("decorated" : Str)) || decide (hd9 sp = ("arrangement" : Str)))) with
    | true =>
      refine sq_if1 (mkt (mk_inS (ws := ["word", "decorated", "arrangement"]) W (mks_cons (mk_str (by decide)) (mks_cons (mk_str (by decide)) (mks_cons (mk_str (by decide)) mks_nil))) (by decide) ((inV3 _ _ _ _).trans k3))) E3 fun H4 S4 => ?_
      obtain ⟨r1, r2⟩ := part_row k3
      refine ⟨v, rfl, v, sp, rfl, (hv0.same T3).same S4, hf, r1, fun L zs ds H' n0 S e d h => q L zs ds H' (none_back (T3.trans S4) n0) ((T3.trans S4).trans S) e d (r2 ds h)⟩
    | false =>
    refine sq_if0 (mkt (mk_inS (ws := ["word", "decorated", "arrangement"]) W (mks_cons (mk_str (by decide)) (mks_cons (mk_str (by decide)) (mks_cons (mk_str (by decide)) mks_nil))) (by decide) ((inV3 _ _ _ _).trans k3))) E3 fun H4 S4 => ?_
    have E4 := E3.same S4
    have T4 := T3.trans S4
    cases k4 : (decide (hd9 sp = ("walk" : Str)) || decide (hd9 sp = ("string" : Str))) with
    | true =>
      refine sq_if1 (mkt (mk_inS (ws := ["walk", "string"]) W (mks_cons (mk_str (by decide)) (mks_cons (mk_str (by decide)) mks_nil)) (by decide) ((inV2 _ _ _).trans k4))) E4 fun H5 S5 => ?_
      have T5 := T4.trans S5
      have z1 := hf.sm
      rcases kind_track k4 with ⟨n, s0, t0, lo, hi, rfl⟩ | ⟨ms, ac, n, rfl⟩
      · rw [smS, Bool.and_eq_true] at z1
        have z2 := z1.2
        unfold leafZ at z2
        simp only [Bool.and_eq_true, decide_eq_true_eq] at z2
        obtain ⟨⟨a1, a2⟩, ⟨b1, b2⟩, ⟨c1, c2⟩, ⟨d1, d2⟩, e1, e2⟩ := z2
        rw [dt] at hv0
        refine mkt (mk_eqS W (mk_str (by decide)) (c := true) (decide_eq_true (by rfl))) _ H5 _ (E4.same S5) fun H6 S6 => if_t rfl ⟨v, rfl, v, n.toNat, s0, t0, lo, hi, rfl, ?_, by omega, ⟨b1, b2⟩, ⟨c1, c2⟩, ⟨d1, d2⟩, ⟨e1, e2⟩, fun L zs ds H' n0 S e d h => q L zs ds H' (none_back (T5.trans S6) n0) ((T5.trans S6).trans S) e d h⟩
        rw [Int.toNat_of_nonneg a1]
        exact (hv0.same T5).same S6
      · rw [smS, Bool.and_eq_true] at z1
        have z2 := z1.2
        unfold leafZ at z2
        simp only [Bool.and_eq_true, decide_eq_true_eq, List.all_eq_true] at z2
        obtain ⟨a1, a2, a3⟩ := z2
        rw [dt] at hv0
        exact mkt (mk_eqS W (mk_str (by decide)) (c := false) (decide_eq_false fun h => absurd (show ("string" : Str) = "walk" from V.str.inj h) (by decide +kernel))) _ H5 _ (E4.same S5) fun H6 S6 => if_f rfl ⟨v, rfl, v, ms, ac, n, rfl, (hv0.same T5).same S6, a1, by omega, a3, fun L zs ds H' n0 S e d h => q L zs ds H' (none_back (T5.trans S6) n0) ((T5.trans S6).trans S) e d h⟩
    | false =>
    refine sq_if0 (mkt (mk_inS (ws := ["walk", "string"]) W (mks_cons (mk_str (by decide)) (mks_cons (mk_str (by decide)) mks_nil)) (by decide) ((inV2 _ _ _).trans k4))) E4 fun H5 S5 => ?_
    have E5 := E4.same S5
    have T5 := T4.trans S5
    rcases part_own hf k1 k2 k3 k4 with ⟨n, k, rfl, hn, hk⟩ | ⟨l, rest', rfl, hns, hl, hln, hlm, hok⟩
    · obtain rfl : rest = [.int (n : Nat), .int (k : Nat)] := by
        have he : ldt (.sub n k) = .tuple (.str (hd9 (.leaf (.sub n k))) :: rest) := by rw [← he, dt]
        injection he with he
        injection he with _ he
        exact he.symm
      have t2 : decide (V.str ("subset" : Str) = V.str "matching") = false := by decide +kernel
      refine sq_set (d := .int (n : Nat)) (mk_op (mk_ixT (j := 1) (mk_var (List.mem_cons_of_mem _ List.mem_cons_self)) rfl rfl) (mk_op0 mk_int (mk_intB (mk_eqS W (mk_str (by decide)) t2)) rfl) (.inl ⟨by omega, by omega⟩) (by
        show V.int ((n : Int) * (1 + 0)) = _
        congr 1
        omega)) E5 rfl (by show 2 < 9; decide) fun v6 H6 S6 E6 => ?_
      refine sq_if1 (mkt (mk_eqS (a := hd9 (.leaf (.sub n k))) (mk_var (List.mem_cons_of_mem _ List.mem_cons_self)) (mk_str (by decide)) (decide_eq_true (by rfl)))) E6 fun H7 S7 => ?_
      refine sq_setN (N := 9) (d := .list (qW "contains" n ++ qW "rank" (n + 1))) (MkF.n (mkf_cat (MkF.n (mkf_range1 (n := n) (f := fun p => .tuple [.str "contains", .int (p : Nat)]) (mk_var List.mem_cons_self) (by omega) rfl (by decide) (fun j _ => mks_tup2 (mk_str (by decide)) (mk_var List.mem_cons_self)) (fun _ _ => rfl)))
        (MkF.n (mkf_range1 (n := n + 1) (f := fun p => .tuple [.str "rank", .int (p : Nat)]) (mk_addN (x := n) (y := 1) (mk_var List.mem_cons_self) mk_int rfl) (by omega) rfl (by decide) (fun j _ => mks_tup2 (mk_str (by decide)) (mk_var List.mem_cons_self)) (fun _ _ => rfl))) (by first | (rw [qW_len, qW_len]; omega) | (simp only [List.length_map, List.length_range]; omega)))) rfl (E6.same S7) rfl (by decide) fun v8 H8 S8 E8 => ?_
      have T8 := ((T5.trans S6).trans S7).trans S8
      refine rt_mkf (N := 9) (mkf_cat (mk_var List.mem_cons_self).n (MkF.n (mkf_range1 (n := k) (f := fun p => .tuple [.str "select", .int (p : Nat)]) (mk_ixT (j := 2) (mk_var (List.mem_cons_of_mem _ (List.mem_cons_of_mem _ (List.mem_cons_of_mem _ List.mem_cons_self)))) rfl rfl) (by omega) rfl (by decide) (fun j _ => mks_tup2 (mk_str (by decide)) (mk_var List.mem_cons_self)) (fun _ _ => rfl)))
        (by rw [List.length_append, qW_len, qW_len]; first | (rw [qW_len]; omega) | (simp only [List.length_map, List.length_range]; omega))) rfl E8 fun L zs H' n0 S e d => q L zs _ H' (none_back T8 n0) (T8.trans S) e d rfl
    · obtain rfl : rest = .int (numL l : Nat) :: rest' := by
        have he : ldt l = .tuple (.str (hd9 (.leaf l)) :: rest) := by rw [← he, dt]
        rw [hl] at he
        injection he with he
        injection he with _ he
        exact he.symm
      have hN2 : ∀ b : Bool, numL l * (1 + if b = true then 1 else 0) ≤ 2000 := fun b => by cases b <;> simp <;> omega
      have hN2 := hN2 (decide (V.str (hdL l) = V.str "matching"))
      have hNe : ((numL l : Nat) : Int) * (1 + if decide (V.str (hdL l) = V.str "matching") = true then 1 else 0) = ((numL l * (1 + if decide (V.str (hdL l) = V.str "matching") = true then 1 else 0) : Nat) : Int) := by
        split <;> simp
      generalize numL l * (1 + if decide (V.str (hdL l) = V.str "matching") = true then 1 else 0) = n at hN2 hNe hok
      refine sq_set (d := .int (n : Nat)) (mk_op (mk_ixT (j := 1) (mk_var (List.mem_cons_of_mem _ List.mem_cons_self)) rfl rfl) (mk_op0 mk_int (mk_intB (mk_eqS W (mk_str (by decide)) rfl)) rfl) (.inl ⟨by omega, by omega⟩) (by
        show V.int (((numL l : Nat) : Int) * (1 + if decide (V.str (hdL l) = V.str "matching") = true then 1 else 0)) = _
        rw [hNe])) E5 rfl (by show 2 < 9; decide) fun v6 H6 S6 E6 => ?_
      refine sq_if0 (mkt (mk_eqS (a := hdL l) (mk_var (List.mem_cons_of_mem _ List.mem_cons_self)) (mk_str (by decide)) (decide_eq_false fun e => hns (V.str.inj e)))) E6 fun H7 S7 => ?_
      have E7 := E6.same S7
      have T7 := (T5.trans S6).trans S7
      refine sq_any (fun p np => ⟨(by show 2 ≤ sizeLine; decide), fun t1 n1 => ⟨(by show 1 ≤ sizeLine; decide), fun t2 n2 => ⟨(by show 2 ≤ sizeLine; decide), fun t3 n3 => ?_⟩⟩⟩)
      have s1 := same_new (o := HO.tup [.str "successor", .str "predecessor"]) n1
      have s2 := same_new (o := HO.tup [.str "partner"]) n2
      have s3 := same_new (o := HO.tup [.str "image", .str "preimage"]) n3
      have hp3 := s3 _ _ (s2 _ _ (s1 _ _ (upd_same (H := H7) (a := p) (o := .dK []))))
      refine ⟨hp3, kvW t1 t2 t3, rfl, (by show 3 ≤ 15; decide), ?_⟩
      have em : mergeK [] (kvW t1 t2 t3) = kvW t1 t2 t3 := merge_new _ _ (by
        show ([.inr "cycle", .inr "matching", .inr "permutation"] : List Key).Nodup
        decide +kernel)
      have np1 : t1 ≠ p := fun e => by
        rw [e, upd_same] at n1
        cases n1
      have np2 : t2 ≠ p := fun e => by
        rw [e, s1 _ _ upd_same] at n2
        cases n2
      have np3 : t3 ≠ p := fun e => by
        rw [e, s2 _ _ (s1 _ _ upd_same)] at n3
        cases n3
      have hSd : ∀ b o, H7 b = some o → upd (upd (upd (upd (upd H7 p (.dK [])) t1 (.tup [.str "successor", .str "predecessor"])) t2 (.tup [.str "partner"])) t3 (.tup [.str "image", .str "preimage"])) p (.dK (mergeK [] (kvW t1 t2 t3))) b = some o := fun b o e => by
        rw [upd_ne (ne_of_none e np)]
        exact s3 _ _ (s2 _ _ (s1 _ _ (by rw [upd_ne (ne_of_none e np)]; exact e)))
      have hd1 : upd (upd (upd (upd (upd H7 p (.dK [])) t1 (.tup [.str "successor", .str "predecessor"])) t2 (.tup [.str "partner"])) t3 (.tup [.str "image", .str "preimage"])) p (.dK (mergeK [] (kvW t1 t2 t3))) t1 = some (.tup [.str "successor", .str "predecessor"]) := by
        rw [upd_ne np1]
        exact s3 _ _ (s2 _ _ upd_same)
      have hd2 : upd (upd (upd (upd (upd H7 p (.dK [])) t1 (.tup [.str "successor", .str "predecessor"])) t2 (.tup [.str "partner"])) t3 (.tup [.str "image", .str "preimage"])) p (.dK (mergeK [] (kvW t1 t2 t3))) t2 = some (.tup [.str "partner"]) := by
        rw [upd_ne np2]
        exact s3 _ _ upd_same
      have hd3 : upd (upd (upd (upd (upd H7 p (.dK [])) t1 (.tup [.str "successor", .str "predecessor"])) t2 (.tup [.str "partner"])) t3 (.tup [.str "image", .str "preimage"])) p (.dK (mergeK [] (kvW t1 t2 t3))) t3 = some (.tup [.str "image", .str "preimage"]) := by
        rw [upd_ne np3]
        exact upd_same
      have hdp : upd (upd (upd (upd (upd H7 p (.dK [])) t1 (.tup [.str "successor", .str "predecessor"])) t2 (.tup [.str "partner"])) t3 (.tup [.str "image", .str "preimage"])) p (.dK (mergeK [] (kvW t1 t2 t3))) p = some (.dK (kvW t1 t2 t3)) := by
        rw [upd_same, em]
      generalize upd (upd (upd (upd (upd H7 p (.dK [])) t1 (.tup [.str "successor", .str "predecessor"])) t2 (.tup [.str "partner"])) t3 (.tup [.str "image", .str "preimage"])) p (.dK (mergeK [] (kvW t1 t2 t3))) = Hd at hSd hd1 hd2 hd3 hdp ⊢
      have hSd : Same H7 Hd := hSd
      have Td := T7.trans hSd
      have Ed := E7.same hSd
      have Ed4 := Ed.set (i := 4) (v := .ref p) (ne_of (by rfl))
      have LK : ∀ (Hx : Hp) (tz : Addr), Same Hd Hx → Hx tz = some (.tup [.str "parent"]) → Dat Hx ((valV (kvW t1 t2 t3) (.inr (hdL l))).getD (.ref tz)) (.tuple ((ownW l).map PyData.str)) := fun Hx tz Sx hz => by
        cases l with
        | cyc n0 =>
          rw [show valV (kvW t1 t2 t3) (.inr (hdL (.cyc n0))) = some (.ref t1) from valV_pos rfl]
          exact .tup (TP.of (Sx _ _ hd1)) (.cons (.str _ (by decide)) (.cons (.str _ (by decide)) .nil))
        | mat n0 =>
          rw [show valV (kvW t1 t2 t3) (.inr (hdL (.mat n0))) = some (.ref t2) from (valV_neg (fun e => absurd (show ("cycle" : Str) = "matching" from Sum.inr.inj e) (by decide +kernel))).trans (valV_pos rfl)]
          exact .tup (TP.of (Sx _ _ hd2)) (.cons (.str _ (by decide)) .nil)
        | perm n0 d0 =>
          rw [show valV (kvW t1 t2 t3) (.inr (hdL (.perm n0 d0))) = some (.ref t3) from (valV_neg (fun e => absurd (show ("cycle" : Str) = "permutation" from Sum.inr.inj e) (by decide +kernel))).trans ((valV_neg (fun e => absurd (show ("matching" : Str) = "permutation" from Sum.inr.inj e) (by decide +kernel))).trans (valV_pos rfl))]
          exact .tup (TP.of (Sx _ _ hd3)) (.cons (.str _ (by decide)) (.cons (.str _ (by decide)) .nil))
        | tree n0 =>
          rw [show valV (kvW t1 t2 t3) (.inr (hdL (.tree n0))) = none from (valV_neg (fun e => absurd (show ("cycle" : Str) = "tree" from Sum.inr.inj e) (by decide +kernel))).trans ((valV_neg (fun e => absurd (show ("matching" : Str) = "tree" from Sum.inr.inj e) (by decide +kernel))).trans ((valV_neg (fun e => absurd (show ("permutation" : Str) = "tree" from Sum.inr.inj e) (by decide +kernel))).trans rfl))]
          exact .tup (TP.of hz) (.cons (.str _ (by decide)) .nil)
        | _ =>
          simp only [hdL] at hlm
          exact absurd hlm (by decide +kernel)
      refine sq_setF (N := 9) (Hi := Hd) (ds := []) (G := [(2, .int (n : Nat)), (1, .str (hdL l))]) (mkf_lst mks_nil (by decide)) rfl Ed4 (Same.refl Hd) (fun p hp => by
        rcases List.mem_cons.mp hp with rfl | hp
        · exact List.mem_cons_self
        · rcases List.mem_cons.mp hp with rfl | hp
          · exact List.mem_cons_of_mem _ List.mem_cons_self
          · cases hp) rfl (by decide) fun p8 H8 T8 => ?_
      refine sq_of (for_itemsP (N := 9) (K := K) (ps := (ownW l).map PyData.str) (fF := qR (if decide (V.str (hdL l) = V.str "tree") = true then 1 else 0) n) T8 rfl (fun Q' k => ?_) (strs_noL _) rfl (by decide) (by decide) ?_ ?_)
      · refine ⟨_, rfl, p, rfl, .inl ⟨_, .inl (T8.same _ _ hdp)⟩, _, rfl, (by show 1 ≤ sizeLine; decide), fun tz nz => ⟨_, DGet.k (k := .inr (hdL l)) (same_new nz _ _ (T8.same _ _ hdp)), ?_⟩⟩
        exact k _ _ (same_new nz) (LK _ tz (T8.same.trans (same_new nz)) upd_same)
      · have hlo : ∀ b : Bool, (0 : Int) ≤ (if b = true then 1 else 0) ∧ (if b = true then 1 else 0 : Int) ≤ 1 := fun b => by cases b <;> decide
        have hlo := hlo (decide (V.str (hdL l) = V.str "tree"))
        intro j p0 Hb acc σ' H' D' hp hN' hacc g k
        have hm := List.mem_of_getElem? hp
        have hpn : noL p0 = true := noLs_iff.mp (strs_noL _) _ hm
        have la : ((((ownW l).map PyData.str).take j).flatMap (qR (if decide (V.str (hdL l) = V.str "tree") = true then 1 else 0) n)).length ≤ 2 * n := by
          refine Nat.le_trans (qRs_len _ n hlo.1 _) (Nat.mul_le_mul_right _ ?_)
          rw [List.length_take, List.length_map]
          have := own_len l
          omega
        have lr := qR_len _ n p0 hlo.1
        refine one_ext g hN' (mkf_range2 (i := 8) (lo := if decide (V.str (hdL l) = V.str "tree") = true then 1 else 0) (hi := ((n : Nat) : Int)) (f := fun k => .tuple [p0, .int ((if decide (V.str (hdL l) = V.str "tree") = true then 1 else 0) + (k : Nat))]) (mk_intB (mk_eqS (a := hdL l) (mk_var (by simp)) (mk_str (by decide)) rfl)) (mk_var (by simp)) rfl (by omega) (by omega) (by omega) rfl (by decide) (fun j _ => mks_tup2 (mk_var (by simp)) (mk_var List.mem_cons_self)) (fun _ _ => by simp [noL, noLs, hpn])) (qR_noL _ n hpn) ?_ k
        rw [hacc, List.nil_append]
        have lr' := lr
        unfold qR at lr'
        omega
      · intro σ' H' hN' g
        refine rt_st g fun L zs n0 S e d => q L zs _ H' (none_back Td n0) (Td.trans S) e d (hok _ ?_)
        rw [List.nil_append]
        rfl
end
end K9
set_option maxRecDepth 100000
set_option maxHeartbeats 8000000
namespace K9
open PySem PySem.Spec PyProof.Rows L2
/-! ### all parts of a space, counted -/
mutual
def nP : S9 → Nat
  | .leaf _ => 1
  | .row _ xs => 1 + nPs xs
  | .pow n x => 1 + n * nP x
  | .dec cs xs => 1 + nPz xs cs
def nPs : List S9 → Nat
  | [] => 0
  | x :: xs => nP x + nPs xs
def nPz : List S9 → Cn → Nat
  | [], _ => 0
  | _ :: _, [] => 0
  | x :: xs, c :: cs => c.2 * nP x + nPz xs cs
end
def sumP (l : List (PyData × S9)) : Nat := (l.map fun q => nP q.2).sum
theorem sumP_cons (q : PyData × S9) (l : List (PyData × S9)) : sumP (q :: l) = nP q.2 + sumP l := rfl
theorem sumP_app (l m : List (PyData × S9)) : sumP (l ++ m) = sumP l + sumP m := by
  unfold sumP
  rw [List.map_append, List.sum_append]
theorem sum_enum : ∀ (xs : List S9) (k : Nat), sumP (enumS k xs) = nPs xs
  | [], _ => by rw [nPs]; rfl
  | x :: xs, k => by rw [enumS, sumP_cons, sum_enum xs (k + 1), nPs]
theorem sum_rng (x : S9) (F : Nat → PyData) : ∀ n : Nat, sumP ((List.range n).map fun k => (F k, x)) = n * nP x
  | 0 => by simp [sumP]
  | n + 1 => by
    rw [List.range_succ, List.map_append, sumP_app, sum_rng x F n, Nat.add_mul, Nat.one_mul]
    rfl
theorem sum_dec : ∀ (xs : List S9) (cs : Cn), sumP ((cs.zip xs).flatMap decS) = nPz xs cs
  | [], cs => by
    rw [nPz, List.zip_nil_right]
    rfl
  | x :: xs, [] => by
    rw [nPz]
    rfl
  | x :: xs, c :: cs => by
    rw [nPz, List.zip_cons_cons, List.flatMap_cons, sumP_app, sum_dec xs cs]
    unfold decS
    rw [sum_rng]
theorem nP_nest (s : S9) : nP s = 1 + sumP (nestS s) := by
  cases s with
  | leaf i =>
    rw [nP]
    rfl
  | row c xs => rw [nP, nestS, sum_enum]
  | pow n x => rw [nP, nestS, sum_rng]
  | dec c xs => rw [nP, nestS, sum_dec]
theorem nP_pos (s : S9) : 1 ≤ nP s := by
  rw [nP_nest]
  omega
abbrev Pth : Type := List PyData × S9
def pD (p : Pth) : PyData := .tuple [.tuple p.1, dt p.2]
def moreP (p : Pth) : List Pth := (nestS p.2).map fun q => (p.1 ++ [q.1], q.2)
def sumL (l : List Pth) : Nat := (l.map fun q => nP q.2).sum
theorem sumL_len : ∀ l : List Pth, l.length ≤ sumL l
  | [] => Nat.le_refl _
  | q :: l => by
    have := sumL_len l
    have := nP_pos q.2
    show l.length + 1 ≤ nP q.2 + sumL l
    omega
theorem sumL_more (q : Pth) (ls : List Pth) : sumL (ls ++ moreP q) + 1 = sumL (q :: ls) := by
  have e1 : sumL (q :: ls) = nP q.2 + sumL ls := rfl
  have e2 : sumL (ls ++ moreP q) = sumL ls + sumP (nestS q.2) := by
    unfold sumL moreP sumP
    rw [List.map_append, List.sum_append, List.map_map]
    rfl
  have e3 := nP_nest q.2
  omega
/-! the questions of a part: few, and tuples -/
def tq : PyData → Bool
  | .tuple l => noLs l && decide (l.length ≤ 3)
  | _ => false
theorem all_tq {α : Type} (l : List α) (f : α → PyData) (h : ∀ x ∈ l, tq (f x) = true) : (l.map f).all tq = true := by
  rw [List.all_eq_true]
  intro d hd
  obtain ⟨x, hx, rfl⟩ := List.mem_map.mp hd
  exact h x hx
theorem all_flat {α : Type} (l : List α) (f : α → List PyData) (h : ∀ x ∈ l, (f x).all tq = true) : (l.flatMap f).all tq = true := by
  rw [List.all_eq_true]
  intro d hd
  obtain ⟨x, hx, hd⟩ := List.mem_flatMap.mp hd
  exact List.all_eq_true.mp (h x hx) d hd
theorem all_app {l m : List PyData} (h : l.all tq = true) (h2 : m.all tq = true) : (l ++ m).all tq = true := by rw [List.all_append, h, h2]; rfl
theorem qW_tq (w : Str) (n : Nat) : (qW w n).all tq = true := all_tq _ _ fun _ _ => rfl
theorem rowQ_tq (cs : Cn) : (rowQ cs).all tq = true := all_app (all_app (all_app (qW_tq _ _) (qW_tq _ _)) (qW_tq _ _)) (all_flat _ _ fun c _ => all_tq _ _ fun _ _ => rfl)
theorem rowQ_len (cs : Cn) : (rowQ cs).length = 4 * totN cs + 1 := by
  unfold rowQ rowQ0
  rw [List.length_append, List.length_append, List.length_append, qW_len, qW_len, qW_len, sel_len]
  omega
theorem qOwn_tq (ws : List Str) (lo : Int) (n : Nat) : (qOwn ws lo n).all tq = true := all_flat _ _ fun c hc => all_tq _ _ fun _ _ => by
  obtain ⟨z, _, rfl⟩ := List.mem_map.mp hc
  rfl
theorem walkQ_tq (n : Nat) (s e lo hi : Int) : (walkQ n s e lo hi).all tq = true := by
  refine all_app (all_app (qW_tq _ _) (all_flat _ _ fun c _ => all_app (all_tq _ _ fun _ _ => rfl) (all_tq _ _ fun _ _ => rfl))) ?_
  split
  · exact all_app (qW_tq _ _) (qW_tq _ _)
  · rfl
theorem qIn_tq (w : Str) (n : Nat) {d : PyData} (h : noL d = true) : (qIn w n d).all tq = true := all_tq _ _ fun _ _ => by simp [tq, noLs, noL, h]
theorem itL_noL {zs : List Str} : ∀ d ∈ itL zs, noL d = true := fun d hd => by
  unfold itL at hd
  simp only [List.mem_cons, List.not_mem_nil, or_false] at hd
  rcases hd with rfl | rfl | rfl
  · rfl
  · show noLs _ = true
    rw [List.map_take.symm, strs_noL]
  · exact strs_noL zs
theorem itS_noL : ∀ d ∈ itS, noL d = true := fun d hd => by
  unfold itS at hd
  simp only [List.mem_cons, List.not_mem_nil, or_false] at hd
  rcases hd with rfl | rfl | rfl <;> rfl
theorem strQ_tq (zs : List Str) (n : Nat) : (strQ zs n).all tq = true := all_app (all_app (all_app (qW_tq _ _) (qW_tq _ _)) (all_flat _ _ fun d hd => qIn_tq _ _ (itL_noL d hd))) (all_flat _ _ fun d hd => qIn_tq _ _ (itS_noL d hd))
theorem part_tq {s : S9} {ds : List PyData} (hf : FineS s) (h : okPart s ds) : ds.all tq = true ∧ ds.length ≤ 30000 := by
  have e1 := hf.sm
  cases s with
  | row c xs =>
    cases c with
    | true =>
      obtain rfl : ds = _ := h
      exact ⟨rfl, by decide⟩
    | false =>
      obtain rfl : ds = _ := h
      exact ⟨rfl, by decide⟩
  | pow n x =>
    obtain rfl : ds = _ := h
    exact ⟨rfl, by decide⟩
  | dec cs xs =>
    obtain rfl : ds = _ := h
    refine ⟨rowQ_tq cs, ?_⟩
    rcases row_cases hf rfl with ⟨o, e⟩ | ⟨cs', zk, rest, _, e, hc, _, _⟩
    · cases e
    · rw [dt] at e
      injection e with e
      injection e with _ e
      injection e with e _
      unfold cntsY at hc
      rw [Bool.and_eq_true] at hc
      have ht := of_decide_eq_true hc.1
      have ec : totN cs = totN cs' := by
        have e' : cs.map (fun c => PyData.tuple [.str c.1, .int (c.2 : Nat)]) = cs'.map fun c => PyData.tuple [.str c.1, .int (c.2 : Nat)] := PyData.tuple.inj e
        have g := congrArg (List.map fun d : PyData => match d with | .tuple [_, .int i] => i.toNat | _ => 0) e'
        rw [List.map_map, List.map_map] at g
        unfold totN
        exact congrArg List.sum g
      rw [rowQ_len, ec]
      have : totN cs' ≤ 1000 := ht
      omega
  | leaf l =>
    rw [smS, Bool.and_eq_true] at e1
    cases l with
    | word cs =>
      obtain rfl : ds = _ := h
      have hc : cntsY cs = true := e1.2
      unfold cntsY at hc
      rw [Bool.and_eq_true] at hc
      have ht : totN cs ≤ 1000 := of_decide_eq_true hc.1
      exact ⟨rowQ_tq cs, by rw [rowQ_len]; omega⟩
    | arr o =>
      obtain ⟨ns, hp, rfl⟩ : ∃ ns : List Str, ns.Perm (namesN 6 o) ∧ ds = arrQ ns := h
      have hl : (namesN 6 o).length ≤ 60 := of_decide_eq_true e1.2
      have := hp.length_eq
      refine ⟨all_app (qW_tq _ _) (all_tq _ _ fun _ _ => rfl), ?_⟩
      unfold arrQ qLoc
      rw [List.length_append, qW_len, List.length_map]
      omega
    | walk n s e lo hi =>
      obtain rfl : ds = _ := h
      have z2 : leafZ (.walk n s e lo hi) = true := e1.2
      unfold leafZ at z2
      simp only [Bool.and_eq_true, decide_eq_true_eq] at z2
      obtain ⟨⟨a1, a2⟩, ⟨b1, b2⟩, ⟨c1, c2⟩, ⟨d1, d2⟩, g1, g2⟩ := z2
      refine ⟨walkQ_tq _ _ _ _ _, ?_⟩
      have hw : wkC lo hi ≤ 203 := by unfold wkC; omega
      have : (n.toNat + 1) * (2 * wkC lo hi) ≤ 61 * 406 := Nat.mul_le_mul (by omega) (by omega)
      unfold walkQ walkQ0
      rw [List.length_append, List.length_append, qW_len, vis_len]
      split
      · rw [List.length_append, qW_len, qW_len]
        omega
      · rw [List.length_nil]
        omega
    | str ms ac n =>
      obtain ⟨zs, _, _, _, _, rfl⟩ : okStrs ms n ds := h
      have z2 : leafZ (.str ms ac n) = true := e1.2
      unfold leafZ at z2
      simp only [Bool.and_eq_true, decide_eq_true_eq] at z2
      refine ⟨strQ_tq _ _, ?_⟩
      unfold strQ
      rw [List.length_append, List.length_append, List.length_append, qW_len, qW_len, qIns_len, qIns_len]
      have e1 : (itL zs).length = 3 := rfl
      have e2 : itS.length = 3 := rfl
      rw [e1, e2]
      omega
    | sub n k =>
      obtain rfl : ds = _ := h
      have z1 : n ≤ 1000 := of_decide_eq_true e1.1
      have z2 : k ≤ 1000 := of_decide_eq_true e1.2
      refine ⟨all_app (all_app (qW_tq _ _) (qW_tq _ _)) (qW_tq _ _), ?_⟩
      rw [List.length_append, List.length_append, qW_len, qW_len, qW_len]
      omega
    | cyc n =>
      obtain rfl : ds = _ := h
      have z1 : n ≤ 1000 := of_decide_eq_true e1.1
      have := qRs_len 0 n (by decide) ((["successor", "predecessor"] : List Str).map PyData.str)
      exact ⟨qOwn_tq _ _ _, by unfold qOwn; rw [List.length_map] at this; simp only [List.length_cons, List.length_nil] at this; omega⟩
    | mat n =>
      obtain rfl : ds = _ := h
      have z1 : n ≤ 1000 := of_decide_eq_true e1.1
      have := qRs_len 0 (n * 2) (by decide) ((["partner"] : List Str).map PyData.str)
      exact ⟨qOwn_tq _ _ _, by unfold qOwn; rw [List.length_map] at this; simp only [List.length_cons, List.length_nil] at this; omega⟩
    | perm n d =>
      obtain rfl : ds = _ := h
      have z1 : n ≤ 1000 := of_decide_eq_true e1.1
      have := qRs_len 0 n (by decide) ((["image", "preimage"] : List Str).map PyData.str)
      exact ⟨qOwn_tq _ _ _, by unfold qOwn; rw [List.length_map] at this; simp only [List.length_cons, List.length_nil] at this; omega⟩
    | tree n =>
      obtain rfl : ds = _ := h
      have z1 : n ≤ 1000 := of_decide_eq_true e1.1
      have := qRs_len 1 n (by decide) ((["parent"] : List Str).map PyData.str)
      exact ⟨qOwn_tq _ _ _, by unfold qOwn; rw [List.length_map] at this; simp only [List.length_cons, List.length_nil] at this; omega⟩
/-- a query of a space, as the law lists them -/
def QOf (s : S9) (d : PyData) : Prop := ∃ (path : List PyData) (e : S9) (q ds : List PyData), d = .tuple (.tuple path :: q) ∧ partAt s path = some e ∧ okPart e ds ∧ .tuple q ∈ ds
theorem fine_at : ∀ {p : List PyData} {s e : S9}, FineS s → partAt s p = some e → FineS e
  | [], s, e, h, hp => by
    cases hp
    exact h
  | d :: p, s, e, h, hp => by
    have h' : (match nextS s d with | none => none | some e => partAt e p) = some e := hp
    cases hn : nextS s d with
    | none =>
      rw [hn] at h'
      cases h'
    | some m =>
      rw [hn] at h'
      exact fine_at (h.next hn) h'
theorem mem_sumP {l : List (PyData × S9)} {q : PyData × S9} (h : q ∈ l) : nP q.2 ≤ sumP l := by
  obtain ⟨a, b, rfl⟩ := List.append_of_mem h
  rw [sumP_app, sumP_cons]
  omega
theorem path_len : ∀ {p : List PyData} {s e : S9}, okS s = true → partAt s p = some e → p.length + nP e ≤ nP s
  | [], s, e, _, hp => by
    cases hp
    rw [List.length_nil]
    omega
  | d :: p, s, e, h, hp => by
    have h' : (match nextS s d with | none => none | some e => partAt e p) = some e := hp
    cases hn : nextS s d with
    | none =>
      rw [hn] at h'
      cases h'
    | some m =>
      rw [hn] at h'
      have a := path_len (next_ok h hn) h'
      have b := mem_sumP ((next_iff s d m (okS_d h)).mp hn)
      have c := nP_nest s
      have b : nP m ≤ sumP (nestS s) := b
      rw [List.length_cons]
      omega
theorem path_noL : ∀ {p : List PyData} {s e : S9}, FineS s → partAt s p = some e → noLs p = true
  | [], s, e, h, hp => rfl
  | d :: p, s, e, h, hp => by
    have h' : (match nextS s d with | none => none | some e => partAt e p) = some e := hp
    cases hn : nextS s d with
    | none =>
      rw [hn] at h'
      cases h'
    | some m =>
      rw [hn] at h'
      have a := path_noL (h.next hn) h'
      have b := nest_step h.ti ((next_iff s d m (okS_d h.ok)).mp hn)
      have c : noL d = true := by
        rcases b with ⟨k, _, rfl⟩ | ⟨z, j, _, _, rfl⟩ <;> rfl
      rw [noLs, c, a]
      rfl
end K9
set_option maxRecDepth 100000
set_option maxHeartbeats 8000000
namespace K9
open PySem PySem.Spec PyProof.Rows L2
/-! ### two growing lists -/
def hid (F L : Addr) (H : Hp) : Hp := noR F (noR L H)
theorem hid_sub {F L : Addr} {H : Hp} : Same (hid F L H) H := fun b o e => noR_sub b o (noR_sub b o e)
theorem hid_same {F L : Addr} {H H' : Hp} (S : Same H H') : Same (hid F L H) (hid F L H') := same_noR (same_noR S)
theorem hid_uF {F L : Addr} {H : Hp} {o : HO} : hid F L (upd H F o) = hid F L H := by
  unfold hid noR
  funext b
  by_cases e : b = F
  · rw [if_pos e, if_pos e]
  · rw [if_neg e, if_neg e, upd_ne e]
theorem hid_uL {F L : Addr} {H : Hp} {o : HO} : hid F L (upd H L o) = hid F L H := by
  unfold hid
  rw [noR_upd]
theorem dat_hid {F L : Addr} {H : Hp} {xs ys : List V} (hF : H F = some (.lst xs)) (hL : H L = some (.lst ys)) (ne : F ≠ L) {v : V} {d : PyData} (no : noL d = true) (h : Dat H v d) : Dat (hid F L H) v d := dat_noL (noR_at hF ne) no (dat_noL hL no h)
theorem datAll_hid {F L : Addr} {H : Hp} {xs ys : List V} (hF : H F = some (.lst xs)) (hL : H L = some (.lst ys)) (ne : F ≠ L) {vs : List V} {ds : List PyData} (no : noLs ds = true) (h : DatAll H vs ds) : DatAll (hid F L H) vs ds := dat_noLs (noR_at hF ne) no (dat_noLs hL no h)
theorem prv_hid {F L : Addr} {H : Hp} {xs ys zs : List V} {es : List S9} (hF : H F = some (.lst xs)) (hL : H L = some (.lst ys)) (ne : F ≠ L) (h : PrV H zs es) : PrV (hid F L H) zs es := (h.noR hL).noR (noR_at hF ne)
/-- what stands between two turns -/
structure Two (H : Hp) (F L : Addr) (fs : List PyData) (ls : List Pth) (Hx : Hp) : Prop where
  nF : H F = none
  nL : H L = none
  ne : F ≠ L
  S : Same H Hx
  f : ∃ xs, Hx F = some (.lst xs) ∧ DatAll (hid F L Hx) xs fs
  l : ∃ xs, Hx L = some (.lst xs) ∧ DatAll (hid F L Hx) xs (ls.map pD) ∧ PrV (hid F L Hx) xs (ls.map (·.2))
theorem Two.same {H Hx Hy : Hp} {F L : Addr} {fs : List PyData} {ls : List Pth} (t : Two H F L fs ls Hx) (S : Same Hx Hy) : Two H F L fs ls Hy where
  nF := t.nF
  nL := t.nL
  ne := t.ne
  S := t.S.trans S
  f := by
    obtain ⟨xs, h, d⟩ := t.f
    exact ⟨xs, S _ _ h, d.same (hid_same S)⟩
  l := by
    obtain ⟨xs, h, d, p⟩ := t.l
    exact ⟨xs, S _ _ h, d.same (hid_same S), p.same (hid_same S)⟩
theorem same_off {H Hx : Hp} {a : Addr} {o : HO} (n : H a = none) (S : Same H Hx) : Same H (upd Hx a o) := fun b u e => by
  rw [upd_ne (ne_of_none e n)]
  exact S b u e
theorem Two.setF {H Hx : Hp} {F L : Addr} {fs fs' : List PyData} {ls : List Pth} {ys : List V} (t : Two H F L fs ls Hx) (d : DatAll (hid F L Hx) ys fs') : Two H F L fs' ls (upd Hx F (.lst ys)) where
  nF := t.nF
  nL := t.nL
  ne := t.ne
  S := same_off t.nF t.S
  f := ⟨ys, upd_same, by rw [hid_uF]; exact d⟩
  l := by
    obtain ⟨xs, h, d', p⟩ := t.l
    exact ⟨xs, by rw [upd_ne (Ne.symm t.ne)]; exact h, by rw [hid_uF]; exact d', by rw [hid_uF]; exact p⟩
theorem Two.setL {H Hx : Hp} {F L : Addr} {fs : List PyData} {ls ls' : List Pth} {ys : List V} (t : Two H F L fs ls Hx) (d : DatAll (hid F L Hx) ys (ls'.map pD)) (p : PrV (hid F L Hx) ys (ls'.map (·.2))) : Two H F L fs ls' (upd Hx L (.lst ys)) where
  nF := t.nF
  nL := t.nL
  ne := t.ne
  S := same_off t.nL t.S
  l := ⟨ys, upd_same, by rw [hid_uL]; exact d, by rw [hid_uL]; exact p⟩
  f := by
    obtain ⟨xs, h, d'⟩ := t.f
    exact ⟨xs, by rw [upd_ne t.ne]; exact h, by rw [hid_uL]; exact d'⟩
theorem pD_noL {s : S9} (hf : FineS s) {q : Pth} (h : partAt s q.1 = some q.2) : noL (pD q) = true := by
  have a := path_noL hf h
  have b := dt_noL q.2 (fine_at hf h).ti
  unfold pD
  rw [noL, noLs, noLs, noLs, noL, a, b]
  rfl
/-- the questions of a part, with its path ahead -/
def qOf (path : List PyData) : PyData → PyData
  | .tuple q => .tuple (.tuple path :: q)
  | d => d
theorem qOf_noL {path : List PyData} {d : PyData} (hp : noLs path = true) (h : tq d = true) : noL (qOf path d) = true := by
  cases d with
  | tuple q =>
    have h : (noLs q && decide (q.length ≤ 3)) = true := h
    rw [Bool.and_eq_true] at h
    show noLs (.tuple path :: q) = true
    rw [noLs, noL, hp, h.1]
    rfl
  | _ => cases h
def spQueries : Sp := fun vs H Q _ => ∃ (v : V) (s : S9), vs = [v] ∧ Dat H v (dt s) ∧ FzS H v s ∧ FineS s ∧ nP s ≤ 100 ∧
  ∀ (a : Addr) (xs : List V) (ds : List PyData) (H' : Hp), H a = none → Same H H' → H' a = some (.lst xs) → DatAll H' xs ds → ds.length ≤ 30000 * nP s → noLs ds = true → (∀ d ∈ ds, QOf s d) → Q (.ref a) H'
abbrev s_queries : Stmt := top 43
section
variable {P : Program} {w : World} {K : PySem.W.Frag} {mg : Str → Option Value} {base : Heap}
theorem sc_queries : FnScope ["_law_domain", "_law_found", "_law_left", "_law_path", "_law_part", "_law_query", "_law_step", "_law_inner"] ["_law_domain"] (defScope s_queries) := ⟨rfl, rfl, rfl, by decide +kernel, rfl, by decide +kernel, by decide +kernel⟩
theorem okl_queries {f fN fP : Addr} {fd fdN fdP : FuncData} (F : Fun K "_law_queries" "_law_queries" s_queries f fd) (T : Nm mg)
    (DP : DefOk K mg "_law_part_queries" s_part_queries ["_law_part"] fP fdP) (GP : FnOk P w K mg base CX0 9 fP fdP ["_law_part"] spPartQs)
    (D : DefOk K mg "_law_nested" s_nested ["_law_part"] fN fdN) : FnOk P w K mg base CX0 10 f fd ["_law_domain"] spQueries := by
  have G : FnOk P w K mg base CX0 1 fN fdN ["_law_part"] spNested := ok_nested D.F T
  refine F.ok sc_queries (fun vs H Q E h => ?_) (fun cdv A outer s H vs Q E hr h => ?_)
  · obtain ⟨v, s, rfl, _⟩ := h
    rfl
  · obtain ⟨v, sp, rfl, hv, hfz, hfi, hnP, k⟩ := h
    have hu0 := hr.units0
    have hr1 : Room 1 _ := hr.mono (by decide)
    refine ⟨_, (pss_cons (ps_par (i := 1) (j := 2) rfl sc_queries.nd rfl rfl (by decide) rfl rfl (pa_cons (pe_lst pa_nil) (pa_cons (pe_lst (pa_cons (pe_tup (pa_cons (pe_tup pa_nil) (pa_cons (pv 0) pa_nil))) pa_nil)) pa_nil)) (by rfl))
      (pss_cons (ps_while PassesOwn.never (pt_cmpR (op_nempty hu0) (pv 2) (pe_lst pa_nil) (nomark _))
        (pss_cons (ps_asg (pe_bm PySem.F.plainAttrs_list PySem.F.slot_list_pop PySem.F.type_list_pop mt_popAt (pv 2) (pa_cons pe_int pa_nil)) (pg_tup rfl (pgs_cons (pg_name (i := 3) sc_queries.nd rfl (Or.inr rfl)) (pgs_cons (pg_name (i := 4) sc_queries.nd rfl (Or.inl rfl)) pgs_nil))))
        (pss_cons (ps_expr (pe_bm PySem.F.plainAttrs_list PySem.F.slot_list_extend PySem.F.type_list_extend mt_extend (pv 1) (pa_cons (pe_lc (own := [("_law_query", 5)]) (g := (gName 5)) (tt := tYes) (te := tOp (rCatA K) (tTup (tCons (tVar 3) tNil)) (tVar 5)) rfl sc_queries.nd (pi_list (pe_call GP hr rfl DP.g DP.F.kp DP.b .nil pass0 (pa_cons (pv 4) pa_nil))) (blkOk_by (N := ["_law_domain", "_law_found", "_law_left", "_law_path", "_law_part", "_law_query", "_law_step", "_law_inner"]) (sc := defScope s_queries) (by decide +kernel))
          (fun _ _ _ _ _ => (pg_name (i := 5) sc_queries.nd rfl (Or.inl rfl))) (fun _ _ _ _ _ => pts_nil) (fun _ _ _ _ _ => (pe_op op_catA (pe_tup (pa_cons (pv 3) pa_nil)) (pv 5)))) pa_nil)))
        (pss_one (ps_expr (pe_bm PySem.F.plainAttrs_list PySem.F.slot_list_extend PySem.F.type_list_extend mt_extend (pv 2) (pa_cons (pe_lc (own := [("_law_step", 6), ("_law_inner", 7)]) (g := (gTup K 2 (gCons (gName 6) (gCons (gName 7) gNil)))) (tt := tYes) (te := tTup (tCons (tOp (rCatA K) (tVar 3) (tTup (tCons (tVar 6) tNil))) (tCons (tVar 7) tNil))) rfl sc_queries.nd (pi_list (pe_call G hr1 rfl D.g D.F.kp D.b .nil pass0 (pa_cons (pv 4) pa_nil))) (blkOk_by (N := ["_law_domain", "_law_found", "_law_left", "_law_path", "_law_part", "_law_query", "_law_step", "_law_inner"]) (sc := defScope s_queries) (by decide +kernel))
          (fun _ _ _ _ _ => (pg_tup rfl (pgs_cons (pg_name (i := 6) sc_queries.nd rfl (Or.inl rfl)) (pgs_cons (pg_name (i := 7) sc_queries.nd rfl (Or.inl rfl)) pgs_nil)))) (fun _ _ _ _ _ => pts_nil) (fun _ _ _ _ _ => (pe_tup (pa_cons (pe_op op_catA (pv 3) (pe_tup (pa_cons (pv 6) pa_nil))) (pa_cons (pv 7) pa_nil))))) pa_nil)))))))
      (pss_one (ps_ret (pv 1))))), ?_⟩
    refine ⟨(by show 0 ≤ sizeLine; decide), fun F nF => ⟨(by show 0 ≤ sizeLine; decide), fun t0 n0 => ⟨_, rfl, (by show 2 ≤ sizeLine; decide), fun t1 n1 => ⟨(by show 1 ≤ sizeLine; decide), fun L nL => ⟨_, _, rfl, ?_⟩⟩⟩⟩⟩
    have y1 := same_new (o := HO.lst []) nF
    have y2 := same_new (o := HO.tup []) n0
    have y3 := same_new (o := HO.tup [.ref t0, v]) n1
    have y4 := same_new (o := HO.lst [.ref t1]) nL
    have u1 : upd H F (.lst []) F = some (.lst []) := upd_same
    have u2 : upd (upd H F (.lst [])) t0 (.tup []) t0 = some (.tup []) := upd_same
    have u3 : upd (upd (upd H F (.lst [])) t0 (.tup [])) t1 (.tup [.ref t0, v]) t1 = some (.tup [.ref t0, v]) := upd_same
    have u4 : upd (upd (upd (upd H F (.lst [])) t0 (.tup [])) t1 (.tup [.ref t0, v])) L (.lst [.ref t1]) L = some (.lst [.ref t1]) := upd_same
    have S4 := ((y1.trans y2).trans y3).trans y4
    have nL0 := ((y1.trans y2).trans y3).free nL
    have FL : F ≠ L := L2.ne_of_none (y3 _ _ (y2 _ _ u1)) nL
    have u1 := y4 _ _ (y3 _ _ (y2 _ _ u1))
    have u2 := y4 _ _ (y3 _ _ u2)
    have u3 := y4 _ _ u3
    generalize upd (upd (upd (upd H F (.lst [])) t0 (.tup [])) t1 (.tup [.ref t0, v])) L (.lst [.ref t1]) = H4 at u1 u2 u3 u4 S4 ⊢
    have T0 : Two H F L [] [([], sp)] H4 := {
      nF := nF
      nL := nL0
      ne := FL
      S := S4
      f := ⟨[], u1, .nil⟩
      l := ⟨[.ref t1], u4, .cons (dat_hid u1 u4 FL (pD_noL (s := sp) hfi (q := ([], sp)) rfl) (.tup (TP.of u3) (.cons (.tup (TP.of u2) .nil) (.cons (hv.same S4) .nil)))) .nil, prv_hid u1 u4 FL (PrV.one (TP.of u3) (hfz.same S4))⟩ }
    clear u1 u2 u3 u4 y1 y2 y3 y4
    refine ⟨fun m σ Hx => ∃ (fs : List PyData) (ls : List Pth) (x3 x4 : Option V), σ = [some v, some (.ref F), some (.ref L), x3, x4, none, none, none] ∧ Two H F L fs ls Hx ∧ (∀ q ∈ ls, partAt sp q.1 = some q.2) ∧ fs.length + 30000 * sumL ls ≤ 30000 * nP sp ∧ noLs fs = true ∧ (∀ d ∈ fs, QOf sp d) ∧ m = sumL ls,
      ⟨_, [], [([], sp)], none, none, rfl, T0, (fun q hq => by
        rw [List.mem_singleton] at hq
        subst hq
        rfl), (by show 0 + 30000 * (nP sp + 0) ≤ _; omega), rfl, (fun d hd => by cases hd), rfl⟩, ?_⟩
    rintro m σ Hx ⟨fs, ls, x3, x4, rfl, t, htr, hcnt, hno, hQ, rfl⟩
    obtain ⟨ys, hL, dL, pL⟩ := t.l
    refine ⟨_, rfl, (by show 0 ≤ sizeLine; decide), fun e0 ne0 => ?_⟩
    have Se := same_new (o := HO.lst []) ne0
    have te := t.same Se
    have ue : upd Hx e0 (.lst []) e0 = some (.lst []) := upd_same
    generalize upd Hx e0 (.lst []) = H5 at Se te ue ⊢
    have hL5 := Se _ _ hL
    refine ⟨L, e0, ys, rfl, rfl, .inl ⟨hL5, ue⟩, _, rfl, ?_⟩
    cases ls with
    | nil =>
      cases dL
      refine if_f rfl ?_
      obtain ⟨xs, hF, dF⟩ := te.f
      exact ⟨_, rfl, k F xs fs H5 nF te.S hF (dF.same hid_sub) (by omega) hno hQ⟩
    | cons q ls =>
      cases dL with
      | @cons y ys _ _ dy dys =>
      refine if_t rfl ⟨fun σ' H' => ∃ m', m' < sumL (q :: ls) ∧ ∃ (fs : List PyData) (ls : List Pth) (x3 x4 : Option V), σ' = [some v, some (.ref F), some (.ref L), x3, x4, none, none, none] ∧ Two H F L fs ls H' ∧ (∀ q ∈ ls, partAt sp q.1 = some q.2) ∧ fs.length + 30000 * sumL ls ≤ 30000 * nP sp ∧ noLs fs = true ∧ (∀ d ∈ fs, QOf sp d) ∧ m' = sumL ls, fun σ' H' h => h, ?_⟩
      have hmore := sumL_more q ls
      have hlen2 := sumL_len (ls ++ moreP q)
      rw [List.length_append] at hlen2
      have hq := htr q List.mem_cons_self
      have hfe := fine_at hfi hq
      have hpn := path_noL hfi hq
      have dys5 := dys.same (hid_same (F := F) (L := L) Se)
      have dy5 := dy.same (hid_same (F := F) (L := L) Se)
      have pL5 := pL.same (hid_same (F := F) (L := L) Se)
      have pLt : PrV (hid F L H5) ys (ls.map (·.2)) := ⟨Nat.succ.inj pL5.1, fun j e he => pL5.2 (j + 1) e he⟩
      obtain ⟨ty, w0, v2, ey, hty, fv2⟩ := pL5.2 0 q.2 rfl
      obtain rfl : y = .ref ty := Option.some.inj ey
      obtain ⟨ty', ws, ea, hty', dws⟩ := dat_tup (show Dat (hid F L H5) (.ref ty) (.tuple [.tuple q.1, dt q.2]) from dy5)
      cases ea
      have eu := hty.uniq hty'
      subst eu
      obtain ⟨w1, w2, ew, d1, dv2⟩ := dat_two dws
      cases ew
      obtain ⟨tp, zs, rfl, htp, dzs⟩ := dat_tup d1
      have hzl := dzs.len
      refine ⟨_, rfl, .inl ⟨rfl, _, SqL.of hL5⟩, L, _, 0, 0, .ref ty, rfl, rfl, hL5, by decide, by decide, by simp [seqIndex?], rfl, ?_⟩
      have t6 := te.setL (ys := ys) (ls' := ls) dys5 pLt
      have hty6 : TP (hid F L (upd H5 L (.lst ys))) ty [.ref tp, v2] := by rw [hid_uL]; exact hty
      have htp6 : TP (hid F L (upd H5 L (.lst ys))) tp zs := by rw [hid_uL]; exact htp
      have dzs6 : DatAll (hid F L (upd H5 L (.lst ys))) zs q.1 := by rw [hid_uL]; exact dzs
      have dv6 : Dat (hid F L (upd H5 L (.lst ys))) v2 (dt q.2) := by rw [hid_uL]; exact dv2
      have fv6 : FzS (hid F L (upd H5 L (.lst ys))) v2 q.2 := by rw [hid_uL]; exact fv2
      show gTup _ _ _ _ _ (upd H5 L (.lst ys)) _
      generalize upd H5 L (.lst ys) = H6 at t6 hty6 htp6 dzs6 dv6 fv6 ⊢
      refine ⟨ty, _, rfl, sqT_rd (upR hty6 hid_sub), rfl, _, _, rfl, _, _, rfl, rfl, ?_⟩
      clear hty6 hty htp dzs dv2 dys5 dy5 fv2 pL5 dws d1 hty'
      -- found.extend
      obtain ⟨xs0, hF0, dF0⟩ := t6.f
      refine ⟨_, rfl, .inl ⟨rfl, _, SqL.of hF0⟩, _, rfl, v2, q.2, rfl, dv6.same hid_sub, hfe, fun N ws es H7 nN S7 hN dN hok => ⟨N, rfl, ⟨_, SqL.of hN⟩, fun M nM => lc_list (K := K) (a := N) (xs := ws) (fun j Hz => Gr H7 M ((es.take j).map (qOf q.1)) Hz) (by rw [List.take_zero]; exact Gr.start nM) (fun j Hz _ g => SqL.of (g.2.1 _ _ hN)) ?_ ?_⟩⟩
      · rintro j x Hz hj gz
        obtain ⟨d, hd, dx⟩ := dN.get hj
        have hm := List.mem_of_getElem? hd
        have htq := List.all_eq_true.mp (part_tq hfe hok).1 d hm
        have hle := (part_tq hfe hok).2
        obtain ⟨qd, rfl⟩ : ∃ qd, d = .tuple qd := by
          cases d with
          | tuple qd => exact ⟨qd, rfl⟩
          | _ => cases htq
        have hq3 : qd.length ≤ 3 := by
          have h : (noLs qd && decide (qd.length ≤ 3)) = true := htq
          rw [Bool.and_eq_true] at h
          exact of_decide_eq_true h.2
        have S6z := S7.trans gz.2.1
        obtain ⟨bx, xq, rfl, hbx, dxq⟩ := dat_tup (dx.same gz.2.1)
        have hxq := dxq.len
        refine ⟨rfl, ?_⟩
        dsimp only [tYes]
        refine if_t rfl ⟨_, rfl, (by show 1 ≤ sizeLine; decide), fun c1 nc1 => ⟨_, rfl, ?_⟩⟩
        have s1 := same_new (o := HO.tup [.ref tp]) nc1
        refine catA_of (TP.of upd_same) (upR hbx s1) (by rw [sizeLine_eq]; show 1 + xq.length ≤ _; omega) fun c2 Hc Sc hc2 => ?_
        have s12 := s1.trans Sc
        have dz : DatAll Hc [.ref c2] [qOf q.1 (.tuple qd)] := .cons (.tup hc2 (.cons (.tup (upR (upR (upR htp6 hid_sub) S6z) s12) (((dzs6.same hid_sub).same S6z).same s12)) (dxq.same s12))) .nil
        obtain ⟨xs', hM, hxl', _, g'⟩ := gz.add s12 dz (by
          show noLs [_] = true
          rw [noLs, qOf_noL hpn htq]
          rfl)
        rw [List.length_map, List.length_take] at hxl'
        refine ⟨xs', hM, (by rw [sizeLine_eq]; omega), ?_⟩
        rw [take_map_succ hd]
        exact g'
      rintro H8 g8
      have hle := (part_tq hfe hok).2
      have htqs := List.all_eq_true.mp (part_tq hfe hok).1
      rw [dN.len, List.take_length] at g8
      obtain ⟨ms, hM, hml, dM⟩ := g8.fin
      rw [List.length_map] at hml
      have S68 := S7.trans g8.2.1
      have t8 := t6.same S68
      obtain ⟨xs8, hF8, dF8⟩ := t8.f
      obtain ⟨ys8, hL8, _, _⟩ := t8.l
      have hxl8 := dF8.len
      have nnew : noLs (es.map (qOf q.1)) = true := noLs_iff.mpr fun d hd => by
        obtain ⟨u, hu, rfl⟩ := List.mem_map.mp hd
        exact qOf_noL hpn (htqs u hu)
      have hsum : sumL (q :: ls) = sumL (ls ++ moreP q) + 1 := hmore.symm
      refine ⟨F, M, xs8, ms, rfl, rfl, hF8, hM, (by rw [sizeLine_eq]; omega), ?_⟩
      have t9 : Two H F L (fs ++ es.map (qOf q.1)) ls (upd H8 F (.lst (xs8 ++ ms))) := t8.setF (datAll_append dF8 (datAll_hid hF8 hL8 t8.ne nnew dM))
      have S68h := hid_same (F := F) (L := L) S68
      have htp9 : TP (hid F L (upd H8 F (.lst (xs8 ++ ms)))) tp zs := by rw [hid_uF]; exact upR htp6 S68h
      have dzs9 : DatAll (hid F L (upd H8 F (.lst (xs8 ++ ms)))) zs q.1 := by rw [hid_uF]; exact dzs6.same S68h
      have dv9 : Dat (hid F L (upd H8 F (.lst (xs8 ++ ms)))) v2 (dt q.2) := by rw [hid_uF]; exact dv6.same S68h
      have fv9 : FzS (hid F L (upd H8 F (.lst (xs8 ++ ms)))) v2 q.2 := by rw [hid_uF]; exact fv6.same S68h
      generalize upd H8 F (.lst (xs8 ++ ms)) = H9 at t9 htp9 dzs9 dv9 fv9 ⊢
      clear t8 t6 htp6 dzs6 dv6 fv6 S68h dF8 hF8 hL8 dM hM g8
      -- left.extend
      have htp9 := upR htp9 hid_sub
      have dzs9 := dzs9.same hid_sub
      have dv9 := dv9.same hid_sub
      have fv9 := fv9.same hid_sub
      obtain ⟨ys3, hL9, dL9, _⟩ := t9.l
      have mt : ∀ u ∈ moreP q, partAt sp u.1 = some u.2 := fun u hu => by
        obtain ⟨z, hz, rfl⟩ := List.mem_map.mp hu
        rw [partAt_snoc, hq]
        exact (next_iff _ _ _ (okS_d hfe.ok)).mpr hz
      have ml : (nestS q.2).length = (moreP q).length := by
        unfold moreP
        rw [List.length_map]
      refine ⟨_, rfl, .inl ⟨rfl, _, SqL.of hL9⟩, _, rfl, v2, q.2, rfl, dv9, hfe.ok, hfe.ti, fv9, fun N ws HA nN SA hN dN pN => ⟨N, rfl, ⟨_, SqL.of hN⟩, fun M nM => lc_list (K := K) (a := N) (xs := ws) (fun j Hz => Gr HA M (((nestS q.2).take j).map fun u => pD (q.1 ++ [u.1], u.2)) Hz ∧ PrL Hz M (((nestS q.2).take j).map (·.2))) ⟨Gr.start nM, PrL.start⟩ (fun j Hz _ g => SqL.of (g.1.2.1 _ _ hN)) ?_ ?_⟩⟩
      · rintro j x Hz hj ⟨gz, pz⟩
        obtain ⟨d, hd, dx⟩ := dN.get hj
        have hd' : ((nestS q.2).map prD)[j]? = some d := hd
        rw [List.getElem?_map] at hd'
        obtain ⟨u, hu, rfl⟩ := Option.map_eq_some_iff.mp hd'
        have hjl := (List.getElem?_eq_some_iff.mp hu).1
        have SAz := SA.trans gz.2.1
        obtain ⟨bx, w1, w2, ex, hbx, fw2⟩ := pN.2 j u.2 (by rw [List.getElem?_map, hu]; rfl)
        rw [hj] at ex
        obtain rfl := Option.some.inj ex
        obtain ⟨bx', wx, ea, hbx', dwx⟩ := dat_tup (show Dat HA (.ref bx) (.tuple [u.1, dt u.2]) from dx)
        cases ea
        have eu := hbx.uniq hbx'
        subst eu
        obtain ⟨w1', w2', ew, dw1, dw2⟩ := dat_two dwx
        cases ew
        have hp2 : partAt sp (q.1 ++ [u.1]) = some u.2 := mt (q.1 ++ [u.1], u.2) (List.mem_map.mpr ⟨u, List.mem_of_getElem? hu, rfl⟩)
        refine ⟨bx, _, rfl, sqT_rd (upR hbx gz.2.1), rfl, _, _, rfl, _, _, rfl, rfl, rfl, ?_⟩
        dsimp only [tYes]
        refine if_t rfl ?_
        refine ⟨_, rfl, _, rfl, (by show 1 ≤ sizeLine; decide), fun c1 nc1 => ?_⟩
        have s1 := same_new (o := HO.tup [w1]) nc1
        have hzl' : zs.length = q.1.length := hzl
        refine catA_of (upR (upR htp9 SAz) s1) (TP.of upd_same) ?_ fun c2 Hc Sc hc2 => ⟨_, rfl, (by show 2 ≤ sizeLine; decide), fun c3 nc3 => ?_⟩
        · have hpl := path_len hfi.ok hq
          rw [sizeLine_eq]
          show zs.length + 1 ≤ _
          omega
        have s3 := same_new (o := HO.tup [.ref c2, w2]) nc3
        have u3 : upd Hc c3 (.tup [.ref c2, w2]) c3 = some (.tup [.ref c2, w2]) := upd_same
        have s13 := (s1.trans Sc).trans s3
        have hc2 := upR hc2 s3
        generalize upd Hc c3 (.tup [.ref c2, w2]) = He at s3 u3 s13 hc2 ⊢
        have szx := gz.2.1.trans s13
        have dz : DatAll He [.ref c3] [pD (q.1 ++ [u.1], u.2)] := .cons (.tup (TP.of u3) (.cons (.tup hc2 (datAll_append ((dzs9.same SAz).same s13) (.cons (dw1.same szx) .nil))) (.cons (dw2.same szx) .nil))) .nil
        obtain ⟨xs', hM, hxl', _, g'⟩ := gz.add s13 dz (by rw [noLs, pD_noL hfi (q := (q.1 ++ [u.1], u.2)) hp2]; rfl)
        rw [List.length_map, List.length_take] at hxl'
        refine ⟨xs', hM, (by rw [sizeLine_eq]; omega), ?_, ?_⟩
        · rw [List.take_add_one, hu, List.map_append]
          exact g'
        · rw [List.take_add_one, hu, List.map_append]
          exact (pz.same s13).add hM (PrV.one (TP.of u3) (fw2.same szx))
      · rintro Hz ⟨gz, pz⟩
        have wl : ws.length = (nestS q.2).length := by
          rw [dN.len]
          exact List.length_map ..
        rw [wl, List.take_length] at gz pz
        obtain ⟨ms', hM', hml', dM'⟩ := gz.fin
        obtain ⟨ms2, hM2, pM⟩ := pz
        rw [hM'] at hM2
        cases hM2
        rw [List.length_map] at hml'
        have dM2 : DatAll Hz ms' ((moreP q).map pD) := by
          unfold moreP
          rw [List.map_map]
          exact dM'
        have pM2 : PrV Hz ms' ((moreP q).map (·.2)) := by
          unfold moreP
          rw [List.map_map]
          exact pM
        have tA := t9.same (SA.trans gz.2.1)
        obtain ⟨ys4, hLA, dLA, pLA⟩ := tA.l
        obtain ⟨xsA, hFA, _⟩ := tA.f
        have hyl := dLA.len
        rw [List.length_map] at hyl
        refine ⟨L, M, ys4, ms', rfl, rfl, hLA, hM', (by rw [sizeLine_eq]; omega), ?_⟩
        refine ⟨sumL (ls ++ moreP q), by omega, fs ++ es.map (qOf q.1), ls ++ moreP q, _, _, rfl, tA.setL ?_ ?_, ?_, ?_, ?_, ?_, rfl⟩
        · rw [List.map_append]
          exact datAll_append dLA (datAll_hid hFA hLA tA.ne (noLs_iff.mpr fun d hd => by
            obtain ⟨u, hu, rfl⟩ := List.mem_map.mp hd
            exact pD_noL hfi (mt u hu)) dM2)
        · rw [List.map_append]
          exact pLA.app (prv_hid hFA hLA tA.ne pM2)
        · intro u hu
          rcases List.mem_append.mp hu with hu | hu
          · exact htr u (List.mem_cons_of_mem _ hu)
          · exact mt u hu
        · rw [List.length_append, List.length_map]
          omega
        · exact noLs_iff.mpr fun d hd => by
            rcases List.mem_append.mp hd with hd | hd
            · exact noLs_iff.mp hno d hd
            · exact noLs_iff.mp nnew d hd
        · intro d hd
          rcases List.mem_append.mp hd with hd | hd
          · exact hQ d hd
          · obtain ⟨u, hu, rfl⟩ := List.mem_map.mp hd
            have htq := htqs u hu
            cases u with
            | tuple qd => exact ⟨q.1, q.2, qd, es, rfl, hq, hok, hu⟩
            | _ => cases htq
end
end K9
set_option maxRecDepth 100000
set_option maxHeartbeats 4000000
namespace K9
open PySem PySem.Spec PyProof.Rows L2
/-! ### values as the makers give them -/
mutual
def fineB (s : Nat) : PyData → Bool
  | .int i => decide (i.natAbs < 10 ^ (40 + s))
  | .str x => x.cps.toList.all (fun c => decide (c < 128)) && decide (x.length ≤ 200 * (s + 1))
  | .list l => decide (1 ≤ s) && fineAll s l
  | .tuple l => fineAll s l
  | .dict kv => kv.isEmpty
  | .none => true
  | .bool _ => true
def fineAll (s : Nat) : List PyData → Bool
  | [] => true
  | d :: ds => fineB s d && fineAll s ds
end
mutual
def mass : PyData → Nat
  | .str x => 1 + x.cps.size
  | .list l => 1 + massAll l
  | .tuple l => 1 + massAll l
  | .dict _ => 1
  | .none => 1
  | .bool _ => 1
  | .int _ => 1
def massAll : List PyData → Nat
  | [] => 0
  | d :: ds => mass d + massAll ds
end
theorem fineAll_iff {s : Nat} : ∀ {l : List PyData}, fineAll s l = true ↔ ∀ d ∈ l, fineB s d = true
  | [] => by simp [fineAll]
  | a :: l => by simp [fineAll, fineAll_iff (l := l)]
theorem massAll_append : ∀ (a b : List PyData), massAll (a ++ b) = massAll a + massAll b
  | [], b => by simp [massAll]
  | x :: a, b => by
    rw [List.cons_append, massAll, massAll, massAll_append a b]
    omega
theorem depthAll_append : ∀ (a b : List PyData), PyData.depthAll (a ++ b) = max (PyData.depthAll a) (PyData.depthAll b)
  | [], b => by simp [PyData.depthAll]
  | x :: a, b => by
    rw [List.cons_append, PyData.depthAll, PyData.depthAll, depthAll_append a b]
    omega
theorem mass_pos (d : PyData) : 1 ≤ mass d := by
  cases d <;> simp only [mass] <;> omega
mutual
theorem fine_bulk {s : Nat} : ∀ d : PyData, fineB s d = true → d.bulk + 1 ≤ mass d
  | .str x, _ => by
    simp only [PyData.bulk, mass]
    omega
  | .list l, h => by
    have z := fine_bulkAll l (by rw [fineB, Bool.and_eq_true] at h; exact h.2)
    simp only [PyData.bulk, mass]
    omega
  | .tuple l, h => by
    have z := fine_bulkAll l (by simpa only [fineB] using h)
    simp only [PyData.bulk, mass]
    omega
  | .dict kv, h => by
    have e : kv = [] := by simpa [fineB] using h
    subst e
    simp [PyData.bulk, PyData.bulkKv, mass]
  | .none, _ => by simp [PyData.bulk, mass]
  | .bool _, _ => by simp [PyData.bulk, mass]
  | .int _, _ => by simp [PyData.bulk, mass]
theorem fine_bulkAll {s : Nat} : ∀ l : List PyData, fineAll s l = true → PyData.bulkAll l ≤ massAll l
  | [], _ => by simp [PyData.bulkAll, massAll]
  | d :: ds, h => by
    have h' : fineB s d = true ∧ fineAll s ds = true := by simpa [fineAll] using h
    have z := fine_bulk d h'.1
    have y := fine_bulkAll ds h'.2
    rw [PyData.bulkAll, massAll]
    omega
end
mutual
theorem fine_int {s : Nat} (hs : s ≤ 10) : ∀ d : PyData, fineB s d = true → okInt d
  | .int i, h => by
    have h' : i.natAbs < 10 ^ (40 + s) := by simpa [fineB] using h
    simp only [okInt]
    exact Nat.lt_of_lt_of_le h' (Nat.pow_le_pow_right (by decide) (by omega))
  | .list l, h => by
    simp only [okInt]
    exact fine_ints hs l (by rw [fineB, Bool.and_eq_true] at h; exact h.2)
  | .tuple l, h => by
    simp only [okInt]
    exact fine_ints hs l (by simpa only [fineB] using h)
  | .str _, _ => by simp [okInt]
  | .dict _, _ => by simp [okInt]
  | .none, _ => by simp [okInt]
  | .bool _, _ => by simp [okInt]
theorem fine_ints {s : Nat} (hs : s ≤ 10) : ∀ l : List PyData, fineAll s l = true → okInts l
  | [], _ => by simp [okInts]
  | d :: ds, h => by
    have h' : fineB s d = true ∧ fineAll s ds = true := by simpa [fineAll] using h
    simp only [okInts]
    exact ⟨fine_int hs d h'.1, fine_ints hs ds h'.2⟩
end
mutual
theorem fine_short {s : Nat} (hs : s ≤ 10) : ∀ d : PyData, fineB s d = true → d.leavesShort 60 = true
  | .int i, h => by
    have h' : i.natAbs < 10 ^ (40 + s) := by simpa [fineB] using h
    simp only [PyData.leavesShort]
    have z := int_text_length_le10 (a := i) (k := 40 + s) (by omega) h'
    refine decide_eq_true ?_
    simp only [PyData.shown]
    rw [PySem.ofString_length]
    omega
  | .str x, h => by
    have h' : x.cps.toList.all (fun c => decide (c < 128)) = true := by
      rw [fineB, Bool.and_eq_true] at h
      exact h.1
    simp only [PyData.leavesShort, List.all_eq_true, decide_eq_true_eq] at h' ⊢
    intro c hc
    have := h' c hc
    omega
  | .list l, h => by
    simp only [PyData.leavesShort]
    exact fine_shorts hs l (by rw [fineB, Bool.and_eq_true] at h; exact h.2)
  | .tuple l, h => by
    simp only [PyData.leavesShort]
    exact fine_shorts hs l (by simpa only [fineB] using h)
  | .dict kv, h => by
    have e : kv = [] := by simpa [fineB] using h
    subst e
    simp [PyData.leavesShort, PyData.leavesShortKv]
  | .none, _ => by simp [PyData.leavesShort]
  | .bool _, _ => by simp [PyData.leavesShort]
theorem fine_shorts {s : Nat} (hs : s ≤ 10) : ∀ l : List PyData, fineAll s l = true → PyData.leavesShortAll 60 l = true
  | [], _ => by simp [PyData.leavesShortAll]
  | d :: ds, h => by
    have h' : fineB s d = true ∧ fineAll s ds = true := by simpa [fineAll] using h
    simp only [PyData.leavesShortAll, Bool.and_eq_true]
    exact ⟨fine_short hs d h'.1, fine_shorts hs ds h'.2⟩
end
/-- what a maker gives: fine, and no larger than m, no deeper than n -/
structure Fine (s m n : Nat) (d : PyData) : Prop where
  f : fineB s d = true
  m : mass d ≤ m
  n : d.depth ≤ n
theorem Fine.mono {s m n m' n' : Nat} {d : PyData} (F : Fine s m n d) (hm : m ≤ m') (hn : n ≤ n') : Fine s m' n' d := ⟨F.f, Nat.le_trans F.m hm, Nat.le_trans F.n hn⟩
theorem tup_fine {s m n : Nat} {ds : List PyData} (h : ∀ d ∈ ds, fineB s d = true) (hm : massAll ds ≤ m) (hn : PyData.depthAll ds ≤ n) : Fine s (m + 1) (n + 1) (.tuple ds) := by
  refine ⟨?_, ?_, ?_⟩
  · rw [fineB]
    exact fineAll_iff.mpr h
  · simp only [mass]
    omega
  · simp only [PyData.depth]
    omega
mutual
theorem fine_up {s : Nat} : ∀ d : PyData, fineB s d = true → fineB (s + 1) d = true
  | .int i, h => by
    rw [fineB] at h ⊢
    exact decide_eq_true (Nat.lt_of_lt_of_le (of_decide_eq_true h) (Nat.pow_le_pow_right (by decide) (by omega)))
  | .str x, h => by
    rw [fineB, Bool.and_eq_true] at h
    rw [fineB, h.1]
    have := of_decide_eq_true h.2
    exact decide_eq_true (by omega)
  | .list l, h => by
    rw [fineB, Bool.and_eq_true] at h ⊢
    exact ⟨decide_eq_true (by omega), fine_ups l h.2⟩
  | .tuple l, h => by
    rw [fineB] at h ⊢
    exact fine_ups l h
  | .dict kv, h => by
    rw [fineB] at h ⊢
    exact h
  | .none, _ => by rw [fineB]
  | .bool _, _ => by rw [fineB]
theorem fine_ups {s : Nat} : ∀ l : List PyData, fineAll s l = true → fineAll (s + 1) l = true
  | [], _ => rfl
  | d :: l, h => by
    have h' : fineB s d = true ∧ fineAll s l = true := by simpa [fineAll] using h
    rw [fineAll, fine_up d h'.1, fine_ups l h'.2]
    rfl
end
theorem Fine.up {s m n : Nat} {d : PyData} (F : Fine s m n d) : Fine (s + 1) m n d := ⟨fine_up d F.f, F.m, F.n⟩
/-- a list of fine things, its mass, its depth -/
structure FineL (s m n : Nat) (ds : List PyData) : Prop where
  f : ∀ d ∈ ds, fineB s d = true
  m : massAll ds ≤ m
  n : PyData.depthAll ds ≤ n
theorem FineL.tup {s m n : Nat} {ds : List PyData} (F : FineL s m n ds) : Fine s (m + 1) (n + 1) (.tuple ds) := tup_fine F.f F.m F.n
theorem FineL.lst {s m n : Nat} {ds : List PyData} (F : FineL s m n ds) : Fine (s + 1) (m + 1) (n + 1) (.list ds) := by
  refine ⟨?_, ?_, ?_⟩
  · rw [fineB, Bool.and_eq_true]
    exact ⟨decide_eq_true (by omega), fine_ups _ (fineAll_iff.mpr F.f)⟩
  · have := F.m
    simp only [mass]
    omega
  · have := F.n
    simp only [PyData.depth]
    omega
theorem Fine.inv {s m n : Nat} {ds : List PyData} (F : Fine s m n (.tuple ds)) : 1 ≤ m ∧ 1 ≤ n ∧ FineL s (m - 1) (n - 1) ds := by
  have h1 := F.f
  have h2 := F.m
  have h3 := F.n
  rw [fineB] at h1
  simp only [mass] at h2
  simp only [PyData.depth] at h3
  exact ⟨by omega, by omega, fineAll_iff.mp h1, by omega, by omega⟩
theorem FineL.app {s m n m' n' : Nat} {ds es : List PyData} (F : FineL s m n ds) (G : FineL s m' n' es) : FineL s (m + m') (max n n') (ds ++ es) := by
  refine ⟨fun d hd => (List.mem_append.mp hd).elim (F.f d) (G.f d), ?_, ?_⟩
  · have a := F.m
    have b := G.m
    rw [massAll_append]
    omega
  · have a := F.n
    have b := G.n
    rw [depthAll_append]
    omega
theorem FineL.mono {s m n m' n' : Nat} {ds : List PyData} (F : FineL s m n ds) (h : m ≤ m') (h2 : n ≤ n') : FineL s m' n' ds := ⟨F.f, Nat.le_trans F.m h, Nat.le_trans F.n h2⟩
theorem FineL.one {s m n : Nat} {d : PyData} (F : Fine s m n d) : FineL s m n [d] := by
  refine ⟨fun e he => by rw [List.mem_singleton.mp he]; exact F.f, ?_, ?_⟩
  · have := F.m
    simp only [massAll]
    omega
  · have := F.n
    simp only [PyData.depthAll]
    omega
theorem mass_take (ds : List PyData) (k : Nat) : massAll (ds.take k) + massAll (ds.drop k) = massAll ds ∧ PyData.depthAll (ds.take k) ≤ PyData.depthAll ds ∧ PyData.depthAll (ds.drop k) ≤ PyData.depthAll ds := by
  have z := massAll_append (ds.take k) (ds.drop k)
  have y := depthAll_append (ds.take k) (ds.drop k)
  rw [List.take_append_drop] at z y
  omega
theorem FineL.take {s m n : Nat} {ds : List PyData} (F : FineL s m n ds) (k : Nat) : FineL s m n (ds.take k) := by
  obtain ⟨a, b, c⟩ := mass_take ds k
  have h1 := F.m
  have h2 := F.n
  exact ⟨fun d hd => F.f d (List.mem_of_mem_take hd), by omega, by omega⟩
theorem FineL.drop {s m n : Nat} {ds : List PyData} (F : FineL s m n ds) (k : Nat) : FineL s m n (ds.drop k) := by
  obtain ⟨a, b, c⟩ := mass_take ds k
  have h1 := F.m
  have h2 := F.n
  exact ⟨fun d hd => F.f d (List.mem_of_mem_drop hd), by omega, by omega⟩
theorem mass_rev : ∀ ds : List PyData, massAll ds.reverse = massAll ds ∧ PyData.depthAll ds.reverse = PyData.depthAll ds
  | [] => ⟨rfl, rfl⟩
  | d :: ds => by
    obtain ⟨a, b⟩ := mass_rev ds
    rw [List.reverse_cons, massAll_append, depthAll_append, a, b]
    simp only [massAll, PyData.depthAll]
    omega
theorem FineL.rev {s m n : Nat} {ds : List PyData} (F : FineL s m n ds) : FineL s m n ds.reverse := by
  obtain ⟨a, b⟩ := mass_rev ds
  have h1 := F.m
  have h2 := F.n
  exact ⟨fun d hd => F.f d (List.mem_reverse.mp hd), by omega, by omega⟩
theorem FineL.up {s m n : Nat} {ds : List PyData} (F : FineL s m n ds) : FineL (s + 1) m n ds := ⟨fun d hd => fine_up d (F.f d hd), F.m, F.n⟩
theorem FineL.mem {s m n : Nat} {ds : List PyData} (F : FineL s m n ds) {d : PyData} (h : d ∈ ds) : Fine s m n d := by
  have g1 : ∀ l : List PyData, d ∈ l → mass d ≤ massAll l ∧ d.depth ≤ PyData.depthAll l := fun l => by
    induction l with
    | nil => intro z; cases z
    | cons e l ih =>
      intro z
      rw [massAll, PyData.depthAll]
      rcases List.mem_cons.mp z with z | z
      · rw [z]
        omega
      · have := ih z
        omega
  have := g1 ds h
  have h1 := F.m
  have h2 := F.n
  exact ⟨F.f d h, by omega, by omega⟩
/-- DatAll of parts -/
theorem dat_take {H : Hp} {xs : List V} {ds : List PyData} (k : Nat) (h : DatAll H xs ds) : DatAll H (xs.take k) (ds.take k) := by
  induction k generalizing xs ds with
  | zero => exact .nil
  | succ k ih =>
    cases h with
    | nil => exact .nil
    | cons a t => exact .cons a (ih t)
theorem dat_drop {H : Hp} {xs : List V} {ds : List PyData} (k : Nat) (h : DatAll H xs ds) : DatAll H (xs.drop k) (ds.drop k) := by
  induction k generalizing xs ds with
  | zero => exact h
  | succ k ih =>
    cases h with
    | nil => exact .nil
    | cons a t => exact ih t
theorem dat_rev {H : Hp} {xs : List V} {ds : List PyData} (h : DatAll H xs ds) : DatAll H xs.reverse ds.reverse := by
  cases h with
  | nil => exact .nil
  | cons a t =>
    rw [List.reverse_cons, List.reverse_cons]
    exact datAll_append (dat_rev t) (.cons a .nil)
/-- any part of a tuple -/
theorem num_signs (i : Int) : ∀ c ∈ (Str.ofString (toString i)).cps.toList, c ≤ 57 := by
  intro c hc
  rw [signs_ofString] at hc
  obtain ⟨ch, hch, rfl⟩ := List.mem_map.mp hc
  rcases int_sign i ch hch with z | z
  · exact (digit_range z).2
  · rw [z]
    decide
theorem str_fine {s : Nat} {x : Str} (h1 : ∀ c ∈ x.cps.toList, c < 128) (h3 : x.length ≤ 200 * (s + 1)) : fineB s (.str x) = true := by
  rw [fineB, List.all_eq_true.mpr fun c hc => decide_eq_true (h1 c hc)]
  exact decide_eq_true h3
theorem int_up {s : Nat} {i j : Int} (hi : i.natAbs < 10 ^ (40 + s)) (h : j.natAbs ≤ 2 * i.natAbs + 2) : fineB (s + 1) (.int j) = true := by
  rw [fineB]
  refine decide_eq_true ?_
  have e : 10 ^ (40 + (s + 1)) = 10 ^ (40 + s) * 10 := by rw [show 40 + (s + 1) = (40 + s) + 1 by omega, Nat.pow_succ]
  have z : 1 < 10 ^ (40 + s) := Nat.lt_of_lt_of_le (show 1 < 10 ^ 1 by decide) (Nat.pow_le_pow_right (by decide) (by omega))
  rw [e]
  omega
theorem str_parts {s : Nat} {x : Str} (h : fineB s (.str x) = true) : (∀ c ∈ x.cps.toList, c < 128) ∧ x.length ≤ 200 * (s + 1) := by
  rw [fineB, Bool.and_eq_true] at h
  exact ⟨fun c hc => of_decide_eq_true (List.all_eq_true.mp h.1 c hc), of_decide_eq_true h.2⟩
theorem str_snoc {s : Nat} {x : Str} {c : Nat} (h : fineB s (.str x) = true) (hc : c < 128) (hs : s ≤ 3) : Fine (s + 1) (mass (.str x) + 1) 0 (.str (x ++ (⟨#[c]⟩ : Str))) ∧ (x ++ (⟨#[c]⟩ : Str)).length ≤ 1000 ∧ x.length + (⟨#[c]⟩ : Str).length ≤ sizeLine := by
  obtain ⟨h1, h3⟩ := str_parts h
  have e : (x ++ (⟨#[c]⟩ : Str)).cps.toList = x.cps.toList ++ [c] := by
    show (x.cps ++ #[c]).toList = _
    simp
  have l : (x ++ (⟨#[c]⟩ : Str)).length = x.length + 1 := by
    show (x.cps ++ #[c]).size = x.cps.size + 1
    simp
  refine ⟨⟨str_fine (fun d hd => ?_) (by omega), ?_, by simp [PyData.depth]⟩, by omega, ?_⟩
  · rw [e] at hd
    rcases List.mem_append.mp hd with z | z
    · exact h1 d z
    · obtain rfl : d = c := by simpa using z
      omega
  · have y1 : (x ++ (⟨#[c]⟩ : Str)).length = (x ++ (⟨#[c]⟩ : Str)).cps.size := rfl
    have y2 : x.length = x.cps.size := rfl
    simp only [mass]
    omega
  · have : (⟨#[c]⟩ : Str).length = 1 := rfl
    rw [sizeLine_eq]
    omega
theorem log_small {i : Int} {s : Nat} (hi : i.natAbs < 10 ^ (40 + s)) (hs : s ≤ 4) : i.natAbs.log2 < 1920 := by
  have z : i.natAbs < 2 ^ 1920 := Nat.lt_of_lt_of_le hi (Nat.le_trans (Nat.pow_le_pow_right (by decide) (show 40 + s ≤ 44 by omega)) (by decide +kernel))
  exact log2_small z
/-- what repr takes -/
theorem Fine.rep {s m n : Nat} {d : PyData} (F : Fine s m n d) (hs : s ≤ 10) (hm : m ≤ 100000) (hn : n ≤ 60) : RepOk d := by
  refine ⟨fine_int hs d F.f, Nat.le_trans F.n hn, ?_⟩
  have z := PyData.shown_le_bulk 60 (by decide) d (fine_short hs d F.f)
  have y := fine_bulk d F.f
  have x := F.m
  omega
end K9
set_option maxRecDepth 100000
set_option maxHeartbeats 4000000
namespace L2
open PySem PySem.Spec PyProof.Rows
/-! ### t[::-1] of a tuple -/
theorem fm_congr {α β : Type} {f g : α → Option β} : ∀ {l : List α}, (∀ x ∈ l, f x = g x) → l.filterMap f = l.filterMap g
  | [], _ => rfl
  | a :: l, h => by
    rw [List.filterMap_cons, List.filterMap_cons, h a (by simp), fm_congr (l := l) fun x hx => h x (by simp [hx])]
section
variable {prog : Program} {w : World} {A : Around} {E : Value → Shared → Prop} {s : Shared}
theorem adjust_rev (n : Nat) : Builtin.Slice.sliceAdjust none none (-1) (n : Int) = ((n : Int) - 1, -1) := by
  unfold Builtin.Slice.sliceAdjust
  have h1 : (-1 : Int) < 0 := by decide
  simp only [h1, if_true]
theorem places_rev (n : Nat) : Builtin.Slice.slicePlaces ((n : Int) - 1) (-1) (-1) = n := by
  unfold Builtin.Slice.slicePlaces
  have h1 : ¬ ((-1 : Int) > 0) := by decide
  have h2 : (-(-1) : Int) = 1 := by decide
  simp only [h1, if_false, h2, Int.ediv_one]
  split <;> omega
theorem applied_rev {sl : Addr} {vl vu vs : Value} {n : Nat} {Q : Int × Int × Nat → Shared → Prop} (hs : s.heap.IsSliceOf sl vl vu vs) (pl : IsPart vl none) (pu : IsPart vu none) (ps : IsPart vs (some (-1))) (h : Q ((n : Int) - 1, -1, n) s) :
    wpAny (model prog w) A (Builtin.Slice.sliceApplied (.ref sl) (pure (n : Int))) Q E s := by
  obtain ⟨os, gos, gcs, gds⟩ := hs
  unfold Builtin.Slice.sliceApplied Builtin.Slice.sliceFields
  (refine wpAny_bind (wpAny_bind (wpAny_field gos gds (x := vl) rfl (wpAny_bind (wpAny_field gos gds (x := vu) rfl (wpAny_bind (wpAny_field gos gds (x := vs) rfl (wpAny_pure ?_))))))))
  refine wpAny_bind (HT.slicePart_ ps ?_)
  show wpAny _ _ (if ((-1 : Int) == 0) = true then _ else _) _ _ s
  (rw [if_neg (by decide)]; refine wpAny_bind (HT.slicePart_ pl (wpAny_bind (HT.slicePart_ pu (wpAny_bind (wpAny_pure ?_))))))
  show wpAny _ _ (match Builtin.Slice.sliceAdjust none none (-1) (n : Int) with | (lo, hi) => pure (lo, (-1 : Int), Builtin.Slice.slicePlaces lo hi (-1))) _ _ s
  rw [adjust_rev n]
  show wpAny _ _ (pure ((n : Int) - 1, (-1 : Int), Builtin.Slice.slicePlaces ((n : Int) - 1) (-1) (-1))) _ _ s
  rw [places_rev]
  exact wpAny_pure h
theorem pick_rev (xs : Array Value) : ((List.range xs.size).filterMap fun (k : Nat) => xs[(((xs.size : Nat) : Int) - 1 + (k : Int) * (-1)).toNat]?).toArray = xs.toList.reverse.toArray := by
  have z := HT.pick_gen xs.toList.reverse.toArray 0 xs.size
  have e : (List.range xs.size).filterMap (fun (k : Nat) => xs[(((xs.size : Nat) : Int) - 1 + (k : Int) * (-1)).toNat]?) = (List.range xs.size).filterMap (fun (m : Nat) => xs.toList.reverse.toArray[(((0 : Nat) : Int) + (m : Int) * 1).toNat]?) := by
    refine fm_congr fun k hk => ?_
    have hk' : k < xs.size := List.mem_range.mp hk
    have e1 : (((xs.size : Nat) : Int) - 1 + (k : Int) * (-1)).toNat = xs.size - 1 - k := by omega
    have e2 : (((0 : Nat) : Int) + (k : Int) * 1).toNat = k := by omega
    have e3 : xs.toList.reverse.toArray[k]? = xs.toList.reverse[k]? := List.getElem?_toArray
    have e4 : xs.toList.length = xs.size := Array.length_toList
    rw [e1, e2, e3, List.getElem?_reverse (by rw [e4]; exact hk'), e4, Array.getElem?_toList]
  rw [e, z, List.drop_zero, List.take_of_length_le (by simp)]
theorem getItem_tuple_rev {t sl : Addr} {its : Array Value} {vl vu vs : Value} {Q : Value → Shared → Prop} (ht : IsTup s.heap t its) (hs : s.heap.IsSliceOf sl vl vu vs) (pl : IsPart vl none) (pu : IsPart vu none) (ps : IsPart vs (some (-1)))
    (h : Q (.ref s.heap.objs.size) { s with heap := s.heap.push { cls := .type "tuple", data := .seq its.toList.reverse.toArray } }) (hsz : its.size ≤ sizeLine) : wpAny (model prog w) A (getItem (.ref t) (.ref sl)) Q E s := by
  have htake : sizeOk (.seq its.toList.reverse.toArray) := by
    show its.toList.reverse.toArray.size ≤ sizeLine
    simpa using hsz
  obtain ⟨os, gos, gcs, gds⟩ := id hs
  have gTs : s.TypeIs (.ref sl) "slice" := ⟨os, gos, gcs⟩
  unfold getItem
  (try with_reducible refine wpAny_holding ?_)
  (first | refine wpAny_bind (wpAny_pure ?_) | skip)
  (refine wpAny_bind (wpAny_sequenceKey ht.typeIs (by decide) ?_))
  (refine wpAny_bind (wpAny_callSpecial?_slot (name := Str.ofString "__getitem__") ht.typeIs PyProof.Rows.slot_tuple_getitem (wpAny_call_entry PyProof.Rows.slot_tuple_getitem ht.typeIs entry_tuple_getitem ?_ (args_tuple_getitem _ _))))
  (show wpAny _ _ (Builtin.Tuple.tupleItemsOf (.ref t) >>= _) _ _ s)
  (refine wpAny_bind (tupleItemsOf_ ht (wpAny_bind (wpAny_typeOf gTs ?_))))
  rw [if_pos (by decide)]
  (refine wpAny_bind (applied_rev hs pl pu ps ?_))
  have hno : ¬ ((((its.size : Nat) : Int) - 1 == 0 && (-1 : Int) == 1 && its.size == its.size) = true) := by
    intro q
    rw [Bool.and_eq_true, Bool.and_eq_true] at q
    exact absurd q.1.2 (by decide)
  (show wpAny _ _ (if (((its.size : Nat) : Int) - 1 == 0 && (-1 : Int) == 1 && its.size == its.size) = true then _ else _) _ _ s)
  rw [if_neg hno, pick_rev]
  (first
    | exact wpAny_bind (m := Builtin.Tuple.tupleExact _) (wpAny_newObj_type (wpAny_pure ⟨_, rfl, wpAny_pure h⟩) htake) | exact wpAny_bind (m := Builtin.Tuple.tupleExact _) (wpAny_newObj_type (wpAny_bind (wpAny_pure (wpAny_pure ⟨_, rfl, wpAny_pure h⟩))) htake)
    | exact wpAny_bind (wpAny_bind (m := Builtin.Tuple.tupleExact _) (wpAny_newObj_type (wpAny_pure (wpAny_pure ⟨_, rfl, wpAny_pure h⟩)) htake)) | exact wpAny_bind (wpAny_bind (m := Builtin.Tuple.tupleExact _) (wpAny_newObj_type (wpAny_pure ⟨_, rfl, wpAny_pure h⟩) htake)))
end
def tRevT (K : PySem.W.Frag) (te : TE) : TE := fun σ H Q => te σ H fun x H1 => ∃ a xs, x = .ref a ∧ SqT K H1 a xs ∧ ∀ p, H1 p = none → Q (.ref p) (upd H1 p (.tup xs.reverse))
theorem pe_revT {X : Cx} {e : Expr} {te : TE} {k : Nat} {p1 p2 p3 pos : Pos} (he : PE X e te) : PE X (.Subscript e (.Slice none none (some (.UnaryOp .USub (.Constant (.int 1) k p1) p2)) p3) pos) (tRevT X.K te) := by
  refine ⟨fun pins s σ H Q I h => Subscript_ (thn (he.run pins s σ H _ I h) fun v s1 hv => ?_)⟩
  obtain ⟨x, H1, I1, r1, a, xs, ex, hx, q⟩ := hv
  subst ex
  cases r1
  have hst : PO X (some (.UnaryOp .USub (.Constant (.int 1) k p1) p2)) (tPart (tUn (rU fun i => .int (-i)) (tC (.int 1)))) := (po_some (pe_un un_neg pe_int))
  (refine wpAny_Slice (thn (po_none.run pins s1 σ H1 (fun o H2 => o = none ∧ H2 = H1) I1 ⟨rfl, rfl⟩) fun vl s2 hl => ?_))
  obtain ⟨l, H2, I2, pl, el, e2⟩ := hl
  subst el e2
  (refine thn (po_none.run pins s2 σ H2 (fun o H3 => o = none ∧ H3 = H2) I2 ⟨rfl, rfl⟩) fun vu s3 hu => ?_)
  obtain ⟨u, H3, I3, pu, eu, e3⟩ := hu
  subst eu e3
  (refine thn (hst.run pins s3 σ H3 (fun o H4 => o = some (-1) ∧ H4 = H3) I3 ⟨1, rfl, -1, rfl, rfl, rfl⟩) fun vs s4 hs4 => ?_)
  obtain ⟨o, H4, I4, ps, eo, e4⟩ := hs4
  subst eo e4
  have J : Inv X pins σ H4 { s4 with heap := s4.heap.push { cls := .type "slice", data := .fields #[vl, vu, vs] } } := (I4.kept (t' := s4.toks) fun b ob q => Heap.get?_push_of_some _ q)
  obtain ⟨its, r, ht, hz⟩ := J.tuple hx
  (show wpAny (model X.prog X.w) X.A (subscriptTail e (.Slice none none (some (.UnaryOp .USub (.Constant (.int 1) k p1) p2)) p3) (.ref a) (.ref s4.heap.objs.size)) (EP X pins σ Q) X.xe { s4 with heap := s4.heap.push { cls := .type "slice", data := .fields #[vl, vu, vs] } })
  refine tail_any (ops := [.ref a, .ref s4.heap.objs.size]) ht.typeIs (PyProof.Rows.slot_tuple_getitem.lookup) ?_ (by with_unfolding_all rfl)
  refine getItem_tuple_rev ht (Heap.IsSliceOf.new _ vl vu vs) pl pu ps ?_ (by rw [List.size_toArray, ← r.length]; exact hz)
  refine ⟨.ref _, _, J.laid (t' := s4.toks) (o := .tup xs.reverse) (fun b ob q => Heap.get?_push_of_some _ q) (Nat.le_refl _) ?_, rfl, q _ (J.hok.fresh (Nat.le_refl _))⟩
  exact ⟨by rw [List.length_reverse]; exact hz, _, r.reverse, IsTup.new _ _⟩
end L2
set_option maxRecDepth 100000
set_option maxHeartbeats 8000000
namespace K9
open PySem PySem.Spec PyProof.Rows L2
/-! ### data apart from the deck -/
theorem tp_hide {H : Hp} {p q a : Addr} {b : Nat} {xs : List V} (D : Dk H p q b) (h : TP H a xs) : TP (hide p q H) a xs := by
  obtain ⟨ns, m, c, D, hc⟩ := D
  have n1 : a ≠ p := fun e => h.noL (e ▸ D.ob)
  have n2 : a ≠ q := fun e => h.noL (e ▸ D.ce)
  intro C f g
  exact h C (fun e => f (hide_at e n1 n2)) fun o e n => g o (hide_at e n1 n2) n
theorem fz_hide {H : Hp} {p q : Addr} {b : Nat} {v : V} (D : Dk H p q b) (h : Fz H v) : Fz (hide p q H) v := by
  obtain ⟨a, o, xs, e, h1, n⟩ := h
  obtain ⟨ns, m, c, D, hc⟩ := D
  have n1 : a ≠ p := fun e' => by
    rw [e', D.ob] at h1
    cases h1
  have n2 : a ≠ q := fun e' => by
    rw [e', D.ce] at h1
    cases h1
  exact ⟨a, o, xs, e, hide_at h1 n1 n2, n⟩
theorem hid_hide {p q : Addr} {H : Hp} : Same (hid p q H) (hide p q H) := fun b o e => by
  have e' := hid_sub b o e
  unfold hid noR at e
  by_cases h1 : b = p
  · rw [if_pos h1] at e
    cases e
  · rw [if_neg h1] at e
    by_cases h2 : b = q
    · rw [if_pos h2] at e
      cases e
    · exact hide_at e' h1 h2
theorem dat_hide {H : Hp} {p q : Addr} {b : Nat} (D : Dk H p q b) {v : V} {d : PyData} (h : Dat H v d) (no : noL d = true) : Dat (hide p q H) v d := by
  obtain ⟨ns, m, c, D, hc⟩ := D
  exact (dat_hid D.ob D.ce D.ne no h).same hid_hide
theorem datAll_hide {H : Hp} {p q : Addr} {b : Nat} (D : Dk H p q b) {vs : List V} {ds : List PyData} (h : DatAll H vs ds) (no : noLs ds = true) : DatAll (hide p q H) vs ds := by
  obtain ⟨ns, m, c, D, hc⟩ := D
  exact (datAll_hid D.ob D.ce D.ne no h).same hid_hide
mutual
theorem fzs_hide {H : Hp} {p q : Addr} {b : Nat} (D : Dk H p q b) : ∀ {s : S9} {v : V}, FzS H v s → FzS (hide p q H) v s
  | .leaf l, v, h => by
    rw [FzS] at h ⊢
    intro hw
    obtain ⟨a, z, v1, e, h1, h2⟩ := h hw
    exact ⟨a, z, v1, e, tp_hide D h1, fz_hide D h2⟩
  | .row c xs, v, h => by
    rw [FzS] at h ⊢
    obtain ⟨a, b, z, ys, e, h1, h2, h3⟩ := h
    exact ⟨a, b, z, ys, e, tp_hide D h1, tp_hide D h2, fzl_hide D h3⟩
  | .pow n x, v, h => by
    rw [FzS] at h ⊢
    obtain ⟨a, z, i, y, e, h1, h2⟩ := h
    exact ⟨a, z, i, y, e, tp_hide D h1, fzs_hide D h2⟩
  | .dec cs xs, v, h => by
    rw [FzS] at h ⊢
    obtain ⟨a, b, z, v1, ys, e, h1, h2, h3, h4⟩ := h
    exact ⟨a, b, z, v1, ys, e, tp_hide D h1, fz_hide D h2, tp_hide D h3, fzl_hide D h4⟩
theorem fzl_hide {H : Hp} {p q : Addr} {b : Nat} (D : Dk H p q b) : ∀ {xs : List S9} {ys : List V}, FzL H ys xs → FzL (hide p q H) ys xs
  | [], ys, h => by
    rw [FzL] at h ⊢
    exact h
  | x :: xs, ys, h => by
    rw [FzL] at h ⊢
    obtain ⟨y, r, e, h1, h2⟩ := h
    exact ⟨y, r, e, fzs_hide D h1, fzl_hide D h2⟩
end
theorem mkn_tupL {N : Nat} {K : PySem.W.Frag} {G : List (Nat × PyData)} {t : TE} {ds : List PyData} (h : MkN N G t (.list ds)) : MkN N G (tCB (fun xs H Q => ∃ p ys, xs = [.ref p] ∧ ((SqL K H p ys ∧ ∀ l, H l = none → Q (.ref l) (upd H l (.tup ys))) ∨ (SqT K H p ys ∧ Q (.ref p) H))) (tCons t tNil)) (.tuple ds) := fun σ H Q hN E q => h σ H _ hN E fun v H1 S1 d1 => by
  obtain ⟨a, xs, rfl, ha, hx⟩ := dat_lst d1
  exact ⟨a, xs, rfl, .inl ⟨SqL.of ha, fun l nl => q _ _ (S1.trans (same_new nl)) (.tup (TP.of upd_same) (hx.same (same_new nl)))⟩⟩
/-! ### orders as the makers put them together -/
def itemD (x : Str) : PyData := .tuple [.str "item", .str x]
def joinD (w : Str) (ds : List PyData) : PyData := .tuple [.str w, .tuple ds]
def isSP (w : Str) : Prop := w = "series" ∨ w = "parallel"
theorem item_order (n : Nat) {x : Str} (h : nameB (.str x) = true) : orderB (n + 1) (itemD x) = true := by
  rw [orderB]
  have e1 : tupOf 2 2 (itemD x) = true := rfl
  have e2 : eqStr "item" (at0 (tupItems (itemD x)) 0) = true := by
    show (("item" : Str) == "item") = true
    decide +kernel
  rw [e1, e2, if_pos rfl, Bool.true_and]
  exact h
theorem item_names (n : Nat) (x : Str) : namesN (n + 1) (itemD x) = [x] := by
  rw [namesN]
  have e2 : eqStr "item" (at0 (tupItems (itemD x)) 0) = true := by
    show (("item" : Str) == "item") = true
    decide +kernel
  rw [e2, if_pos rfl]
  rfl
theorem fine_name {x : Str} (h : nameS x = true) : fineB 0 (.str x) = true ∧ mass (.str x) ≤ 7 := by
  obtain ⟨h1, h2⟩ := nameS_all h
  refine ⟨str_fine (fun c hc => ?_) (by omega), ?_⟩
  · have z := List.all_eq_true.mp h1 c hc
    have := (letter_le z).2
    omega
  · have e : x.length = x.cps.size := rfl
    simp only [mass]
    omega
theorem item_fine {x : Str} (h : nameS x = true) : Fine 0 13 1 (itemD x) := by
  obtain ⟨h1, h2⟩ := fine_name h
  have e : fineB 0 (.str "item") = true := by decide +kernel
  have m : mass (.str "item") = 5 := by decide +kernel
  refine ⟨?_, ?_, ?_⟩
  · unfold itemD
    rw [fineB, fineAll, fineAll, fineAll, e, h1]
    rfl
  · unfold itemD
    simp only [mass, massAll] at m h2 ⊢
    omega
  · unfold itemD
    simp [PyData.depth, PyData.depthAll]
theorem join_order (n : Nat) {w : Str} (hw : isSP w) {ds : List PyData} (h2 : 2 ≤ ds.length) (h6 : ds.length ≤ 6) (h : ∀ d ∈ ds, orderB n d = true) : orderB (n + 1) (joinD w ds) = true := by
  rw [orderB]
  have e1 : tupOf 2 2 (joinD w ds) = true := rfl
  have e2 : eqStr "item" (at0 (tupItems (joinD w ds)) 0) = false := by
    rcases hw with rfl | rfl
    · show (("series" : Str) == "item") = false
      decide +kernel
    · show (("parallel" : Str) == "item") = false
      decide +kernel
  have e3 : (eqStr "series" (at0 (tupItems (joinD w ds)) 0) || eqStr "parallel" (at0 (tupItems (joinD w ds)) 0)) = true := by
    rcases hw with rfl | rfl
    · show ((("series" : Str) == "series") || (("series" : Str) == "parallel")) = true
      decide +kernel
    · show ((("parallel" : Str) == "series") || (("parallel" : Str) == "parallel")) = true
      decide +kernel
  have e4 : tupOf 2 6 (at0 (tupItems (joinD w ds)) 1) = true := by
    show (decide ((2 : Int) ≤ (ds.length : Int)) && decide ((ds.length : Int) ≤ 6)) = true
    rw [decide_eq_true (by omega), decide_eq_true (by omega)]
    rfl
  have e5 : (tupItems (at0 (tupItems (joinD w ds)) 1)).all (orderB n) = true := by
    show ds.all (orderB n) = true
    exact List.all_eq_true.mpr h
  rw [e1, e2, if_neg Bool.false_ne_true, e3, e4, e5]
  rfl
theorem join_names (n : Nat) {w : Str} (hw : isSP w) (ds : List PyData) : namesN (n + 1) (joinD w ds) = ds.flatMap (namesN n) := by
  rw [namesN]
  have e2 : eqStr "item" (at0 (tupItems (joinD w ds)) 0) = false := by
    rcases hw with rfl | rfl
    · show (("series" : Str) == "item") = false
      decide +kernel
    · show (("parallel" : Str) == "item") = false
      decide +kernel
  rw [e2, if_neg Bool.false_ne_true]
  rfl
theorem join_fine {s : Nat} {w : Str} (hw : isSP w) {ds : List PyData} {m n : Nat} (h : ∀ d ∈ ds, fineB s d = true) (hm : massAll ds ≤ m) (hn : PyData.depthAll ds ≤ n) : Fine s (m + 11) (n + 2) (joinD w ds) := by
  have e : fineB s (.str w) = true := by
    have z : ∀ w : Str, isSP w → w.cps.toList.all (fun c => decide (c < 128)) = true ∧ w.length ≤ 8 := fun w hw => by
      rcases hw with rfl | rfl <;> decide +kernel
    obtain ⟨a, c⟩ := z w hw
    rw [fineB, a]
    exact decide_eq_true (by omega)
  have m9 : mass (.str w) ≤ 9 := by
    rcases hw with rfl | rfl <;> decide +kernel
  refine ⟨?_, ?_, ?_⟩
  · unfold joinD
    rw [fineB, fineAll, fineAll, fineAll, e, fineB, fineAll_iff.mpr h]
    rfl
  · unfold joinD
    simp only [mass, massAll] at m9 ⊢
    omega
  · unfold joinD
    simp only [PyData.depth, PyData.depthAll]
    omega
theorem items_mass : ∀ {ns : List Str}, (∀ x ∈ ns, nameS x = true) → massAll (ns.map itemD) ≤ 13 * ns.length ∧ PyData.depthAll (ns.map itemD) ≤ 1
  | [], _ => by simp [massAll, PyData.depthAll]
  | x :: ns, h => by
    obtain ⟨a, b⟩ := items_mass (ns := ns) fun y hy => h y (by simp [hy])
    have F := item_fine (h x (by simp))
    have f1 := F.m
    have f2 := F.n
    rw [List.map_cons, massAll, PyData.depthAll, List.length_cons]
    omega
theorem items_names (n : Nat) : ∀ ns : List Str, (ns.map itemD).flatMap (namesN (n + 1)) = ns
  | [] => rfl
  | x :: ns => by
    rw [List.map_cons, List.flatMap_cons, item_names, items_names n ns]
    rfl
theorem item_noL (x : Str) : noL (itemD x) = true := rfl
theorem items_noL (ns : List Str) : noLs (ns.map itemD) = true := noLs_iff.mpr fun d hd => by
  obtain ⟨x, _, rfl⟩ := List.mem_map.mp hd
  rfl
theorem join_noL (w : Str) {ds : List PyData} (h : noLs ds = true) : noL (joinD w ds) = true := by
  unfold joinD
  simp [noL, noLs, h]
end K9
set_option maxRecDepth 100000
set_option maxHeartbeats 8000000
namespace K9
open PySem PySem.Spec PyProof.Rows L2
/-! ### the law's order -/
abbrev s_order : Stmt := top 44
def spOrd (k : Nat) : Sp := fun vs H Q _ => ∃ (p q t : Addr) (b c : Nat) (ns : List Str), vs = [.ref p, .ref t] ∧ H t = some (.lst (ns.map .str)) ∧ t ≠ p ∧ t ≠ q ∧ 1 ≤ ns.length ∧ ns.length ≤ k + 1 ∧ k ≤ 5 ∧ (∀ x ∈ ns, nameS x = true) ∧ Dk H p q b ∧ b + 3 * ns.length ≤ c + 3 ∧ c ≤ 100000000 ∧
  ∀ (v : V) (d : PyData) (H' : Hp), Off p q H H' → Dk H' p q c → Dat (hide p q H') v d → noL d = true → orderB (k + 1) d = true → namesN (k + 1) d = ns → Fine 0 (30 * ns.length - 11) (2 * k + 1) d → Q v H'
section
variable {P : Program} {w : World} {K : PySem.W.Frag} {mg : Str → Option Value} {base : Heap}
theorem sc_order : FnScope ["_law_deck_here", "_law_names_here", "_law_at", "_law_word", "_law_name"] ["_law_deck_here", "_law_names_here"] (defScope s_order) := ⟨rfl, rfl, rfl, by decide +kernel, rfl, by decide +kernel, by decide +kernel⟩
theorem or_body {f fD fP : Addr} {fd fdD fdP : FuncData} {sp : Sp} (k : Nat) (F : Fun K "_law_order" "_law_order" s_order f fd) (bs : L2.Binds K fd ["_law_deck_here", "_law_names_here"] []) (g : mg "_law_order" = some (.ref f)) (G : FnOk P w K mg base CX0 (2 + k) f fd ["_law_deck_here", "_law_names_here"] sp) (T : Nm mg)
    (D_draw : DefOk K mg "_law_draw" sDraw ["_law_deck_here", "_law_bound"] fD fdD) (D_pick : DefOk K mg "_law_pick" sPick ["_law_deck_here", "_law_items"] fP fdP)
    (hn : ∀ m, k = m + 1 → ∀ vs H Q E, spOrd m vs H Q E → sp vs H Q E) : FnOk P w K mg base CX0 (3 + k) f fd ["_law_deck_here", "_law_names_here"] (spOrd k) := by
  have G_draw : FnOk P w K mg base CX0 1 fD fdD ["_law_deck_here", "_law_bound"] spDraw := ok_draw D_draw.F
  have G_pick : FnOk P w K mg base CX0 2 fP fdP ["_law_deck_here", "_law_items"] spPick := ok_pick D_pick.F T D_draw.F D_draw.b D_draw.g
  rw [show 3 + k = (2 + k) + 1 by omega]
  refine F.ok sc_order (fun vs H Q E h => ?_) (fun cdv A outer s H vs Q E hr h => ?_)
  · obtain ⟨p, q, t, b, c, ns, rfl, _⟩ := h
    rfl
  · obtain ⟨p, q, t, b, c, ns, rfl, ht, tp, tq, h1, hk, h20, hns, D, hb, hc, q1⟩ := h
    have hr1 : Room 1 _ := hr.mono (by omega)
    have hr2 : Room 2 _ := hr.mono (by omega)
    refine ⟨_, (pss_cons (ps_if (pt_cmpR op_eq (pe_callB cr_lenS (by rfl) T.len PySem.boot_len (pa_cons (pv 1) pa_nil)) pe_int (nomark _))
        (pss_one (ps_ret (pe_tup (pa_cons pe_str (pa_cons (pe_ix ix_list (pv 1) pe_int (fun _ _ => rfl)) pa_nil)))))
        pss_nil)
      (pss_cons (ps_par (i := 2) (j := 3) rfl sc_order.nd rfl rfl (by decide) rfl rfl (pa_cons (pe_op op_add pe_int (pe_call G_draw hr1 rfl D_draw.g D_draw.F.kp D_draw.b .nil pass0 (pa_cons (pv 0) (pa_cons (pe_op op_sub (pe_callB cr_lenS (by rfl) T.len PySem.boot_len (pa_cons (pv 1) pa_nil)) pe_int) pa_nil)))) (pa_cons (pe_call G_pick hr2 rfl D_pick.g D_pick.F.kp D_pick.b .nil pass0 (pa_cons (pv 0) (pa_cons (pe_lst (pa_cons pe_str (pa_cons pe_str (pa_cons pe_str pa_nil)))) pa_nil))) pa_nil)) (by rfl))
      (C8.pss_cut (ps_if (PW.pt (pw_and (pt_cmpR op_gt (pe_callB cr_lenS (by rfl) T.len PySem.boot_len (pa_cons (pv 1) pa_nil)) pe_int (nomark _)) (pw_and1 (pt_cmpR op_eq (pe_call G_draw hr1 rfl D_draw.g D_draw.F.kp D_draw.b .nil pass0 (pa_cons (pv 0) (pa_cons pe_int pa_nil))) pe_int (nomark _)))))
        (pss_one (ps_ret (pe_tup (pa_cons (pv 3) (pa_cons (pe_callTy call_tuple_of (by rfl) T.tuple (by decide +kernel) (pa_cons (pe_lc (own := [("_law_name", 4)]) (g := (gName 4)) (tt := tYes) rfl sc_order.nd (pi_list (pv 1)) (blkOk_by (N := ["_law_deck_here", "_law_names_here", "_law_at", "_law_word", "_law_name"]) (sc := defScope s_order) (by decide +kernel))
          (fun _ _ _ _ _ => (pg_name (i := 4) sc_order.nd rfl (Or.inl rfl))) (fun _ _ _ _ _ => pts_nil) (fun _ _ _ _ _ => (pe_tup (pa_cons pe_str (pa_cons (pv 4) pa_nil))))) pa_nil)) pa_nil)))))
        pss_nil)
      (pss_one (ps_ret (pe_tup (pa_cons (pv 3) (pa_cons (pe_tup (pa_cons (pe_call G hr rfl g F.kp bs .nil pass0 (pa_cons (pv 0) (pa_cons (pe_slice sl_list (pv 1) po_none (po_some (pv 2))) pa_nil))) (pa_cons (pe_call G hr rfl g F.kp bs .nil pass0 (pa_cons (pv 0) (pa_cons (pe_slice sl_list (pv 1) (po_some (pv 2)) po_none) pa_nil))) pa_nil))) pa_nil)))))))), ?_⟩
    have hl : (ns.map V.str).length = ns.length := List.length_map ..
    refine ⟨_, rfl, t, _, rfl, .inl (SqL.of ht), rfl, _, rfl, ?_⟩
    by_cases e1 : ns.length = 1
    · obtain ⟨x, rfl⟩ : ∃ x, ns = [x] := List.length_eq_one_iff.mp e1
      have hx1 := hns x (by simp)
      refine if_t (decide_eq_true rfl) ?_
      refine ⟨_, rfl, t, _, _, _, rfl, rfl, SqL.of ht, atI_nat (j := 0) rfl, (by show 2 ≤ sizeLine; decide), fun a na => ?_⟩
      have S1 := same_new (o := HO.tup [.str "item", .str x]) na
      have D1 := D.same S1
      have d1 : Dat (upd H a (.tup [.str "item", .str x])) (.ref a) (itemD x) := .tup (TP.of upd_same) (.cons (.str _ (by decide)) (.cons (.str _ (name_short hx1)) .nil))
      exact q1 _ (itemD x) _ (Off.of_same S1) (D1.mono (by omega)) (dat_hide D1 d1 rfl) rfl (item_order k hx1) (item_names k x) ((item_fine hx1).mono (by simp) (by omega))
    · refine if_f (decide_eq_false fun e => e1 ?_) ?_
      · have z := V.int.inj e
        rw [hl] at z
        omega
      obtain ⟨m, hm⟩ : ∃ m, k = m + 1 := by
        cases k with
        | zero => exact absurd hk (by omega)
        | succ m => exact ⟨m, rfl⟩
      -- at and the word
      refine ⟨_, rfl, _, rfl, t, _, rfl, .inl (SqL.of ht), _, _, rfl, rfl, ?_⟩
      dsimp only [tNil]
      refine draw_of (E := E0) (n := ((ns.map V.str).length : Int) - 1) D (by rw [hl]; omega) (by rw [hl]; omega) (by omega) fun i H1 hi O1 D1 => ⟨1, _, rfl, rfl, ?_⟩
      rw [hl] at hi
      have hl3 : (3 : Nat) ≤ sizeLine := by decide
      refine ⟨_, rfl, hl3, fun l nl => ?_⟩
      have S1 := same_new (o := HO.lst [.str "parallel", .str "parallel", .str "series"]) nl
      obtain ⟨lp, lq⟩ := D1.new nl
      have el : upd H1 l (.lst [.str "parallel", .str "parallel", .str "series"]) l = some (.lst [.str "parallel", .str "parallel", .str "series"]) := upd_same
      have Dl := D1.same S1
      generalize upd H1 l (.lst [.str "parallel", .str "parallel", .str "series"]) = H2 at S1 el Dl ⊢
      refine pick_of (E := E0) Dl el lp lq (by decide) (by decide) (by omega) fun j x H3 hx O3 D3 => ?_
      obtain ⟨wd, rfl, hwd⟩ : ∃ wd, x = V.str wd ∧ isSP wd := by
        match j, hx with
        | 0, hx => exact ⟨_, (Option.some.inj hx).symm, .inr rfl⟩
        | 1, hx => exact ⟨_, (Option.some.inj hx).symm, .inr rfl⟩
        | 2, hx => exact ⟨_, (Option.some.inj hx).symm, .inl rfl⟩
        | j + 3, hx => simp at hx
      have hwl : wd.length ≤ 1000 := by rcases hwd with rfl | rfl <;> decide
      have O03 := (O1.trans (Off.of_same S1)).trans O3
      refine ⟨_, _, rfl, ?_⟩
      refine ⟨fun σ H' => σ = [some (.ref p), some (.ref t), some (.int (1 + (i : Int))), some (.str wd), none] ∧ Off p q H H' ∧ Dk H' p q (b + 3), ?_, ?_⟩
      · have ht3 := O03 _ _ ht tp tq
        refine ⟨_, rfl, t, _, rfl, .inl (SqL.of ht3), _, _, rfl, rfl, _, rfl, ?_⟩
        by_cases e3 : 2 < ns.length
        · refine if_t (decide_eq_true (by rw [hl]; omega)) ⟨_, rfl, ?_⟩
          dsimp only [tCons, tNil, tC]
          refine draw_of (E := E0) (n := 3) D3 (by decide) (by decide) (by omega) fun z H4 hz O4 D4 => ⟨rfl, _, rfl, ?_⟩
          have O04 := O03.trans O4
          by_cases ez : z = 0
          · refine if_t (decide_eq_true (by rw [ez]; rfl)) ⟨_, rfl, ?_⟩
            have ht4 := O04 _ _ ht tp tq
            have E4 : EnvOk [(1, .list (ns.map PyData.str))] [some (.ref p), some (.ref t), some (.int (1 + (i : Int))), some (.str wd), none] H4 := fun pr hp => by
              obtain rfl := List.mem_singleton.mp hp
              exact ⟨_, rfl, .lst ht4 (strs_all _ ns fun z hz => name_short (hns z hz))⟩
            have M := mkn_tupL (N := 5) (K := K) (MkF.n (mkf_list (N := 5) (K := K) (i := 4) (te := tTup (tCons (tC (.str "item")) (tCons (tVar 4) tNil))) (f := fun d => .tuple [.str "item", d]) (mk_var (G := [(1, .list (ns.map PyData.str))]) (i := 1) List.mem_cons_self) (by rw [List.length_map]; omega) rfl (by decide) (fun d _ => mks_tup2 (mk_str (by decide)) (mk_var List.mem_cons_self)) (fun d hd => by
              obtain ⟨z, _, rfl⟩ := List.mem_map.mp hd
              rfl)))
            have em : (ns.map PyData.str).map (fun d => PyData.tuple [.str "item", d]) = ns.map itemD := by
              rw [List.map_map]
              rfl
            rw [em] at M
            refine M _ H4 _ rfl E4 fun v1 H5 S5 d1 => ⟨(by show 2 ≤ sizeLine; decide), fun a2 n2 => ?_⟩
            have S6 := same_new (o := HO.tup [.str wd, v1]) n2
            have D6 := (D4.same S5).same S6
            have dB : Dat (upd H5 a2 (.tup [.str wd, v1])) (.ref a2) (joinD wd (ns.map itemD)) := .tup (TP.of upd_same) (.cons (.str _ hwl) (.cons (d1.same S6) .nil))
            have mj := items_mass (ns := ns) hns
            have nL := join_noL wd (items_noL ns)
            have jf := join_fine (s := 0) hwd (ds := ns.map itemD) (m := 13 * ns.length) (n := 1) (fun d hd => by
              obtain ⟨x, hx, rfl⟩ := List.mem_map.mp hd
              exact (item_fine (hns x hx)).f) mj.1 mj.2
            refine q1 _ (joinD wd (ns.map itemD)) _ ((O04.trans (.of_same S5)).trans (.of_same S6)) (D6.mono (by omega)) (dat_hide D6 dB nL) nL (join_order k hwd (by rw [List.length_map]; omega) (by rw [List.length_map]; omega) fun d hd => ?_) ?_ ⟨jf.f, Nat.le_trans jf.m (by omega), Nat.le_trans jf.n (by omega)⟩
            · obtain ⟨x, hx, rfl⟩ := List.mem_map.mp hd
              rw [hm]
              exact item_order m (hns x hx)
            · rw [join_names k hwd, hm, items_names]
          · exact if_f (decide_eq_false fun e => ez (by have := V.int.inj e; omega)) ⟨rfl, O04, D4.mono (by omega)⟩
        · exact if_f (decide_eq_false (by rw [hl]; omega)) (if_f rfl ⟨rfl, O03, D3.mono (by omega)⟩)
      · rintro σ H4 ⟨rfl, O4, D4⟩
        have ht4 := O4 _ _ ht tp tq
        have ei : (1 : Int) + (i : Int) = ((1 + i : Nat) : Int) := by omega
        obtain ⟨n1, hn1⟩ : ∃ n1, n1 = 1 + i := ⟨_, rfl⟩
        rw [← hn1] at ei
        refine ⟨_, rfl, _, rfl, _, rfl, _, rfl, (n1 : Int), congrArg V.int ei, t, _, rfl, SqL.of ht4, fun t1 nt1 => ?_⟩
        obtain ⟨t1p, t1q⟩ := D4.new nt1
        have et1 : upd H4 t1 (.lst (cutV (ns.map V.str) none (some (n1 : Int)))) t1 = some (.lst ((ns.take n1).map V.str)) := by rw [upd_same, cutV_to, List.map_take]
        have S5 := same_new (o := HO.lst (cutV (ns.map V.str) none (some (n1 : Int)))) nt1
        have D5 := D4.same S5
        generalize upd H4 t1 (.lst (cutV (ns.map V.str) none (some (n1 : Int)))) = H5 at et1 S5 D5 ⊢
        have l1 : (ns.take n1).length = n1 := by rw [List.length_take]; omega
        have l2 : (ns.drop n1).length = ns.length - n1 := List.length_drop ..
        refine hn m hm _ _ _ _ ⟨p, q, t1, b + 3, b + 3 * n1, ns.take n1, rfl, et1, t1p, t1q, by omega, by omega, by omega, fun x hx => hns x (List.mem_of_mem_take hx), D5, by omega, by omega, fun v1 d1 H6 O6 D6 da1 no1 or1 nm1 fi1 => ?_⟩
        have O26 := (O4.trans (.of_same S5)).trans O6
        have ht6 := O26 _ _ ht tp tq
        refine ⟨_, rfl, _, rfl, _, rfl, (n1 : Int), congrArg V.int ei, t, _, rfl, SqL.of ht6, fun t2 nt2 => ?_⟩
        obtain ⟨t2p, t2q⟩ := D6.new nt2
        have et2 : upd H6 t2 (.lst (cutV (ns.map V.str) (some (n1 : Int)) none)) t2 = some (.lst ((ns.drop n1).map V.str)) := by rw [upd_same, cutV_from, List.map_drop]
        have S7 := same_new (o := HO.lst (cutV (ns.map V.str) (some (n1 : Int)) none)) nt2
        have D7 := D6.same S7
        generalize upd H6 t2 (.lst (cutV (ns.map V.str) (some (n1 : Int)) none)) = H7 at et2 S7 D7 ⊢
        refine hn m hm _ _ _ _ ⟨p, q, t2, b + 3 * n1, c, ns.drop n1, rfl, et2, t2p, t2q, by omega, by omega, by omega, fun x hx => hns x (List.mem_of_mem_drop hx), D7, by omega, hc, fun v2 d2 H8 O8 D8 da2 no2 or2 nm2 fi2 => ⟨(by show 2 ≤ sizeLine; decide), fun a1 na1 => ⟨(by show 2 ≤ sizeLine; decide), fun a2 na2 => ?_⟩⟩⟩
        have Sa := same_new (o := HO.tup [v1, v2]) na1
        have Sb := same_new (o := HO.tup [.str wd, .ref a1]) na2
        have Db := (D8.same Sa).same Sb
        have dd1 := ((((da1.same (hide_same S7)).same (hide_off O8)).same (hide_sub _ _ _)).same Sa)
        have dd2 := ((da2.same (hide_sub _ _ _)).same Sa)
        have OA := (((O26.trans (.of_same S7)).trans O8).trans (.of_same Sa)).trans (.of_same Sb)
        have dB : Dat (upd (upd H8 a1 (.tup [v1, v2])) a2 (.tup [.str wd, .ref a1])) (.ref a2) (joinD wd [d1, d2]) := .tup (TP.of upd_same) (.cons (.str _ hwl) (.cons ((Dat.tup (TP.of upd_same) (.cons dd1 (.cons dd2 .nil))).same Sb) .nil))
        have nL : noL (joinD wd [d1, d2]) = true := join_noL wd (by simp [noLs, no1, no2])
        have m1 := fi1.m
        have m2 := fi2.m
        have g1 := fi1.n
        have g2 := fi2.n
        have eM : massAll [d1, d2] = mass d1 + mass d2 := by simp [massAll]
        have eN : PyData.depthAll [d1, d2] ≤ 2 * m + 1 := by
          simp only [PyData.depthAll]
          omega
        have jf := join_fine (s := 0) hwd (ds := [d1, d2]) (m := mass d1 + mass d2) (n := 2 * m + 1) (fun d hd => by
          rcases List.mem_cons.mp hd with rfl | hd
          · exact fi1.f
          · rcases List.mem_cons.mp hd with rfl | hd
            · exact fi2.f
            · cases hd) (Nat.le_of_eq eM) eN
        refine q1 _ (joinD wd [d1, d2]) _ OA (Db.mono (by omega)) (dat_hide Db dB nL) nL (join_order k hwd (by simp) (by simp) fun d hd => ?_) ?_ ⟨jf.f, Nat.le_trans jf.m (by omega), Nat.le_trans jf.n (by omega)⟩
        · rw [hm]
          rcases List.mem_cons.mp hd with rfl | hd
          · exact or1
          · rcases List.mem_cons.mp hd with rfl | hd
            · exact or2
            · cases hd
        · rw [join_names k hwd, hm, List.flatMap_cons, List.flatMap_cons, nm1, nm2, List.flatMap_nil, List.append_nil, List.take_append_drop]
theorem okl_order {f fD fP : Addr} {fd fdD fdP : FuncData} (F : Fun K "_law_order" "_law_order" s_order f fd) (bs : L2.Binds K fd ["_law_deck_here", "_law_names_here"] []) (g : mg "_law_order" = some (.ref f)) (T : Nm mg)
    (D_draw : DefOk K mg "_law_draw" sDraw ["_law_deck_here", "_law_bound"] fD fdD) (D_pick : DefOk K mg "_law_pick" sPick ["_law_deck_here", "_law_items"] fP fdP) : ∀ k : Nat, FnOk P w K mg base CX0 (3 + k) f fd ["_law_deck_here", "_law_names_here"] (spOrd k)
  | 0 => or_body (sp := fun _ _ _ _ => False) 0 F bs g fn_none T D_draw D_pick fun m e => by cases e
  | k + 1 => by
    have G := okl_order F bs g T D_draw D_pick k
    rw [show 3 + k = 2 + (k + 1) by omega] at G
    refine or_body (k + 1) F bs g G T D_draw D_pick fun m e vs H Q E h => ?_
    obtain rfl : k = m := Nat.succ.inj e
    exact h
end
end K9
set_option maxRecDepth 100000
set_option maxHeartbeats 8000000
namespace K9
open PySem PySem.Spec PyProof.Rows L2
/-! ### a list that grows beside the deck -/
theorem dk_noR {H : Hp} {p q F : Addr} {b : Nat} (D : Dk H p q b) (hp : F ≠ p) (hq : F ≠ q) : Dk (noR F H) p q b := by
  obtain ⟨ns, m, c, D, hc⟩ := D
  exact ⟨ns, m, c, ⟨noR_at D.ob hp.symm, noR_at D.ce hq.symm, D.m0, D.m1, D.c0, D.c1, D.ln⟩, hc⟩
structure GD (Hb : Hp) (p q F : Addr) (b : Nat) (ds : List PyData) (Hx : Hp) : Prop where
  nF : Hb F = none
  O : Off p q Hb Hx
  D : Dk Hx p q b
  hp : F ≠ p
  hq : F ≠ q
  f : ∃ xs, Hx F = some (.lst xs) ∧ DatAll (hide p q (noR F Hx)) xs ds
theorem GD.start {H : Hp} {p q F : Addr} {b : Nat} (D : Dk H p q b) (nF : H F = none) : GD H p q F b [] (upd H F (.lst [])) where
  nF := nF
  O := Off.of_same (same_new nF)
  D := D.same (same_new nF)
  hp := (D.new nF).1
  hq := (D.new nF).2
  f := ⟨[], upd_same, .nil⟩
theorem GD.same {Hb Hx Hy : Hp} {p q F : Addr} {b : Nat} {ds : List PyData} (g : GD Hb p q F b ds Hx) (S : Same Hx Hy) : GD Hb p q F b ds Hy where
  nF := g.nF
  O := g.O.trans (Off.of_same S)
  D := g.D.same S
  hp := g.hp
  hq := g.hq
  f := by
    obtain ⟨xs, h, d⟩ := g.f
    exact ⟨xs, S _ _ h, d.same (hide_same (same_noR S))⟩
theorem GD.draw {Hb Hx Hy : Hp} {p q F : Addr} {b b' : Nat} {ds : List PyData} (g : GD Hb p q F b ds Hx) (O : Off p q Hx Hy) (D : Dk Hy p q b') : GD Hb p q F b' ds Hy where
  nF := g.nF
  O := g.O.trans O
  D := D
  hp := g.hp
  hq := g.hq
  f := by
    obtain ⟨xs, h, d⟩ := g.f
    exact ⟨xs, O _ _ h g.hp g.hq, d.same (noR_off O)⟩
theorem GD.mono {Hb Hx : Hp} {p q F : Addr} {b b' : Nat} {ds : List PyData} (g : GD Hb p q F b ds Hx) (h : b ≤ b') : GD Hb p q F b' ds Hx := ⟨g.nF, g.O, g.D.mono h, g.hp, g.hq, g.f⟩
theorem GD.add {Hb Hx : Hp} {p q F : Addr} {b : Nat} {ds es : List PyData} {zs : List V} (g : GD Hb p q F b ds Hx) (hz : DatAll Hx zs es) (no : noLs es = true) : ∃ xs, Hx F = some (.lst xs) ∧ xs.length = ds.length ∧ zs.length = es.length ∧ GD Hb p q F b (ds ++ es) (upd Hx F (.lst (xs ++ zs))) := by
  obtain ⟨xs, h, d⟩ := g.f
  refine ⟨xs, h, d.len, hz.len, g.nF, fun c o e h1 h2 => ?_, dk_upd g.D g.hp g.hq, g.hp, g.hq, xs ++ zs, upd_same, ?_⟩
  · rw [upd_ne (ne_of_none e g.nF)]
    exact g.O c o e h1 h2
  · rw [noR_upd]
    exact datAll_append d (datAll_hide (dk_noR g.D g.hp g.hq) (dat_noLs h no hz) no)
theorem GD.fin {Hb Hx : Hp} {p q F : Addr} {b : Nat} {ds : List PyData} (g : GD Hb p q F b ds Hx) : ∃ xs, Hx F = some (.lst xs) ∧ xs.length = ds.length ∧ DatAll Hx xs ds := by
  obtain ⟨xs, h, d⟩ := g.f
  exact ⟨xs, h, d.len, (d.same (hide_sub _ _ _)).same noR_sub⟩
/-! calls beside the deck -/
theorem call_v {sp : Sp} {E0 : XK} {i : Nat} {t : TE} {σ : L2.St} {H : Hp} {Q : VK} {x : V} (hi : σ[i]? = some (some x)) (h : t σ H fun v H1 => sp [x, v] H1 Q E0) : tCall sp [] E0 (tCons (tVar i) (tCons t tNil)) σ H Q := ⟨x, hi, h⟩
theorem call_1 {sp : Sp} {E0 : XK} {i : Nat} {σ : L2.St} {H : Hp} {Q : VK} {x : V} (hi : σ[i]? = some (some x)) (h : sp [x] H Q E0) : tCall sp [] E0 (tCons (tVar i) tNil) σ H Q := ⟨x, hi, h⟩
theorem draw_c {H : Hp} {p q : Addr} {b i : Nat} {n : Int} {σ : L2.St} {Q : VK} (hi : σ[i]? = some (some (.ref p))) (D : Dk H p q b) (h0 : 0 < n) (h1 : n ≤ 1000000) (hb : b < 100000000) (k : ∀ (i : Nat) (H' : Hp), (i : Int) < n → Off p q H H' → Dk H' p q (b + 1) → Q (.int (i : Nat)) H') :
    tCall spDraw [] E0 (tCons (tVar i) (tCons (tC (.int n)) tNil)) σ H Q := ⟨_, hi, draw_of (E := E0) D h0 h1 hb k⟩
/-- 1 + draw(deck, n) -/
theorem draw_1 {H : Hp} {p q : Addr} {b i : Nat} {n : Int} {σ : L2.St} {Q : VK} (hi : σ[i]? = some (some (.ref p))) (D : Dk H p q b) (h0 : 0 < n) (h1 : n ≤ 1000000) (hb : b < 100000000) (k : ∀ (i : Nat) (H' : Hp), (i : Int) < n → Off p q H H' → Dk H' p q (b + 1) → Q (.int (1 + (i : Int))) H') :
    tOp (rI0 fun i j => .int (i + j)) (tC (.int 1)) (tCall spDraw [] E0 (tCons (tVar i) (tCons (tC (.int n)) tNil))) σ H Q := ⟨_, hi, draw_of (E := E0) (Q := fun v H' => rI0 (fun i j => .int (i + j)) (.int 1) v H' Q) D h0 h1 hb fun i H' hi O D' => ⟨1, _, rfl, rfl, k i H' hi O D'⟩⟩
/-! ### counts -/
abbrev s_counts : Stmt := top 46
def letsD : List (List Str) := [["a", "b", "c"], ["ab", "b", "bc"], ["x", "y", "zzzzzz"]]
theorem lets_ok : ∀ ls ∈ letsD, ls.length = 3 ∧ ls.Nodup ∧ ∀ x ∈ ls, nameS x = true := by decide +kernel
/-- counts as the maker gives them -/
structure CnOk (cs : Cn) (m : Nat) : Prop where
  nd : (cs.map (·.1)).Nodup
  nm : ∀ c ∈ cs, nameS c.1 = true
  tot : totN cs ≤ m
  len : cs.length ≤ 3
def spCnts : Sp := fun vs H Q _ => ∃ (p q : Addr) (b m : Nat), vs = [.ref p, .int (m : Nat)] ∧ m ≤ 100 ∧ Dk H p q b ∧ b + 10 ≤ 100000000 ∧
  ∀ (v : V) (cs : Cn) (H' : Hp), Off p q H H' → Dk H' p q (b + 8) → Dat (hide p q H') v (cntsD cs) → Fz (hide p q H') v → CnOk cs m → Q v H'
theorem totN_app (a b : Cn) : totN (a ++ b) = totN a + totN b := by
  unfold totN
  rw [List.map_append, List.sum_append]
theorem take_sub {α : Type} {l : List α} {j : Nat} {x : α} (h : l[j]? = some x) : l.take (j + 1) = l.take j ++ [x] := by
  rw [List.take_add_one, h]
  rfl
section
variable {P : Program} {w : World} {K : PySem.W.Frag} {mg : Str → Option Value} {base : Heap}
theorem sc_counts : FnScope ["_law_deck_here", "_law_most", "_law_letters", "_law_found", "_law_left", "_law_letter", "_law_often"] ["_law_deck_here", "_law_most"] (defScope s_counts) := ⟨rfl, rfl, rfl, by decide +kernel, rfl, by decide +kernel, by decide +kernel⟩
theorem okl_counts {f fD fP : Addr} {fd fdD fdP : FuncData} (F : Fun K "_law_counts" "_law_counts" s_counts f fd) (T : Nm mg)
    (D_draw : DefOk K mg "_law_draw" sDraw ["_law_deck_here", "_law_bound"] fD fdD) (D_pick : DefOk K mg "_law_pick" sPick ["_law_deck_here", "_law_items"] fP fdP) : FnOk P w K mg base CX0 3 f fd ["_law_deck_here", "_law_most"] spCnts := by
  have G_draw : FnOk P w K mg base CX0 1 fD fdD ["_law_deck_here", "_law_bound"] spDraw := ok_draw D_draw.F
  have G_pick : FnOk P w K mg base CX0 2 fP fdP ["_law_deck_here", "_law_items"] spPick := ok_pick D_pick.F T D_draw.F D_draw.b D_draw.g
  refine F.ok sc_counts (fun vs H Q E h => ?_) (fun cdv A outer s H vs Q E hr h => ?_)
  · obtain ⟨p, q, b, m, rfl, _⟩ := h
    rfl
  · obtain ⟨p, q, b, m, rfl, hm, D, hb, k⟩ := h
    have hr1 : Room 1 _ := hr.mono (by decide)
    refine ⟨_, (pss_cons (ps_par3 (i := 2) (j := 3) (l := 4) rfl sc_counts.nd rfl rfl rfl (by decide) (by decide) (by decide) rfl rfl rfl (pa_cons (pe_call G_pick hr rfl D_pick.g D_pick.F.kp D_pick.b .nil pass0 (pa_cons (pv 0) (pa_cons (pe_lst (pd_cons (pd_tup (by decide) (pd_cons (pd_str (by decide) pe_str) (pd_cons (pd_str (by decide) pe_str) (pd_cons (pd_str (by decide) pe_str) pd_nil)))) (pd_cons (pd_tup (by decide) (pd_cons (pd_str (by decide) pe_str) (pd_cons (pd_str (by decide) pe_str) (pd_cons (pd_str (by decide) pe_str) pd_nil)))) (pd_cons (pd_tup (by decide) (pd_cons (pd_str (by decide) pe_str) (pd_cons (pd_str (by decide) pe_str) (pd_cons (pd_str (by decide) pe_str) pd_nil)))) pd_nil)))) pa_nil))) (pa_cons (pe_lst pa_nil) (pa_cons (pv 1) pa_nil))) (by rfl))
      (pss_cons (ps_for PassesOwn.never rfl (pi_tup (pe_slice sl_tupA (pv 2) po_none (po_some (pe_op op_add pe_int (pe_call G_draw hr1 rfl D_draw.g D_draw.F.kp D_draw.b .nil pass0 (pa_cons (pv 0) (pa_cons pe_int pa_nil))))))) (pg_name (i := 5) sc_counts.nd rfl (Or.inl rfl))
        (pss_cons (ps_set (i := 6) sc_counts.nd rfl (Or.inl rfl) (pe_op op_add pe_int (pe_call G_draw hr1 rfl D_draw.g D_draw.F.kp D_draw.b .nil pass0 (pa_cons (pv 0) (pa_cons pe_int pa_nil)))))
        (pss_one (ps_if (pt_cmpR op_le (pv 6) (pv 4) (nomark _))
          (pss_cons (ps_expr (pe_bm PySem.F.plainAttrs_list PySem.F.slot_list_append PySem.F.type_list_append mt_append (pv 3) (pa_cons (pe_tup (pa_cons (pv 5) (pa_cons (pv 6) pa_nil))) pa_nil)))
          (pss_one (ps_set (i := 4) sc_counts.nd rfl (Or.inl rfl) (pe_op op_sub (pv 4) (pv 6)))))
          pss_nil))))
      (pss_one (ps_ret (pe_callTy call_tupF (by rfl) T.tuple (by decide +kernel) (pa_cons (pv 3) pa_nil)))))), ?_⟩
    refine ⟨_, rfl, fun ws H1 S1 hws => ⟨by rw [hws.len]; decide, fun l nl => ?_⟩⟩
    have hws : DatAll H1 ws (letsD.map fun ls => .tuple (ls.map PyData.str)) := hws
    have hwl := hws.len
    have S2 := same_new (o := HO.lst ws) nl
    have el : upd H1 l (.lst ws) l = some (.lst ws) := upd_same
    have hws2 := hws.same S2
    have D2 := (D.same S1).same S2
    have hlp := (D.same S1).new nl
    generalize upd H1 l (.lst ws) = H2 at el hws2 D2 S2 ⊢
    dsimp only [tNil]
    refine pick_of (E := E0) D2 el hlp.1 hlp.2 (by rw [hwl]; decide) (by rw [hwl]; decide) (by omega) fun j x H3 hx O3 D3 => ?_
    have O03 := (Off.of_same (p := p) (q := q) (S1.trans S2)).trans O3
    obtain ⟨d, hd, dx⟩ := hws2.get hx
    rw [List.getElem?_map] at hd
    obtain ⟨ls, hls, rfl⟩ := Option.map_eq_some_iff.mp hd
    obtain ⟨ll3, lnd, lnm⟩ := lets_ok ls (List.mem_of_getElem? hls)
    have dx3 : Dat (hide p q H3) x (.tuple (ls.map PyData.str)) := (dat_hide D2 dx (strs_noL ls)).same (hide_off O3)
    obtain ⟨ax, xs, rfl, hax, hxs⟩ := dat_tup dx3
    obtain rfl := dat_strs hxs
    refine ⟨(by show 0 ≤ sizeLine; decide), fun F nF => ⟨_, rfl, _, _, _, rfl, ?_⟩⟩
    have g0 := GD.start D3 nF
    have hax0 : TP (hide p q (upd H3 F (.lst []))) ax (ls.map V.str) := upR hax (hide_same (same_new nF))
    generalize upd H3 F (.lst []) = H4 at g0 hax0 ⊢
    -- the letters
    refine ⟨_, rfl, ?_⟩
    refine draw_1 (n := 3) rfl g0.D (by decide) (by decide) (by omega) fun i H5 hi O5 D5 => ⟨_, rfl, ?_⟩
    have g5 := g0.draw O5 D5
    have hax5 := upR hax0 (hide_off O5)
    refine slAny_of (upR hax5 (hide_sub _ _ _)) fun a2 H6 S6 ha2 => ?_
    have g6 := g5.same S6
    have e2 : cutV (ls.map V.str) none (some (1 + (i : Int))) = (ls.take (1 + i)).map V.str := by
      rw [show (1 : Int) + (i : Int) = ((1 + i : Nat) : Int) by omega, cutV_to, List.map_take]
    rw [e2] at ha2
    obtain ⟨xs6, hF6, _⟩ := g6.fin
    have hF6' : H6 F = some (.lst xs6) := hF6
    have hn2 : TP (hide p q (noR F H6)) a2 ((ls.take (1 + i)).map V.str) := tp_hide (dk_noR g6.D g6.hp g6.hq) (ha2.noR hF6')
    refine ⟨a2, rfl, ⟨_, sqT_rd ha2⟩, ?_⟩
    refine for_tup (K := K) (a := a2) (xs := (ls.take (1 + i)).map V.str) (fun j σ Hx => ∃ (cs : Cn) (lft : Nat) (w5 w6 : Option V), σ = [some (.ref p), some (.int (m : Nat)), some (.ref ax), some (.ref F), some (.int (lft : Nat)), w5, w6] ∧ GD H3 p q F (b + 2 + j) (cs.map cntD) Hx ∧ TP (hide p q (noR F Hx)) a2 ((ls.take (1 + i)).map V.str) ∧ (cs.map (·.1)).Sublist ((ls.take (1 + i)).take j) ∧ totN cs + lft ≤ m)
      ⟨[], m, none, none, rfl, g6.mono (by omega), hn2, by simp, by show 0 + m ≤ m; omega⟩ (fun j σ Hx _ ⟨_, _, _, _, _, _, ht, _⟩ => sqT_rd (upR (upR ht (hide_sub _ _ _)) noR_sub)) ?_ ?_
    · rintro j x Hσ Hx hj ⟨cs, lft, w5, w6, rfl, g, ht, hsub, htot⟩
      rw [List.getElem?_map] at hj
      obtain ⟨z, hz, rfl⟩ := Option.map_eq_some_iff.mp hj
      have hzm : z ∈ ls := List.mem_of_mem_take (List.mem_of_getElem? hz)
      have hjl := (List.getElem?_eq_some_iff.mp hz).1
      rw [List.length_take] at hjl
      refine draw_1 (n := 2) rfl g.D (by decide) (by decide) (by omega) fun i2 Hy hi2 Oy Dy => ?_
      have gy := g.draw Oy Dy
      have hty := upR ht (noR_off Oy)
      refine ⟨_, rfl, _, rfl, _, _, rfl, rfl, _, rfl, ?_⟩
      have hcl : cs.length ≤ j := by
        have := hsub.length_le
        rw [List.length_map, List.length_take, List.length_take] at this
        omega
      by_cases hle : 1 + i2 ≤ lft
      · refine if_t (decide_eq_true (by omega)) ?_
        obtain ⟨xs0, hF0, _⟩ := gy.fin
        refine ⟨_, rfl, .inl ⟨rfl, _, SqL.of hF0⟩, _, rfl, _, rfl, (by show 2 ≤ sizeLine; decide), fun t nt => ?_⟩
        have St := same_new (o := HO.tup [.str z, .int (1 + (i2 : Int))]) nt
        have ut : upd Hy t (.tup [.str z, .int (1 + (i2 : Int))]) t = some (.tup [.str z, .int (1 + (i2 : Int))]) := upd_same
        have gt := gy.same St
        have htt := upR hty (hide_same (same_noR St))
        generalize upd Hy t (.tup [.str z, .int (1 + (i2 : Int))]) = Hz at St ut gt htt ⊢
        have dz : DatAll Hz [.ref t] [cntD (z, 1 + i2)] := .cons (.tup (TP.of ut) (.cons (.str _ (name_short (lnm z hzm))) (.cons (dat_int' (by show (1 : Int) + (i2 : Int) = ((1 + i2 : Nat) : Int); omega)) .nil))) .nil
        obtain ⟨xs, hF, hxl, _, g'⟩ := gt.add dz rfl
        rw [List.length_map] at hxl
        refine ⟨F, xs, _, rfl, rfl, hF, (by rw [sizeLine_eq]; omega), ⟨_, rfl, _, rfl, _, _, rfl, rfl, cs ++ [(z, 1 + i2)], lft - (1 + i2), some (.str z), some (.int (1 + (i2 : Int))), ?_, ?_, ?_, ?_, ?_⟩⟩
        · have el : ((lft - (1 + i2) : Nat) : Int) = ((lft : Nat) : Int) - (1 + (i2 : Int)) := by omega
          rw [el]
          rfl
        · rw [List.map_append]
          exact g'.mono (by omega)
        · rw [noR_upd]
          exact htt
        · rw [List.map_append, take_sub hz]
          exact hsub.append (List.Sublist.refl _)
        · rw [totN_app]
          show totN cs + (1 + i2 + 0) + _ ≤ m
          omega
      · refine if_f (decide_eq_false (by omega)) ⟨cs, lft, _, _, rfl, gy.mono (by omega), hty, ?_, htot⟩
        rw [take_sub hz]
        exact hsub.trans (List.sublist_append_left _ _)
    · rintro σ Hx ⟨cs, lft, w5, w6, rfl, g, ht, hsub, htot⟩
      have hls : ((ls.take (1 + i)).map V.str).length ≤ 3 := by
        rw [List.length_map, List.length_take]
        omega
      obtain ⟨xs, hF, hxl, dF⟩ := g.fin
      have sub2 : (cs.map (·.1)).Sublist ls := hsub.trans ((List.take_sublist _ _).trans (List.take_sublist _ _))
      refine ⟨_, rfl, F, xs, rfl, SqL.of hF, fun l2 o2 n2 no2 => ?_⟩
      have Sl := same_new (o := HO.frz o2 (.tup xs)) n2
      have Dl := g.D.same Sl
      have ul : upd Hx l2 (.frz o2 (.tup xs)) l2 = some (.frz o2 (.tup xs)) := upd_same
      refine k _ cs _ ((O03.trans g.O).trans (Off.of_same Sl)) (Dl.mono (by omega)) (dat_hide Dl (.tup (TP.fz ul no2) (dF.same Sl)) (cnts_noL cs)) (fz_hide Dl ⟨l2, o2, xs, rfl, ul, no2⟩) ⟨lnd.sublist sub2, fun c hc => lnm _ (sub2.subset (List.mem_map_of_mem hc)), by omega, ?_⟩
      have := sub2.length_le
      rw [List.length_map] at this
      omega
end
end K9
set_option maxRecDepth 100000
set_option maxHeartbeats 8000000
namespace K9
open PySem PySem.Spec PyProof.Rows L2
/-! ### automata -/
abbrev s_automaton : Stmt := top 45
theorem sq_parD {t : TE} {u : TA} {i j : Nat} {R : TS} {D : Ends} {σ : L2.St} {H : Hp} (h : t σ H fun v H1 => u σ H1 fun vs H2 => ∃ x y, v :: vs = [x, y] ∧ R D ((σ.set i (some x)).set j (some y)) H2) : tSeq (tPar i j (tCons t u)) R D σ H := h
structure AuOk (ms : List (Nat × Str × Nat)) (ac : List Nat) : Prop where
  l : ms.length ≤ 6
  nm : ∀ m ∈ ms, nameS m.2.1 = true ∧ m.1 ≤ 3 ∧ m.2.2 ≤ 3
  la : ac.length ≤ 3
  na : ∀ a ∈ ac, a ≤ 3
def auD (ms : List (Nat × Str × Nat)) (ac : List Nat) : PyData := .tuple [.tuple (ms.map mvA), .tuple (ac.map fun i => .int (i : Nat))]
theorem mv_noL (ms : List (Nat × Str × Nat)) : noLs (ms.map mvA) = true := noLs_iff.mpr fun d hd => by
  obtain ⟨m, _, rfl⟩ := List.mem_map.mp hd
  rfl
theorem ac_noL (ac : List Nat) : noLs (ac.map fun i => PyData.int (i : Nat)) = true := noLs_iff.mpr fun d hd => by
  obtain ⟨m, _, rfl⟩ := List.mem_map.mp hd
  rfl
theorem au_noL (ms : List (Nat × Str × Nat)) (ac : List Nat) : noL (auD ms ac) = true := by
  unfold auD
  simp [noL, noLs, mv_noL, ac_noL]
def spAut : Sp := fun vs H Q _ => ∃ (p q : Addr) (b : Nat), vs = [.ref p] ∧ Dk H p q b ∧ b + 20 ≤ 100000000 ∧
  ∀ (v : V) (ms : List (Nat × Str × Nat)) (ac : List Nat) (H' : Hp), Off p q H H' → Dk H' p q (b + 10) → Dat (hide p q H') v (auD ms ac) → AuOk ms ac → Q v H'
section
variable {P : Program} {w : World} {K : PySem.W.Frag} {mg : Str → Option Value} {base : Heap}
theorem sc_automaton : FnScope ["_law_deck_here", "_law_size", "_law_moves", "_law_here", "_law_letter", "_law_to", "_law_k"] ["_law_deck_here"] (defScope s_automaton) := ⟨rfl, rfl, rfl, by decide +kernel, rfl, by decide +kernel, by decide +kernel⟩
theorem okl_automaton {f fD : Addr} {fd fdD : FuncData} (F : Fun K "_law_automaton" "_law_automaton" s_automaton f fd) (T : Nm mg)
    (D_draw : DefOk K mg "_law_draw" sDraw ["_law_deck_here", "_law_bound"] fD fdD) : FnOk P w K mg base CX0 2 f fd ["_law_deck_here"] spAut := by
  have G_draw : FnOk P w K mg base CX0 1 fD fdD ["_law_deck_here", "_law_bound"] spDraw := ok_draw D_draw.F
  refine F.ok sc_automaton (fun vs H Q E h => ?_) (fun cdv A outer s H vs Q E hr h => ?_)
  · obtain ⟨p, q, b, rfl, _⟩ := h
    rfl
  · obtain ⟨p, q, b, rfl, D, hb, k⟩ := h
    refine ⟨_, (pss_cons (ps_par (i := 1) (j := 2) rfl sc_automaton.nd rfl rfl (by decide) rfl rfl (pa_cons (pe_op op_add pe_int (pe_call G_draw hr rfl D_draw.g D_draw.F.kp D_draw.b .nil pass0 (pa_cons (pv 0) (pa_cons pe_int pa_nil)))) (pa_cons (pe_lst pa_nil) pa_nil)) (by rfl))
      (pss_cons (ps_for PassesOwn.never rfl (pi_range1 rfl T.range (pa_cons (pv 1) pa_nil)) (pg_name (i := 3) sc_automaton.nd rfl (Or.inl rfl))
        (pss_one (ps_for PassesOwn.never rfl (pi_tup (pe_tup (pa_cons pe_str (pa_cons pe_str pa_nil)))) (pg_name (i := 4) sc_automaton.nd rfl (Or.inl rfl))
          (pss_cons (ps_set (i := 5) sc_automaton.nd rfl (Or.inl rfl) (pe_call G_draw hr rfl D_draw.g D_draw.F.kp D_draw.b .nil pass0 (pa_cons (pv 0) (pa_cons (pe_op op_add (pv 1) pe_int) pa_nil))))
          (pss_one (ps_expr (pe_bm PySem.F.plainAttrs_list PySem.F.slot_list_extend PySem.F.type_list_extend mt_extend (pv 2) (pa_cons (pe_op op_rep (pe_lst (pa_cons (pe_tup (pa_cons (pv 3) (pa_cons (pv 4) (pa_cons (pv 5) pa_nil)))) pa_nil)) (pe_callTy call_int1 (by rfl) T.int (by decide +kernel) (pa_cons (pe_cmpR op_lt (pv 5) (pv 1) (nomark _)) pa_nil))) pa_nil))))))))
      (pss_one (ps_ret (pe_tup (pa_cons (pe_callTy call_tuple_of (by rfl) T.tuple (by decide +kernel) (pa_cons (pv 2) pa_nil)) (pa_cons (pe_callTy call_tuple_of (by rfl) T.tuple (by decide +kernel) (pa_cons (pe_lc (own := [("_law_k", 6)]) (g := (gName 6)) (tt := tTest (tOp (rI0 fun i j => .bl (decide (i > j))) (tCall spDraw [] E0 (tCons (tVar 0) (tCons (tC (.int 3)) tNil))) (tC (.int 0)))) rfl sc_automaton.nd (pi_range1 rfl T.range (pa_cons (pv 1) pa_nil)) (blkOk_by (N := ["_law_deck_here", "_law_size", "_law_moves", "_law_here", "_law_letter", "_law_to", "_law_k"]) (sc := defScope s_automaton) (by decide +kernel))
          (fun _ _ _ _ _ => (pg_name (i := 6) sc_automaton.nd rfl (Or.inl rfl))) (fun _ _ _ _ _ => pts_one (pt_cmpR op_gt (pe_call G_draw hr rfl D_draw.g D_draw.F.kp D_draw.b .nil pass0 (pa_cons (pv 0) (pa_cons pe_int pa_nil))) pe_int (nomark _))) (fun _ _ _ _ _ => (pv 6))) pa_nil)) pa_nil))))))), ?_⟩
    refine sq_parD (draw_1 (n := 3) rfl D (by decide) (by decide) (by omega) fun i H1 hi O1 D1 => ⟨(by show 0 ≤ sizeLine; decide), fun M nM => ⟨_, _, rfl, ?_⟩⟩)
    have e1 : (1 : Int) + (i : Int) = ((1 + i : Nat) : Int) := by omega
    have g0 := GD.start D1 nM
    generalize upd H1 M (.lst []) = H2 at g0 ⊢
    obtain ⟨n, hn⟩ : ∃ n, n = 1 + i := ⟨_, rfl⟩
    rw [← hn] at e1
    rw [e1]
    have hn3 : n ≤ 3 := by omega
    refine ⟨_, rfl, ((n : Nat) : Int), rfl, by omega, by omega, ?_⟩
    refine for_range (n := n) (fun j σ Hx => ∃ (ms : List (Nat × Str × Nat)) (w3 w4 w5 : Option V), σ = [some (.ref p), some (.int (n : Nat)), some (.ref M), w3, w4, w5, none] ∧ GD H1 p q M (b + 1 + 2 * j) (ms.map mvA) Hx ∧ ms.length ≤ 2 * j ∧ ∀ m ∈ ms, nameS m.2.1 = true ∧ m.1 ≤ 3 ∧ m.2.2 ≤ 3)
      ⟨[], none, none, none, rfl, g0, Nat.zero_le _, fun m hm => by cases hm⟩ ?_ ?_
    · rintro j σ Hx hj ⟨ms, w3, w4, w5, rfl, g, hl, hms⟩
      rw [show ((0 : Int) + (j : Nat)) = ((j : Nat) : Int) from Int.zero_add _]
      refine ⟨(by show 2 ≤ sizeLine; decide), fun tt ntt => ?_⟩
      have St := same_new (o := HO.tup [.str "a", .str "bc"]) ntt
      have ut : upd Hx tt (.tup [.str "a", .str "bc"]) tt = some (.tup [.str "a", .str "bc"]) := upd_same
      have gt := g.same St
      generalize upd Hx tt (.tup [.str "a", .str "bc"]) = Hy at St ut gt ⊢
      obtain ⟨x0, hM0, _⟩ := gt.fin
      have htt : TP (hide p q (noR M Hy)) tt ([("a" : Str), "bc"].map V.str) := tp_hide (dk_noR gt.D gt.hp gt.hq) ((TP.of ut).noR hM0)
      refine ⟨tt, rfl, ⟨_, sqT_rd (TP.of ut)⟩, ?_⟩
      refine for_tup (K := K) (a := tt) (xs := [("a" : Str), "bc"].map V.str) (fun z σ Hz => ∃ (ms : List (Nat × Str × Nat)) (w4 w5 : Option V), σ = [some (.ref p), some (.int (n : Nat)), some (.ref M), some (.int (j : Nat)), w4, w5, none] ∧ GD H1 p q M (b + 1 + 2 * j + z) (ms.map mvA) Hz ∧ TP (hide p q (noR M Hz)) tt ([("a" : Str), "bc"].map V.str) ∧ ms.length ≤ 2 * j + z ∧ ∀ m ∈ ms, nameS m.2.1 = true ∧ m.1 ≤ 3 ∧ m.2.2 ≤ 3)
        ⟨ms, w4, w5, rfl, gt, htt, hl, hms⟩ (fun z σ Hz _ ⟨_, _, _, _, _, ht, _⟩ => sqT_rd (upR (upR ht (hide_sub _ _ _)) noR_sub)) ?_ ?_
      · rintro z x σ Hz hz ⟨ms, w4, w5, rfl, g, ht, hl, hms⟩
        rw [List.getElem?_map] at hz
        obtain ⟨lt, hlt, rfl⟩ := Option.map_eq_some_iff.mp hz
        have hnm : nameS lt = true := by
          have hm := List.mem_of_getElem? hlt
          simp only [List.mem_cons, List.not_mem_nil, or_false] at hm
          rcases hm with rfl | rfl <;> decide +kernel
        have hz2 : z < 2 := (List.getElem?_eq_some_iff.mp hlt).1
        refine sq_any (call_v rfl ⟨_, rfl, _, _, rfl, rfl, draw_of (E := E0) (n := (n : Int) + 1) g.D (by omega) (by omega) (by omega) fun to Hy hto Oy Dy => ?_⟩)
        have gy := g.draw Oy Dy
        have hty := upR ht (noR_off Oy)
        obtain ⟨xs0, hM0, hxl0, _⟩ := gy.fin
        rw [List.length_map] at hxl0
        refine ⟨_, rfl, .inl ⟨rfl, _, SqL.of hM0⟩, _, rfl, _, rfl, _, rfl, (by show 3 ≤ sizeLine; decide), fun t nt => ⟨(by show 1 ≤ sizeLine; decide), fun l nl => ⟨_, rfl, _, rfl, _, _, rfl, rfl, .inr ⟨_, rfl, ?_⟩⟩⟩⟩
        have S1 := same_new (o := HO.tup [.int (j : Nat), .str lt, .int (to : Nat)]) nt
        have u1 : upd Hy t (.tup [.int (j : Nat), .str lt, .int (to : Nat)]) t = some (.tup [.int (j : Nat), .str lt, .int (to : Nat)]) := upd_same
        have S2 := same_new (o := HO.lst [.ref t]) nl
        have u2 : upd (upd Hy t (.tup [.int (j : Nat), .str lt, .int (to : Nat)])) l (.lst [.ref t]) l = some (.lst [.ref t]) := upd_same
        have u1 := S2 _ _ u1
        have S12 := S1.trans S2
        show rRep (.ref l) (.int (if decide ((to : Int) < (n : Int)) = true then 1 else 0)) (upd (upd Hy t (.tup [.int (j : Nat), .str lt, .int (to : Nat)])) l (.lst [.ref t])) _
        generalize upd (upd Hy t (.tup [.int (j : Nat), .str lt, .int (to : Nat)])) l (.lst [.ref t]) = Hl at u1 u2 S12 ⊢
        have gl := gy.same S12
        have htl := upR hty (hide_same (same_noR S12))
        by_cases hlt2 : (to : Int) < (n : Int)
        · rw [decide_eq_true hlt2]
          refine ⟨l, 1, [.ref t], rfl, rfl, u2, by decide, by decide, (by show 1 ≤ sizeLine; decide), fun r nr => ?_⟩
          have Sr := same_new (o := HO.lst [.ref t]) nr
          have ur : upd Hl r (.lst [.ref t]) r = some (.lst [.ref t]) := upd_same
          have gr := gl.same Sr
          have htr := upR htl (hide_same (same_noR Sr))
          have u1r := Sr _ _ u1
          have er : (List.replicate (Int.toNat 1) [V.ref t]).flatten = [V.ref t] := rfl
          rw [er]
          generalize upd Hl r (.lst [.ref t]) = Hr at Sr ur gr htr u1r ⊢
          have dz : DatAll Hr [.ref t] [mvA (j, lt, to)] := .cons (.tup (TP.of u1r) (.cons (.int _) (.cons (.str _ (name_short hnm)) (.cons (.int _) .nil)))) .nil
          obtain ⟨xs, hM, hxl, _, g'⟩ := gr.add dz rfl
          rw [List.length_map] at hxl
          refine ⟨M, r, xs, [.ref t], rfl, rfl, hM, ur, (by rw [sizeLine_eq]; show xs.length + 1 ≤ _; omega), ms ++ [(j, lt, to)], some (.str lt), some (.int (to : Nat)), rfl, ?_, ?_, ?_, ?_⟩
          · rw [List.map_append]
            exact g'
          · rw [noR_upd]
            exact htr
          · rw [List.length_append]
            show ms.length + 1 ≤ _
            omega
          · intro m hm
            rcases List.mem_append.mp hm with hm | hm
            · exact hms m hm
            · obtain rfl := List.mem_singleton.mp hm
              exact ⟨hnm, by show j ≤ 3; omega, by show to ≤ 3; omega⟩
        · rw [decide_eq_false hlt2]
          refine ⟨l, 0, [.ref t], rfl, rfl, u2, by decide, by decide, (by show 0 ≤ sizeLine; decide), fun r nr => ?_⟩
          have Sr := same_new (o := HO.lst []) nr
          have ur : upd Hl r (.lst []) r = some (.lst []) := upd_same
          have gr := gl.same Sr
          have htr := upR htl (hide_same (same_noR Sr))
          have er : (List.replicate (Int.toNat 0) [V.ref t]).flatten = [] := rfl
          rw [er]
          generalize upd Hl r (.lst []) = Hr at Sr ur gr htr ⊢
          obtain ⟨xs, hM, hxl, _, g'⟩ := gr.add (zs := []) (es := []) .nil rfl
          rw [List.length_map] at hxl
          refine ⟨M, r, xs, [], rfl, rfl, hM, ur, (by rw [sizeLine_eq]; show xs.length + 0 ≤ _; omega), ms, some (.str lt), some (.int (to : Nat)), rfl, ?_, ?_, by omega, hms⟩
          · rw [List.append_nil] at g' ⊢
            rw [List.append_nil] at g'
            exact g'
          · rw [noR_upd]
            exact htr
      · rintro σ Hz ⟨ms, w4, w5, rfl, g, ht, hl, hms⟩
        exact ⟨ms, _, w4, w5, rfl, g, hl, hms⟩
    · rintro σ Hx ⟨ms, w3, w4, w5, rfl, g, hl, hms⟩
      obtain ⟨xs, hM, hxl, dM⟩ := g.fin
      refine ⟨_, rfl, M, xs, rfl, .inl ⟨SqL.of hM, fun t1 n1 => ?_⟩⟩
      have S1 := same_new (o := HO.tup xs) n1
      have g1 := g.same S1
      have D1' := g1.D
      have d1 : Dat (hide p q (upd Hx t1 (.tup xs))) (.ref t1) (.tuple (ms.map mvA)) := dat_hide D1' (.tup (TP.of upd_same) (dM.same S1)) (mv_noL ms)
      have OA := g.O.trans (Off.of_same (p := p) (q := q) S1)
      generalize upd Hx t1 (.tup xs) = H3 at S1 g1 D1' d1 OA ⊢
      refine ⟨_, rfl, ((n : Nat) : Int), rfl, by omega, by omega, fun A nA => ?_⟩
      refine lc_range (n := n) (fun j Hz => ∃ ac : List Nat, GD H3 p q A (b + 7 + j) (ac.map fun i => PyData.int (i : Nat)) Hz ∧ ac.length ≤ j ∧ ∀ a ∈ ac, a ≤ 3) ⟨[], (GD.start D1' nA).mono (by omega), Nat.zero_le _, fun a ha => by cases ha⟩ ?_ ?_
      · rintro j Hz hj ⟨ac, ga, hal, hac⟩
        rw [show ((0 : Int) + (j : Nat)) = ((j : Nat) : Int) from Int.zero_add _]
        refine ⟨rfl, ?_⟩
        refine draw_c (n := 3) rfl ga.D (by decide) (by decide) (by omega) fun y Hy hy Oy Dy => ⟨_, _, rfl, rfl, _, rfl, ?_⟩
        have gy := ga.draw Oy Dy
        by_cases hy0 : (0 : Int) < (y : Int)
        · refine if_t (decide_eq_true hy0) ⟨_, rfl, ?_⟩
          obtain ⟨zs, hA, hzl, _, g'⟩ := gy.add (zs := [.int (j : Nat)]) (es := [.int (j : Nat)]) (.cons (.int _) .nil) rfl
          rw [List.length_map] at hzl
          refine ⟨zs, hA, (by rw [sizeLine_eq]; omega), ac ++ [j], ?_, ?_, ?_⟩
          · rw [List.map_append]
            exact g'
          · rw [List.length_append]
            show ac.length + 1 ≤ _
            omega
          · intro a ha
            rcases List.mem_append.mp ha with ha | ha
            · exact hac a ha
            · obtain rfl := List.mem_singleton.mp ha
              omega
        · exact if_f (decide_eq_false hy0) ⟨ac, gy, by omega, hac⟩
      · rintro Hz ⟨ac, ga, hal, hac⟩
        obtain ⟨zs, hA, hzl, dA⟩ := ga.fin
        refine ⟨A, zs, rfl, .inl ⟨SqL.of hA, fun t2 n2 => ⟨(by show 2 ≤ sizeLine; decide), fun t3 n3 => ?_⟩⟩⟩
        have S2 := same_new (o := HO.tup zs) n2
        have S3 := same_new (o := HO.tup [.ref t1, .ref t2]) n3
        have Df := (ga.D.same S2).same S3
        have dd1 := ((d1.same (hide_off ga.O)).same (hide_sub _ _ _)).same (S2.trans S3)
        have dd2 : Dat (upd Hz t2 (.tup zs)) (.ref t2) (.tuple (ac.map fun i => PyData.int (i : Nat))) := .tup (TP.of upd_same) (dA.same S2)
        have dF : Dat (upd (upd Hz t2 (.tup zs)) t3 (.tup [.ref t1, .ref t2])) (.ref t3) (auD ms ac) := .tup (TP.of upd_same) (.cons dd1 (.cons (dd2.same S3) .nil))
        refine k _ ms ac _ ((((O1.trans OA).trans ga.O).trans (Off.of_same S2)).trans (Off.of_same S3)) (Df.mono (by omega)) (dat_hide Df dF (au_noL ms ac)) ⟨by omega, hms, by omega, hac⟩
end
end K9
set_option maxRecDepth 100000
set_option maxHeartbeats 8000000
namespace K9
open PySem PySem.Spec PyProof.Rows L2
/-! ### leaves: what is asked of them -/
theorem cons_of {ta : TE} {tr : TA} {σ : L2.St} {H : Hp} {Q : List V → Hp → Prop} (h : ta σ H fun x H1 => tr σ H1 fun xs H2 => Q (x :: xs) H2) : tCons ta tr σ H Q := h
theorem FineL.nil {s : Nat} : FineL s 0 0 [] := ⟨(fun d hd => by cases hd), by simp [massAll], by simp [PyData.depthAll]⟩
theorem FineL.cons {s m n m' n' : Nat} {d : PyData} {ds : List PyData} (F : Fine s m n d) (G : FineL s m' n' ds) : FineL s (m + m') (max n n') (d :: ds) := by
  have := (FineL.one F).app G
  exact this
theorem fine_n {s : Nat} {i : Int} (h1 : -1000 ≤ i) (h2 : i ≤ 1000) : Fine s 1 0 (.int i) := by
  refine ⟨?_, by simp [mass], by simp [PyData.depth]⟩
  rw [fineB]
  exact decide_eq_true (Nat.lt_of_lt_of_le (show i.natAbs < 10 ^ 4 by omega) (Nat.pow_le_pow_right (by decide) (by omega)))
theorem fine_str {s : Nat} {x : Str} (h : x.cps.toList.all (fun c => decide (c < 128)) = true) (h2 : x.length ≤ 12) : Fine s 13 0 (.str x) := by
  refine ⟨?_, ?_, by simp [PyData.depth]⟩
  · rw [fineB, h]
    exact decide_eq_true (by omega)
  · have e : x.length = x.cps.size := rfl
    simp only [mass]
    omega
theorem fine_nm {s : Nat} {x : Str} (h : nameS x = true) : Fine s 7 0 (.str x) := by
  obtain ⟨h1, h2⟩ := fine_name h
  refine ⟨?_, h2, by simp [PyData.depth]⟩
  have : ∀ s : Nat, fineB s (.str x) = true := fun s => by
    induction s with
    | zero => exact h1
    | succ s ih => exact fine_up _ ih
  exact this s
theorem finel_map {α : Type} {s m n : Nat} (f : α → PyData) : ∀ l : List α, (∀ x ∈ l, Fine s m n (f x)) → FineL s (l.length * m) n (l.map f)
  | [], _ => by
    have := FineL.nil (s := s)
    exact ⟨this.f, by simp [massAll], by simp [PyData.depthAll]⟩
  | x :: l, h => by
    have a := finel_map f l fun y hy => h y (List.mem_cons_of_mem _ hy)
    have b := h x List.mem_cons_self
    have c := FineL.cons b a
    refine ⟨c.f, Nat.le_trans c.m (by rw [List.length_cons, Nat.succ_mul]; omega), Nat.le_trans c.n (by omega)⟩
structure LeafOk (l : L9) : Prop where
  fi : FineS (.leaf l)
  fn : Fine 0 1000 20 (ldt l)
theorem leaf_fi {l : L9} (h1 : okL l = true) (h2 : noL (ldt l) = true) (h3 : smallL l = true) (h4 : leafZ l = true) : FineS (.leaf l) := ⟨by rw [okS]; exact h1, by rw [tinyS]; exact h2, by rw [smS, h3, h4]; rfl⟩
theorem ok_sub {n k : Nat} (hn : n ≤ 10) (hk : k ≤ 10) : LeafOk (.sub n k) := by
  refine ⟨leaf_fi rfl rfl (decide_eq_true (by omega)) (decide_eq_true (by omega)), ?_⟩
  have := (FineL.cons (s := 0) (fine_str (x := "subset") (by decide +kernel) (by decide)) (FineL.cons (fine_n (i := (n : Nat)) (by omega) (by omega)) (FineL.cons (fine_n (i := (k : Nat)) (by omega) (by omega)) FineL.nil))).tup
  exact this.mono (by decide) (by decide)
theorem cnts_fineL {cs : Cn} {m : Nat} (h : CnOk cs m) (hm : m ≤ 100) : Fine 0 40 2 (cntsD cs) := by
  have htot : ∀ l : Cn, (∀ c ∈ l, c.2 ≤ totN l) := by
    intro l c hc
    obtain ⟨a, b, rfl⟩ := List.append_of_mem hc
    rw [totN_app]
    unfold totN
    rw [List.map_cons, List.sum_cons]
    omega
  have := finel_map (s := 0) (m := 9) (n := 1) cntD cs fun c hc => by
    have e := htot cs c hc
    have e2 := h.tot
    have := (FineL.cons (fine_nm (s := 0) (h.nm c hc)) (FineL.cons (fine_n (i := (c.2 : Nat)) (by omega) (by omega)) FineL.nil)).tup
    exact this.mono (by decide) (by decide)
  have e : cs.length * 9 ≤ 27 := by
    have := h.len
    omega
  exact this.tup.mono (by omega) (by decide)
theorem ok_word {cs : Cn} {m : Nat} (h : CnOk cs m) (hm : m ≤ 100) : LeafOk (.word cs) := by
  have hl := h.len
  refine ⟨leaf_fi (decide_eq_true (by omega)) ?_ (decide_eq_true h.nd) ?_, ?_⟩
  · show noLs [_, cntsD cs] = true
    simp [noLs, noL, cnts_noL]
  · show cntsY cs = true
    unfold cntsY
    rw [Bool.and_eq_true, List.all_eq_true]
    have : totN cs ≤ m := h.tot
    exact ⟨decide_eq_true (show totN cs ≤ 1000 by omega), h.nm⟩
  · have := (FineL.cons (s := 0) (fine_str (x := "word") (by decide +kernel) (by decide)) (FineL.cons (cnts_fineL h hm) FineL.nil)).tup
    exact this.mono (by decide) (by decide)
theorem ok_arr {o : PyData} {ns : List Str} (h1 : orderB 6 o = true) (h2 : namesN 6 o = ns) (h3 : ns.length ≤ 6) (h4 : noL o = true) (h5 : Fine 0 200 11 o) : LeafOk (.arr o) := by
  refine ⟨leaf_fi h1 ?_ rfl (decide_eq_true (by rw [h2]; omega)), ?_⟩
  · show noLs [_, o] = true
    simp [noLs, noL, h4]
  · have := (FineL.cons (s := 0) (fine_str (x := "arrangement") (by decide +kernel) (by decide)) (FineL.cons h5 FineL.nil)).tup
    exact this.mono (by decide) (by decide)
theorem ok_walk {n s e lo hi : Int} (h1 : 0 ≤ n ∧ n ≤ 60) (h2 : -100 ≤ s ∧ s ≤ 100) (h3 : -100 ≤ e ∧ e ≤ 100) (h4 : -100 ≤ lo ∧ lo ≤ 100) (h5 : -100 ≤ hi ∧ hi ≤ 100) : LeafOk (.walk n s e lo hi) := by
  refine ⟨leaf_fi rfl rfl rfl ?_, ?_⟩
  · unfold leafZ
    simp only [Bool.and_eq_true, decide_eq_true_eq]
    exact ⟨h1, h2, h3, h4, h5⟩
  · have := (FineL.cons (s := 0) (fine_str (x := "walk") (by decide +kernel) (by decide)) (FineL.cons (fine_n (i := n) (by omega) (by omega)) (FineL.cons (fine_n (i := s) (by omega) (by omega)) (FineL.cons (fine_n (i := e) (by omega) (by omega)) (FineL.cons (fine_n (i := lo) (by omega) (by omega)) (FineL.cons (fine_n (i := hi) (by omega) (by omega)) FineL.nil)))))).tup
    exact this.mono (by decide) (by decide)
theorem ok_cyc {n : Nat} (hn : n ≤ 10) : LeafOk (.cyc n) := by
  refine ⟨leaf_fi rfl rfl (decide_eq_true (by omega)) rfl, ?_⟩
  have := (FineL.cons (s := 0) (fine_str (x := "cycle") (by decide +kernel) (by decide)) (FineL.cons (fine_n (i := (n : Nat)) (by omega) (by omega)) FineL.nil)).tup
  exact this.mono (by decide) (by decide)
theorem ok_mat {n : Nat} (hn : n ≤ 10) : LeafOk (.mat n) := by
  refine ⟨leaf_fi (decide_eq_true (by omega)) rfl (decide_eq_true (by omega)) (decide_eq_true (by omega)), ?_⟩
  have := (FineL.cons (s := 0) (fine_str (x := "matching") (by decide +kernel) (by decide)) (FineL.cons (fine_n (i := (n : Nat)) (by omega) (by omega)) FineL.nil)).tup
  exact this.mono (by decide) (by decide)
theorem ok_tree {n : Nat} (hn : n ≤ 10) : LeafOk (.tree n) := by
  refine ⟨leaf_fi rfl rfl (decide_eq_true (by omega)) rfl, ?_⟩
  have := (FineL.cons (s := 0) (fine_str (x := "tree") (by decide +kernel) (by decide)) (FineL.cons (fine_n (i := (n : Nat)) (by omega) (by omega)) FineL.nil)).tup
  exact this.mono (by decide) (by decide)
theorem ints_fineL {l : List Nat} (hl : l.length ≤ 10) (h : ∀ a ∈ l, a ≤ 10) : Fine 0 11 1 (.tuple (l.map fun i => PyData.int (i : Nat))) := by
  have := finel_map (s := 0) (m := 1) (n := 0) (fun i : Nat => PyData.int (i : Nat)) l fun a ha => fine_n (by omega) (by have := h a ha; omega)
  exact this.tup.mono (by omega) (by decide)
theorem ok_perm {n : Nat} {l : List Nat} (hn : n ≤ 10) (hl : l.length ≤ 10) (h : ∀ a ∈ l, a ≤ 10) : LeafOk (.perm n (.tuple (l.map fun i => PyData.int (i : Nat)))) := by
  refine ⟨leaf_fi rfl ?_ (decide_eq_true (by omega)) rfl, ?_⟩
  · show noLs [_, _, _] = true
    simp [noLs, noL, ac_noL]
  · have := (FineL.cons (s := 0) (fine_str (x := "permutation") (by decide +kernel) (by decide)) (FineL.cons (fine_n (i := (n : Nat)) (by omega) (by omega)) (FineL.cons (ints_fineL hl h) FineL.nil))).tup
    exact this.mono (by decide) (by decide)
theorem ok_strl {ms : List (Nat × Str × Nat)} {ac : List Nat} {n : Nat} (h : AuOk ms ac) (hn : n ≤ 10) : LeafOk (.str ms ac n) := by
  have h1 := h.l
  have h2 := h.la
  refine ⟨leaf_fi rfl ?_ rfl ?_, ?_⟩
  · show noLs [_, auD ms ac, _] = true
    simp [noLs, noL, au_noL]
  · unfold leafZ
    simp only [Bool.and_eq_true, decide_eq_true_eq, List.all_eq_true]
    exact ⟨by omega, by omega, fun m hm => (h.nm m hm).1⟩
  · have a := finel_map (s := 0) (m := 10) (n := 1) mvA ms fun m hm => by
      obtain ⟨b1, b2, b3⟩ := h.nm m hm
      have := (FineL.cons (fine_n (s := 0) (i := (m.1 : Nat)) (by omega) (by omega)) (FineL.cons (fine_nm b1) (FineL.cons (fine_n (i := (m.2.2 : Nat)) (by omega) (by omega)) FineL.nil))).tup
      exact this.mono (by decide) (by decide)
    have b := ints_fineL (l := ac) (by omega) fun x hx => by have := h.na x hx; omega
    have c := (FineL.cons a.tup (FineL.cons b FineL.nil)).tup
    have := (FineL.cons (s := 0) (fine_str (x := "string") (by decide +kernel) (by decide)) (FineL.cons c (FineL.cons (fine_n (i := (n : Nat)) (by omega) (by omega)) FineL.nil))).tup
    exact this.mono (by omega) (by omega)
/-! what a maker of leaves hands on -/
def Leafs (H : Hp) (p q : Addr) (b : Nat) (Q : VK) : Prop := ∀ (v : V) (l : L9) (H' : Hp), Off p q H H' → Dk H' p q b → Dat (hide p q H') v (ldt l) → FzF (hide p q H') v l → LeafOk l → Q v H'
theorem fin_leaf {H Hc : Hp} {p q a : Addr} {b bc : Nat} {Q : VK} {l : L9} {xs : List V} {ds : List PyData} (k : Leafs H p q b Q) (O : Off p q H Hc) (D : Dk Hc p q bc) (hb : bc ≤ b) (na : Hc a = none) (e : ldt l = .tuple ds) (hd : DatAll Hc xs ds) (fz : (∃ cs, l = .word cs) → ∃ z v1, xs = [z, v1] ∧ Fz Hc v1) (ok : LeafOk l) : Q (.ref a) (upd Hc a (.tup xs)) := by
  have S := same_new (o := HO.tup xs) na
  have D1 := D.same S
  have ti := ok.fi.ti
  rw [tinyS] at ti
  refine k _ l _ (O.trans (Off.of_same S)) (D1.mono hb) (dat_hide D1 (by rw [e]; exact .tup (TP.of upd_same) (hd.same S)) ti) (fun hw => ?_) ok
  obtain ⟨z, v1, rfl, hf⟩ := fz hw
  exact ⟨a, z, v1, rfl, tp_hide D1 (TP.of upd_same), fz_hide D1 (hf.same S)⟩
end K9
set_option maxRecDepth 100000
set_option maxHeartbeats 8000000
namespace K9
open PySem PySem.Spec PyProof.Rows L2
/-! ### the law's leaf -/
abbrev s_leaf : Stmt := top 47
theorem ret_tup1 {v : V} {t : TA} {D : Ends} {σ : L2.St} {H : Hp} (h : t σ H fun xs H1 => (v :: xs).length ≤ sizeLine ∧ ∀ p, H1 p = none → D.rt (.ref p) (upd H1 p (.tup (v :: xs)))) : tRet (tTup (tCons (tC v) t)) D σ H := h
theorem ret_if1 {G : List (Nat × PyData)} {c : TT} {ta tb : TE} {D : Ends} {σ : L2.St} {H : Hp} (M : MkT G c true) (E : EnvOk G σ H) (k : ∀ H' : Hp, Same H H' → tRet ta D σ H') : tRet (tIf c ta tb) D σ H := M σ H _ E fun H1 S => (if_pos rfl : (if true = true then ta σ H1 D.rt else tb σ H1 D.rt) = _) ▸ k H1 S
theorem ret_if0 {G : List (Nat × PyData)} {c : TT} {ta tb : TE} {D : Ends} {σ : L2.St} {H : Hp} (M : MkT G c false) (E : EnvOk G σ H) (k : ∀ H' : Hp, Same H H' → tRet tb D σ H') : tRet (tIf c ta tb) D σ H := M σ H _ E fun H1 S => (if_neg Bool.false_ne_true : (if false = true then ta σ H1 D.rt else tb σ H1 D.rt) = _) ▸ k H1 S
theorem mk_inI {K : PySem.W.Frag} {G : List (Nat × PyData)} {t : TE} {ws : List Int} {z : Int} {c : Bool} {w : TA} (h : Mk G t (.int z)) (hs : Mks G w (ws.map PyData.int)) (hl : ws.length ≤ 100) (e : inV (.int z) (ws.map V.int) = c) : Mk G (tOp (rIn K false) t (tTup w)) (.bool c) := fun σ H Q E q => h σ H _ E fun v H1 S1 d1 => hs σ H1 _ (E.same S1) fun vs H2 S2 d2 => by
  obtain rfl := dat_isInt d1
  obtain rfl := dat_ints d2
  refine ⟨by rw [List.length_map, sizeLine_eq]; omega, fun p np => ⟨p, _, rfl, .inr (SqT.of upd_same), rfl, ?_, ?_⟩⟩
  · rw [List.all_eq_true]
    intro x hx
    obtain ⟨y, _, rfl⟩ := List.mem_map.mp hx
    rfl
  · show Q (.bl (inV (.int z) (ws.map V.int))) _
    rw [e]
    exact q _ _ ((S1.trans S2).trans (same_new np)) (.bl c)
/-- draw(deck, n) - 1 -/
theorem draw_m {H : Hp} {p q : Addr} {b i : Nat} {n m : Int} {σ : L2.St} {Q : VK} (hi : σ[i]? = some (some (.ref p))) (D : Dk H p q b) (h0 : 0 < n) (h1 : n ≤ 1000000) (hb : b < 100000000) (k : ∀ (i : Nat) (H' : Hp), (i : Int) < n → Off p q H H' → Dk H' p q (b + 1) → Q (.int ((i : Int) - m)) H') :
    tOp (rI0 fun i j => .int (i - j)) (tCall spDraw [] E0 (tCons (tVar i) (tCons (tC (.int n)) tNil))) (tC (.int m)) σ H Q := ⟨_, hi, draw_of (E := E0) (Q := fun v H' => rI0 (fun i j => .int (i - j)) v (.int m) H' Q) D h0 h1 hb fun i H' hi O D' => ⟨_, m, rfl, rfl, k i H' hi O D'⟩⟩
/-- x op draw(deck, n) -/
theorem draw_o {H : Hp} {p q : Addr} {b i : Nat} {n x : Int} {g : Int → Int → V} {σ : L2.St} {Q : VK} (hi : σ[i]? = some (some (.ref p))) (D : Dk H p q b) (h0 : 0 < n) (h1 : n ≤ 1000000) (hb : b < 100000000) (k : ∀ (i : Nat) (H' : Hp), (i : Int) < n → Off p q H H' → Dk H' p q (b + 1) → Q (g x (i : Int)) H') :
    tCall spDraw [] E0 (tCons (tVar i) (tCons (tC (.int n)) tNil)) σ H (fun y H' => rI0 g (.int x) y H' Q) := ⟨_, hi, draw_of (E := E0) (Q := fun y H' => rI0 g (.int x) y H' Q) D h0 h1 hb fun i H' hi O D' => ⟨x, _, rfl, rfl, k i H' hi O D'⟩⟩
def spLeaf : Sp := fun vs H Q _ => ∃ (p q : Addr) (b k : Nat), vs = [.ref p, .int (k : Nat)] ∧ k < 9 ∧ Dk H p q b ∧ b + 60 ≤ 100000000 ∧ Leafs H p q (b + 40) Q
section
variable {P : Program} {w : World} {K : PySem.W.Frag} {mg : Str → Option Value} {base : Heap}
theorem sc_leaf : FnScope ["_law_deck_here", "_law_sort", "_law_n", "_law_names_here", "_law_start", "_law_end", "_law_low", "_law_high", "_law_p"] ["_law_deck_here", "_law_sort"] (defScope s_leaf) := ⟨rfl, rfl, rfl, by decide +kernel, rfl, by decide +kernel, by decide +kernel⟩
theorem okl_leaf {f fD fP fC fO fA : Addr} {fd fdD fdP fdC fdO fdA : FuncData} (F : Fun K "_law_leaf" "_law_leaf" s_leaf f fd) (T : Nm mg) (Tmin : mg "min" = none) (Tmax : mg "max" = none)
    (D_draw : DefOk K mg "_law_draw" sDraw ["_law_deck_here", "_law_bound"] fD fdD) (D_pick : DefOk K mg "_law_pick" sPick ["_law_deck_here", "_law_items"] fP fdP)
    (D_counts : DefOk K mg "_law_counts" s_counts ["_law_deck_here", "_law_most"] fC fdC) (D_order : DefOk K mg "_law_order" s_order ["_law_deck_here", "_law_names_here"] fO fdO) (D_automaton : DefOk K mg "_law_automaton" s_automaton ["_law_deck_here"] fA fdA) : FnOk P w K mg base CX0 9 f fd ["_law_deck_here", "_law_sort"] spLeaf := by
  have G_draw : FnOk P w K mg base CX0 1 fD fdD ["_law_deck_here", "_law_bound"] spDraw := ok_draw D_draw.F
  have G_pick : FnOk P w K mg base CX0 2 fP fdP ["_law_deck_here", "_law_items"] spPick := ok_pick D_pick.F T D_draw.F D_draw.b D_draw.g
  have G_counts : FnOk P w K mg base CX0 3 fC fdC ["_law_deck_here", "_law_most"] spCnts := okl_counts D_counts.F T D_draw D_pick
  have G_order : FnOk P w K mg base CX0 8 fO fdO ["_law_deck_here", "_law_names_here"] (spOrd 5) := okl_order D_order.F D_order.b D_order.g T D_draw D_pick 5
  have G_automaton : FnOk P w K mg base CX0 2 fA fdA ["_law_deck_here"] spAut := okl_automaton D_automaton.F T D_draw
  refine F.ok sc_leaf (fun vs H Q E h => ?_) (fun cdv A outer s H vs Q E hr h => ?_)
  · obtain ⟨p, q, b, k, rfl, _⟩ := h
    rfl
  · obtain ⟨p, q, b, z, rfl, hz, D, hb, k⟩ := h
    have hr1 : Room 1 _ := hr.mono (by decide)
    have hr2 : Room 2 _ := hr.mono (by decide)
    have hr3 : Room 3 _ := hr.mono (by decide)
    refine ⟨_, (pss_cons (ps_if (pt_cmpR op_eq (pv 1) pe_int (nomark _))
        (pss_cons (ps_set (i := 2) sc_leaf.nd rfl (Or.inl rfl) (pe_call G_draw hr1 rfl D_draw.g D_draw.F.kp D_draw.b .nil pass0 (pa_cons (pv 0) (pa_cons pe_int pa_nil))))
        (pss_one (ps_ret (pe_tup (pa_cons pe_str (pa_cons (pv 2) (pa_cons (pe_call G_draw hr1 rfl D_draw.g D_draw.F.kp D_draw.b .nil pass0 (pa_cons (pv 0) (pa_cons (pe_op op_add (pv 2) pe_int) pa_nil))) pa_nil)))))))
        pss_nil)
      (pss_cons (ps_if (pt_cmpR op_eq (pv 1) pe_int (nomark _))
        (pss_one (ps_ret (pe_tup (pa_cons pe_str (pa_cons (pe_call G_counts hr3 rfl D_counts.g D_counts.F.kp D_counts.b .nil pass0 (pa_cons (pv 0) (pa_cons pe_int pa_nil))) pa_nil)))))
        pss_nil)
      (pss_cons (ps_if (pt_cmpR op_eq (pv 1) pe_int (nomark _))
        (pss_cons (ps_set (i := 3) sc_leaf.nd rfl (Or.inl rfl) (pe_call G_pick hr2 rfl D_pick.g D_pick.F.kp D_pick.b .nil pass0 (pa_cons (pv 0) (pa_cons (pe_lst (pa_cons (pe_lst (pa_cons pe_str (pa_cons pe_str (pa_cons pe_str (pa_cons pe_str pa_nil))))) (pa_cons (pe_lst (pa_cons pe_str (pa_cons pe_str (pa_cons pe_str pa_nil)))) (pa_cons (pe_lst (pa_cons pe_str (pa_cons pe_str pa_nil))) (pa_cons (pe_lst (pa_cons pe_str pa_nil)) pa_nil))))) pa_nil))))
        (pss_one (ps_ret (pe_tup (pa_cons pe_str (pa_cons (pe_call G_order hr rfl D_order.g D_order.F.kp D_order.b .nil pass0 (pa_cons (pv 0) (pa_cons (pv 3) pa_nil))) pa_nil))))))
        pss_nil)
      (pss_cons (ps_if (pt_cmpR op_eq (pv 1) pe_int (nomark _))
        (pss_cons (ps_par (i := 4) (j := 5) rfl sc_leaf.nd rfl rfl (by decide) rfl rfl (pa_cons (pe_op op_sub (pe_call G_draw hr1 rfl D_draw.g D_draw.F.kp D_draw.b .nil pass0 (pa_cons (pv 0) (pa_cons pe_int pa_nil))) pe_int) (pa_cons (pe_op op_sub (pe_call G_draw hr1 rfl D_draw.g D_draw.F.kp D_draw.b .nil pass0 (pa_cons (pv 0) (pa_cons pe_int pa_nil))) pe_int) pa_nil)) (by rfl))
        (pss_cons (ps_par (i := 6) (j := 7) rfl sc_leaf.nd rfl rfl (by decide) rfl rfl (pa_cons (pe_op op_sub (pe_callB (call_min2 rfl) (by rfl) Tmin (by decide +kernel) (pa_cons (pv 4) (pa_cons (pv 5) pa_nil))) (pe_call G_draw hr1 rfl D_draw.g D_draw.F.kp D_draw.b .nil pass0 (pa_cons (pv 0) (pa_cons pe_int pa_nil)))) (pa_cons (pe_op op_add (pe_callB (call_max2 rfl) (by rfl) Tmax (by decide +kernel) (pa_cons (pv 4) (pa_cons (pv 5) pa_nil))) (pe_call G_draw hr1 rfl D_draw.g D_draw.F.kp D_draw.b .nil pass0 (pa_cons (pv 0) (pa_cons pe_int pa_nil)))) pa_nil)) (by rfl))
        (pss_one (ps_ret (pe_tup (pa_cons pe_str (pa_cons (pe_call G_draw hr1 rfl D_draw.g D_draw.F.kp D_draw.b .nil pass0 (pa_cons (pv 0) (pa_cons pe_int pa_nil))) (pa_cons (pv 4) (pa_cons (pv 5) (pa_cons (pv 6) (pa_cons (pv 7) pa_nil)))))))))))
        pss_nil)
      (pss_cons (ps_if (pt_cmpR op_in_seq (pv 1) (pe_tup (pa_cons pe_int (pa_cons pe_int pa_nil))) rfl)
        (pss_one (ps_ret (pe_ifExp (pt_cmpR op_eq (pv 1) pe_int (nomark _)) (pe_tup (pa_cons pe_str (pa_cons (pe_op op_add pe_int (pe_call G_draw hr1 rfl D_draw.g D_draw.F.kp D_draw.b .nil pass0 (pa_cons (pv 0) (pa_cons pe_int pa_nil)))) pa_nil))) (pe_tup (pa_cons pe_str (pa_cons (pe_call G_draw hr1 rfl D_draw.g D_draw.F.kp D_draw.b .nil pass0 (pa_cons (pv 0) (pa_cons pe_int pa_nil))) pa_nil))))))
        pss_nil)
      (pss_cons (ps_if (pt_cmpR op_eq (pv 1) pe_int (nomark _))
        (pss_cons (ps_set (i := 2) sc_leaf.nd rfl (Or.inl rfl) (pe_call G_draw hr1 rfl D_draw.g D_draw.F.kp D_draw.b .nil pass0 (pa_cons (pv 0) (pa_cons pe_int pa_nil))))
        (pss_one (ps_ret (pe_tup (pa_cons pe_str (pa_cons (pv 2) (pa_cons (pe_callTy call_tuple_of (by rfl) T.tuple (by decide +kernel) (pa_cons (pe_lc (own := [("_law_p", 8)]) (g := (gName 8)) (tt := tTest (tOp rEq (tCall spDraw [] E0 (tCons (tVar 0) (tCons (tC (.int 2)) tNil))) (tC (.int 0)))) rfl sc_leaf.nd (pi_range1 rfl T.range (pa_cons (pv 2) pa_nil)) (blkOk_by (N := ["_law_deck_here", "_law_sort", "_law_n", "_law_names_here", "_law_start", "_law_end", "_law_low", "_law_high", "_law_p"]) (sc := defScope s_leaf) (by decide +kernel))
          (fun _ _ _ _ _ => (pg_name (i := 8) sc_leaf.nd rfl (Or.inl rfl))) (fun _ _ _ _ _ => pts_one (pt_cmpR op_eq (pe_call G_draw hr1 rfl D_draw.g D_draw.F.kp D_draw.b .nil pass0 (pa_cons (pv 0) (pa_cons pe_int pa_nil))) pe_int (nomark _))) (fun _ _ _ _ _ => (pv 8))) pa_nil)) pa_nil)))))))
        pss_nil)
      (pss_one (ps_ret (pe_ifExp (pt_cmpR op_eq (pv 1) pe_int (nomark _)) (pe_tup (pa_cons pe_str (pa_cons (pe_op op_add pe_int (pe_call G_draw hr1 rfl D_draw.g D_draw.F.kp D_draw.b .nil pass0 (pa_cons (pv 0) (pa_cons pe_int pa_nil)))) pa_nil))) (pe_tup (pa_cons pe_str (pa_cons (pe_call G_automaton hr2 rfl D_automaton.g D_automaton.F.kp D_automaton.b .nil pass0 (pa_cons (pv 0) pa_nil)) (pa_cons (pe_call G_draw hr1 rfl D_draw.g D_draw.F.kp D_draw.b .nil pass0 (pa_cons (pv 0) (pa_cons pe_int pa_nil))) pa_nil))))))))))))), ?_⟩
    have E0' : EnvOk [(1, .int (z : Nat))] [some (V.ref p), some (.int (z : Nat)), none, none, none, none, none, none, none] H := fun pr hp => by
      obtain rfl := List.mem_singleton.mp hp
      exact ⟨_, rfl, .int _⟩
    match z, hz, E0' with
    | 0, _, EV =>
      refine sq_if1 (mkt (mk_eq (mk_var List.mem_cons_self) mk_int (by decide))) EV fun H0 S0 => ?_
      have EE0 := (EV).same S0
      have DX := D.same S0
      have OX := Off.of_same (p := p) (q := q) S0
      have EX := EE0
      refine sq_any (draw_c (n := 6) rfl DX (by decide) (by decide) (by omega) fun n Ha hn Oa Da => ?_)
      refine ⟨_, rfl, cons_of (call_v rfl ⟨_, rfl, _, _, rfl, rfl, draw_of (E := E0) (n := (n : Int) + 1) Da (by omega) (by omega) (by omega) fun m Hc hm Oc Dc => ⟨(by show 3 ≤ sizeLine; decide), fun a na => ?_⟩⟩)⟩
      exact fin_leaf k ((OX.trans Oa).trans Oc) Dc (by omega) na (l := .sub n m) rfl (.cons (.str _ (by decide)) (.cons (.int _) (.cons (.int _) .nil))) (fun ⟨_, h⟩ => by cases h) (ok_sub (by omega) (by omega))
    | 1, _, EV =>
      refine sq_if0 (mkt (mk_eq (mk_var List.mem_cons_self) mk_int (by decide))) EV fun H0 S0 => ?_
      have EE0 := (EV).same S0
      refine sq_if1 (mkt (mk_eq (mk_var List.mem_cons_self) mk_int (by decide))) EE0 fun H1 S1 => ?_
      have EE1 := (EE0).same S1
      have DX := D.same (S0.trans S1)
      have OX := Off.of_same (p := p) (q := q) (S0.trans S1)
      have EX := EE1
      refine ret_tup1 (cons_of (call_v rfl ⟨p, q, b, 5, rfl, by decide, DX, by omega, fun v cs Hc Oc Dc dd ff ok => ⟨(by show 2 ≤ sizeLine; decide), fun a na => ?_⟩⟩))
      exact fin_leaf k (OX.trans Oc) Dc (by omega) na (l := .word cs) rfl (.cons (.str _ (by decide)) (.cons (dd.same (hide_sub _ _ _)) .nil)) (fun _ => ⟨_, _, rfl, ff.same (hide_sub _ _ _)⟩) (ok_word ok (by decide))
    | 2, _, EV =>
      refine sq_if0 (mkt (mk_eq (mk_var List.mem_cons_self) mk_int (by decide))) EV fun H0 S0 => ?_
      have EE0 := (EV).same S0
      refine sq_if0 (mkt (mk_eq (mk_var List.mem_cons_self) mk_int (by decide))) EE0 fun H1 S1 => ?_
      have EE1 := (EE0).same S1
      refine sq_if1 (mkt (mk_eq (mk_var List.mem_cons_self) mk_int (by decide))) EE1 fun H2 S2 => ?_
      have EE2 := (EE1).same S2
      have DX := D.same ((S0.trans S1).trans S2)
      have OX := Off.of_same (p := p) (q := q) ((S0.trans S1).trans S2)
      have EX := EE2
      refine sq_any (call_v rfl ⟨(by show 4 ≤ sizeLine; decide), fun l1 n1 => ⟨(by show 3 ≤ sizeLine; decide), fun l2 n2 => ⟨(by show 2 ≤ sizeLine; decide), fun l3 n3 => ⟨(by show 1 ≤ sizeLine; decide), fun l4 n4 => ⟨(by show 4 ≤ sizeLine; decide), fun l5 n5 => ?_⟩⟩⟩⟩⟩)
      have Sa := same_new (o := HO.lst [.str "a", .str "b", .str "c", .str "d"]) n1
      have Sb := same_new (o := HO.lst [.str "d", .str "bb", .str "a"]) n2
      have Sc := same_new (o := HO.lst [.str "z", .str "y"]) n3
      have Sd := same_new (o := HO.lst [.str "one"]) n4
      have Se := same_new (o := HO.lst [.ref l1, .ref l2, .ref l3, .ref l4]) n5
      have D1 := DX.same Sa
      have D2 := D1.same Sb
      have D3 := D2.same Sc
      have D4 := D3.same Sd
      have D5 := D4.same Se
      have m1 := DX.new n1
      have m2 := D1.new n2
      have m3 := D2.new n3
      have m4 := D3.new n4
      have m5 := D4.new n5
      have SX := (((Sa.trans Sb).trans Sc).trans Sd).trans Se
      have f1 := Se _ _ (Sd _ _ (Sc _ _ (Sb _ _ (upd_same (H := H2) (a := l1) (o := .lst [.str "a", .str "b", .str "c", .str "d"])))))
      have f2 := Se _ _ (Sd _ _ (Sc _ _ (upd_same (H := upd H2 l1 (.lst [.str "a", .str "b", .str "c", .str "d"])) (a := l2) (o := .lst [.str "d", .str "bb", .str "a"]))))
      have f3 := Se _ _ (Sd _ _ (upd_same (H := upd (upd H2 l1 (.lst [.str "a", .str "b", .str "c", .str "d"])) l2 (.lst [.str "d", .str "bb", .str "a"])) (a := l3) (o := .lst [.str "z", .str "y"])))
      have f4 := Se _ _ (upd_same (H := upd (upd (upd H2 l1 (.lst [.str "a", .str "b", .str "c", .str "d"])) l2 (.lst [.str "d", .str "bb", .str "a"])) l3 (.lst [.str "z", .str "y"])) (a := l4) (o := .lst [.str "one"]))
      have f5 := upd_same (H := upd (upd (upd (upd H2 l1 (.lst [.str "a", .str "b", .str "c", .str "d"])) l2 (.lst [.str "d", .str "bb", .str "a"])) l3 (.lst [.str "z", .str "y"])) l4 (.lst [.str "one"])) (a := l5) (o := .lst [.ref l1, .ref l2, .ref l3, .ref l4])
      generalize upd (upd (upd (upd (upd H2 l1 (.lst [.str "a", .str "b", .str "c", .str "d"])) l2 (.lst [.str "d", .str "bb", .str "a"])) l3 (.lst [.str "z", .str "y"])) l4 (.lst [.str "one"])) l5 (.lst [.ref l1, .ref l2, .ref l3, .ref l4]) = Hf at D5 SX f1 f2 f3 f4 f5 ⊢
      have nmo : ∀ ns ∈ ([["a", "b", "c", "d"], ["d", "bb", "a"], ["z", "y"], ["one"]] : List (List Str)), 1 ≤ ns.length ∧ ns.length ≤ 4 ∧ ∀ y ∈ ns, nameS y = true := by decide +kernel
      have hpick : ∀ (j : Nat) (x : V), [V.ref l1, V.ref l2, V.ref l3, V.ref l4][j]? = some x → ∃ (l : Addr) (ns : List Str), x = .ref l ∧ Hf l = some (.lst (ns.map V.str)) ∧ l ≠ p ∧ l ≠ q ∧ 1 ≤ ns.length ∧ ns.length ≤ 4 ∧ ∀ y ∈ ns, nameS y = true := fun j x hx => by
        match j, hx with
        | 0, hx => exact ⟨l1, ["a", "b", "c", "d"], (Option.some.inj hx).symm, f1, m1.1, m1.2, nmo _ (by simp)⟩
        | 1, hx => exact ⟨l2, ["d", "bb", "a"], (Option.some.inj hx).symm, f2, m2.1, m2.2, nmo _ (by simp)⟩
        | 2, hx => exact ⟨l3, ["z", "y"], (Option.some.inj hx).symm, f3, m3.1, m3.2, nmo _ (by simp)⟩
        | 3, hx => exact ⟨l4, ["one"], (Option.some.inj hx).symm, f4, m4.1, m4.2, nmo _ (by simp)⟩
        | j + 4, hx => simp at hx
      refine pick_of (E := E0) D5 f5 m5.1 m5.2 (by show 0 < 4; decide) (by show 4 ≤ 1000; decide) (by omega) fun j x Hg hx Og Dg => ?_
      obtain ⟨l, ns, rfl, hl, lp, lq, ln1, ln4, hns⟩ := hpick j x hx
      have OG := (OX.trans (Off.of_same SX)).trans Og
      refine ret_tup1 (cons_of (call_v rfl ⟨_, rfl, p, q, l, b + 1, b + 14, ns, rfl, Og _ _ hl lp lq, lp, lq, ln1, by omega, by decide, hns, Dg, by omega, by omega, fun v o Hc Oc Dc dd no or nm fi => ⟨(by show 2 ≤ sizeLine; decide), fun a na => ?_⟩⟩))
      exact fin_leaf k (OG.trans Oc) Dc (by omega) na (l := .arr o) rfl (.cons (.str _ (by decide)) (.cons (dd.same (hide_sub _ _ _)) .nil)) (fun ⟨_, h⟩ => by cases h) (ok_arr or nm (by omega) no (fi.mono (by omega) (by decide)))
    | 3, _, EV =>
      refine sq_if0 (mkt (mk_eq (mk_var List.mem_cons_self) mk_int (by decide))) EV fun H0 S0 => ?_
      have EE0 := (EV).same S0
      refine sq_if0 (mkt (mk_eq (mk_var List.mem_cons_self) mk_int (by decide))) EE0 fun H1 S1 => ?_
      have EE1 := (EE0).same S1
      refine sq_if0 (mkt (mk_eq (mk_var List.mem_cons_self) mk_int (by decide))) EE1 fun H2 S2 => ?_
      have EE2 := (EE1).same S2
      refine sq_if1 (mkt (mk_eq (mk_var List.mem_cons_self) mk_int (by decide))) EE2 fun H3 S3 => ?_
      have EE3 := (EE2).same S3
      have DX := D.same (((S0.trans S1).trans S2).trans S3)
      have OX := Off.of_same (p := p) (q := q) (((S0.trans S1).trans S2).trans S3)
      have EX := EE3
      refine sq_parD (draw_m (n := 3) rfl DX (by decide) (by decide) (by omega) fun i1 Ha h1 Oa Da => cons_of (draw_m (n := 3) rfl Da (by decide) (by decide) (by omega) fun i2 Hb h2 Ob Db => ⟨_, _, rfl, ?_⟩))
      refine sq_parD ⟨_, rfl, _, rfl, _, _, rfl, draw_o (n := 3) rfl Db (by decide) (by decide) (by omega) fun i3 Hg h3 Og Dg => ?_⟩
      refine cons_of ⟨_, rfl, _, rfl, _, _, rfl, draw_o (n := 3) rfl Dg (by decide) (by decide) (by omega) fun i4 Hh h4 Oh Dh => ⟨_, _, rfl, ?_⟩⟩
      refine ret_tup1 (cons_of (draw_c (n := 7) rfl Dh (by decide) (by decide) (by omega) fun n Hc hn Oc Dc => ⟨_, rfl, _, rfl, _, rfl, _, rfl, (by show 6 ≤ sizeLine; decide), fun a na => ?_⟩))
      refine fin_leaf k (((((OX.trans Oa).trans Ob).trans Og).trans Oh).trans Oc) Dc (by omega) na (l := .walk (n : Nat) _ _ _ _) rfl (.cons (.str _ (by decide)) (.cons (.int _) (.cons (.int _) (.cons (.int _) (.cons (.int _) (.cons (.int _) .nil)))))) (fun ⟨_, h⟩ => by cases h) (ok_walk (by omega) (by omega) (by omega) ?_ ?_)
      · split <;> omega
      · split <;> omega
    | 4, _, EV =>
      refine sq_if0 (mkt (mk_eq (mk_var List.mem_cons_self) mk_int (by decide))) EV fun H0 S0 => ?_
      have EE0 := (EV).same S0
      refine sq_if0 (mkt (mk_eq (mk_var List.mem_cons_self) mk_int (by decide))) EE0 fun H1 S1 => ?_
      have EE1 := (EE0).same S1
      refine sq_if0 (mkt (mk_eq (mk_var List.mem_cons_self) mk_int (by decide))) EE1 fun H2 S2 => ?_
      have EE2 := (EE1).same S2
      refine sq_if0 (mkt (mk_eq (mk_var List.mem_cons_self) mk_int (by decide))) EE2 fun H3 S3 => ?_
      have EE3 := (EE2).same S3
      refine sq_if1 (mkt (mk_inI (ws := [4, 5]) (mk_var List.mem_cons_self) (mks_cons mk_int (mks_cons mk_int mks_nil)) (by decide) (by decide +kernel))) EE3 fun H4 S4 => ?_
      have EE4 := (EE3).same S4
      have DX := D.same ((((S0.trans S1).trans S2).trans S3).trans S4)
      have OX := Off.of_same (p := p) (q := q) ((((S0.trans S1).trans S2).trans S3).trans S4)
      have EX := EE4
      refine ret_if1 (mkt (mk_eq (mk_var List.mem_cons_self) mk_int (by decide))) EX fun H9 S9 => ?_
      refine ret_tup1 (cons_of (draw_1 (n := 4) rfl (DX.same S9) (by decide) (by decide) (by omega) fun i Hc hi Oc Dc => ⟨(by show 2 ≤ sizeLine; decide), fun a na => ?_⟩))
      exact fin_leaf k ((OX.trans (Off.of_same S9)).trans Oc) Dc (by omega) na (l := .cyc (1 + i)) rfl (.cons (.str _ (by decide)) (.cons (dat_int' (by omega)) .nil)) (fun ⟨_, h⟩ => by cases h) (ok_cyc (by omega))
    | 5, _, EV =>
      refine sq_if0 (mkt (mk_eq (mk_var List.mem_cons_self) mk_int (by decide))) EV fun H0 S0 => ?_
      have EE0 := (EV).same S0
      refine sq_if0 (mkt (mk_eq (mk_var List.mem_cons_self) mk_int (by decide))) EE0 fun H1 S1 => ?_
      have EE1 := (EE0).same S1
      refine sq_if0 (mkt (mk_eq (mk_var List.mem_cons_self) mk_int (by decide))) EE1 fun H2 S2 => ?_
      have EE2 := (EE1).same S2
      refine sq_if0 (mkt (mk_eq (mk_var List.mem_cons_self) mk_int (by decide))) EE2 fun H3 S3 => ?_
      have EE3 := (EE2).same S3
      refine sq_if1 (mkt (mk_inI (ws := [4, 5]) (mk_var List.mem_cons_self) (mks_cons mk_int (mks_cons mk_int mks_nil)) (by decide) (by decide +kernel))) EE3 fun H4 S4 => ?_
      have EE4 := (EE3).same S4
      have DX := D.same ((((S0.trans S1).trans S2).trans S3).trans S4)
      have OX := Off.of_same (p := p) (q := q) ((((S0.trans S1).trans S2).trans S3).trans S4)
      have EX := EE4
      refine ret_if0 (mkt (mk_eq (mk_var List.mem_cons_self) mk_int (by decide))) EX fun H9 S9 => ?_
      refine ret_tup1 (cons_of (draw_c (n := 4) rfl (DX.same S9) (by decide) (by decide) (by omega) fun i Hc hi Oc Dc => ⟨(by show 2 ≤ sizeLine; decide), fun a na => ?_⟩))
      exact fin_leaf k ((OX.trans (Off.of_same S9)).trans Oc) Dc (by omega) na (l := .mat i) rfl (.cons (.str _ (by decide)) (.cons (.int _) .nil)) (fun ⟨_, h⟩ => by cases h) (ok_mat (by omega))
    | 6, _, EV =>
      refine sq_if0 (mkt (mk_eq (mk_var List.mem_cons_self) mk_int (by decide))) EV fun H0 S0 => ?_
      have EE0 := (EV).same S0
      refine sq_if0 (mkt (mk_eq (mk_var List.mem_cons_self) mk_int (by decide))) EE0 fun H1 S1 => ?_
      have EE1 := (EE0).same S1
      refine sq_if0 (mkt (mk_eq (mk_var List.mem_cons_self) mk_int (by decide))) EE1 fun H2 S2 => ?_
      have EE2 := (EE1).same S2
      refine sq_if0 (mkt (mk_eq (mk_var List.mem_cons_self) mk_int (by decide))) EE2 fun H3 S3 => ?_
      have EE3 := (EE2).same S3
      refine sq_if0 (mkt (mk_inI (ws := [4, 5]) (mk_var List.mem_cons_self) (mks_cons mk_int (mks_cons mk_int mks_nil)) (by decide) (by decide +kernel))) EE3 fun H4 S4 => ?_
      have EE4 := (EE3).same S4
      refine sq_if1 (mkt (mk_eq (mk_var List.mem_cons_self) mk_int (by decide))) EE4 fun H5 S5 => ?_
      have EE5 := (EE4).same S5
      have DX := D.same (((((S0.trans S1).trans S2).trans S3).trans S4).trans S5)
      have OX := Off.of_same (p := p) (q := q) (((((S0.trans S1).trans S2).trans S3).trans S4).trans S5)
      have EX := EE5
      refine sq_any (draw_c (n := 5) rfl DX (by decide) (by decide) (by omega) fun n Ha hn Oa Da => ?_)
      refine ret_tup1 ⟨_, rfl, _, rfl, ((n : Nat) : Int), rfl, by omega, by omega, fun A nA => ?_⟩
      refine lc_range (n := n) (fun j Hz => ∃ ac : List Nat, GD Ha p q A (b + 1 + j) (ac.map fun i => PyData.int (i : Nat)) Hz ∧ ac.length ≤ j ∧ ∀ a ∈ ac, a ≤ 10) ⟨[], (GD.start Da nA).mono (by omega), Nat.zero_le _, fun a ha => by cases ha⟩ ?_ ?_
      · rintro j Hz hj ⟨ac, ga, hal, hac⟩
        rw [show ((0 : Int) + (j : Nat)) = ((j : Nat) : Int) from Int.zero_add _]
        refine ⟨rfl, ?_⟩
        refine draw_c (n := 2) rfl ga.D (by decide) (by decide) (by omega) fun y Hy hy Oy Dy => ⟨rfl, _, rfl, ?_⟩
        have gy := ga.draw Oy Dy
        by_cases hy0 : y = 0
        · refine if_t (decide_eq_true (by rw [hy0]; rfl)) ⟨_, rfl, ?_⟩
          obtain ⟨zs, hA, hzl, _, g'⟩ := gy.add (zs := [.int (j : Nat)]) (es := [.int (j : Nat)]) (.cons (.int _) .nil) rfl
          rw [List.length_map] at hzl
          refine ⟨zs, hA, (by rw [sizeLine_eq]; omega), ac ++ [j], ?_, ?_, ?_⟩
          · rw [List.map_append]
            exact g'
          · rw [List.length_append]
            show ac.length + 1 ≤ _
            omega
          · intro a ha
            rcases List.mem_append.mp ha with ha | ha
            · exact hac a ha
            · obtain rfl := List.mem_singleton.mp ha
              omega
        · exact if_f (decide_eq_false fun e => hy0 (by have := V.int.inj e; omega)) ⟨ac, gy, by omega, hac⟩
      · rintro Hz ⟨ac, ga, hal, hac⟩
        obtain ⟨zs, hA, hzl, dA⟩ := ga.fin
        refine ⟨A, zs, rfl, .inl ⟨SqL.of hA, fun t2 n2 => ⟨(by show 3 ≤ sizeLine; decide), fun t3 n3 => ?_⟩⟩⟩
        have S2 := same_new (o := HO.tup zs) n2
        exact fin_leaf k (((OX.trans Oa).trans ga.O).trans (Off.of_same S2)) (ga.D.same S2) (by omega) n3 (l := .perm n (.tuple (ac.map fun i => PyData.int (i : Nat)))) rfl (.cons (.str _ (by decide)) (.cons (.int _) (.cons (.tup (TP.of upd_same) (dA.same S2)) .nil))) (fun ⟨_, h⟩ => by cases h) (ok_perm (by omega) (by omega) hac)
    | 7, _, EV =>
      refine sq_if0 (mkt (mk_eq (mk_var List.mem_cons_self) mk_int (by decide))) EV fun H0 S0 => ?_
      have EE0 := (EV).same S0
      refine sq_if0 (mkt (mk_eq (mk_var List.mem_cons_self) mk_int (by decide))) EE0 fun H1 S1 => ?_
      have EE1 := (EE0).same S1
      refine sq_if0 (mkt (mk_eq (mk_var List.mem_cons_self) mk_int (by decide))) EE1 fun H2 S2 => ?_
      have EE2 := (EE1).same S2
      refine sq_if0 (mkt (mk_eq (mk_var List.mem_cons_self) mk_int (by decide))) EE2 fun H3 S3 => ?_
      have EE3 := (EE2).same S3
      refine sq_if0 (mkt (mk_inI (ws := [4, 5]) (mk_var List.mem_cons_self) (mks_cons mk_int (mks_cons mk_int mks_nil)) (by decide) (by decide +kernel))) EE3 fun H4 S4 => ?_
      have EE4 := (EE3).same S4
      refine sq_if0 (mkt (mk_eq (mk_var List.mem_cons_self) mk_int (by decide))) EE4 fun H5 S5 => ?_
      have EE5 := (EE4).same S5
      have DX := D.same (((((S0.trans S1).trans S2).trans S3).trans S4).trans S5)
      have OX := Off.of_same (p := p) (q := q) (((((S0.trans S1).trans S2).trans S3).trans S4).trans S5)
      have EX := EE5
      refine ret_if1 (mkt (mk_eq (mk_var List.mem_cons_self) mk_int (by decide))) EX fun H9 S9 => ?_
      refine ret_tup1 (cons_of (draw_1 (n := 4) rfl (DX.same S9) (by decide) (by decide) (by omega) fun i Hc hi Oc Dc => ⟨(by show 2 ≤ sizeLine; decide), fun a na => ?_⟩))
      exact fin_leaf k ((OX.trans (Off.of_same S9)).trans Oc) Dc (by omega) na (l := .tree (1 + i)) rfl (.cons (.str _ (by decide)) (.cons (dat_int' (by omega)) .nil)) (fun ⟨_, h⟩ => by cases h) (ok_tree (by omega))
    | 8, _, EV =>
      refine sq_if0 (mkt (mk_eq (mk_var List.mem_cons_self) mk_int (by decide))) EV fun H0 S0 => ?_
      have EE0 := (EV).same S0
      refine sq_if0 (mkt (mk_eq (mk_var List.mem_cons_self) mk_int (by decide))) EE0 fun H1 S1 => ?_
      have EE1 := (EE0).same S1
      refine sq_if0 (mkt (mk_eq (mk_var List.mem_cons_self) mk_int (by decide))) EE1 fun H2 S2 => ?_
      have EE2 := (EE1).same S2
      refine sq_if0 (mkt (mk_eq (mk_var List.mem_cons_self) mk_int (by decide))) EE2 fun H3 S3 => ?_
      have EE3 := (EE2).same S3
      refine sq_if0 (mkt (mk_inI (ws := [4, 5]) (mk_var List.mem_cons_self) (mks_cons mk_int (mks_cons mk_int mks_nil)) (by decide) (by decide +kernel))) EE3 fun H4 S4 => ?_
      have EE4 := (EE3).same S4
      refine sq_if0 (mkt (mk_eq (mk_var List.mem_cons_self) mk_int (by decide))) EE4 fun H5 S5 => ?_
      have EE5 := (EE4).same S5
      have DX := D.same (((((S0.trans S1).trans S2).trans S3).trans S4).trans S5)
      have OX := Off.of_same (p := p) (q := q) (((((S0.trans S1).trans S2).trans S3).trans S4).trans S5)
      have EX := EE5
      refine ret_if0 (mkt (mk_eq (mk_var List.mem_cons_self) mk_int (by decide))) EX fun H9 S9 => ?_
      refine ret_tup1 (cons_of (call_1 rfl ⟨p, q, b, rfl, DX.same S9, by omega, fun v ms ac Ha Oa Da dd ok => cons_of (draw_c (n := 5) rfl Da (by decide) (by decide) (by omega) fun i Hc hi Oc Dc => ⟨(by show 3 ≤ sizeLine; decide), fun a na => ?_⟩)⟩))
      exact fin_leaf k (((OX.trans (Off.of_same S9)).trans Oa).trans Oc) Dc (by omega) na (l := .str ms ac i) rfl (.cons (.str _ (by decide)) (.cons ((dd.same (hide_off Oc)).same (hide_sub _ _ _)) (.cons (.int _) .nil))) (fun ⟨_, h⟩ => by cases h) (ok_strl ok (by omega))
    | n + 9, h, _ => exact absurd h (by omega)
end
end K9
set_option maxRecDepth 100000
set_option maxHeartbeats 8000000
namespace K9
open PySem PySem.Spec PyProof.Rows L2
/-! ### few objects -/
abbrev s_few : Stmt := top 48
theorem FzF.same {H H' : Hp} {v : V} {l : L9} (h : FzF H v l) (S : Same H H') : FzF H' v l := fun hw => by
  obtain ⟨a, z, v1, e, h1, h2⟩ := h hw
  exact ⟨a, z, v1, e, upR h1 S, h2.same S⟩
theorem FzF.hide {H : Hp} {p q : Addr} {b : Nat} {v : V} {l : L9} (D : Dk H p q b) (h : FzF H v l) : FzF (hide p q H) v l := fun hw => by
  obtain ⟨a, z, v1, e, h1, h2⟩ := h hw
  exact ⟨a, z, v1, e, tp_hide D h1, fz_hide D h2⟩
inductive LfAll (H : Hp) : List V → List L9 → Prop
  | nil : LfAll H [] []
  | cons {v : V} {l : L9} {vs : List V} {ls : List L9} : Dat H v (ldt l) → FzF H v l → LfAll H vs ls → LfAll H (v :: vs) (l :: ls)
theorem LfAll.same {H H' : Hp} (S : Same H H') : ∀ {vs : List V} {ls : List L9}, LfAll H vs ls → LfAll H' vs ls
  | _, _, .nil => .nil
  | _, _, .cons d f t => .cons (d.same S) (f.same S) (t.same S)
theorem LfAll.app {H : Hp} {ws : List V} {ms : List L9} (h2 : LfAll H ws ms) : ∀ {vs : List V} {ls : List L9}, LfAll H vs ls → LfAll H (vs ++ ws) (ls ++ ms)
  | _, _, .nil => h2
  | _, _, .cons d f t => .cons d f (LfAll.app h2 t)
theorem LfAll.len {H : Hp} : ∀ {vs : List V} {ls : List L9}, LfAll H vs ls → vs.length = ls.length
  | _, _, .nil => rfl
  | _, _, .cons d f t => by rw [List.length_cons, List.length_cons, t.len]
theorem LfAll.get {H : Hp} : ∀ {vs : List V} {ls : List L9} {j : Nat} {v : V}, LfAll H vs ls → vs[j]? = some v → ∃ l, ls[j]? = some l ∧ Dat H v (ldt l) ∧ FzF H v l
  | _, _, _, _, .nil, h => by simp at h
  | _, _, 0, _, .cons d f t, h => by
    cases h
    exact ⟨_, rfl, d, f⟩
  | _, _, j + 1, _, .cons d f t, h => t.get (j := j) (by simpa using h)
def tLeafW (l : L9) : TE := fun _ H Q => ∀ (v : V) (H' : Hp), Same H H' → Dat H' v (ldt l) → FzF H' v l → Q v H'
def tLeafs (ls : List L9) : TA := fun _ H Q => ∀ (vs : List V) (H' : Hp), Same H H' → LfAll H' vs ls → Q vs H'
section
variable {X : Cx}
theorem pl_nil : PA X [] (tLeafs []) := pa_weak pa_nil fun σ H Q h => h [] H (Same.refl H) .nil
theorem pl_cons {e : Expr} {es : List Expr} {l : L9} {ls : List L9} (a : PE X e (tLeafW l)) (b : PA X es (tLeafs ls)) (hs : starEach (e :: es) X.env = (false, eval e X.env) :: starEach es X.env := by rfl) : PA X (e :: es) (tLeafs (l :: ls)) :=
  pa_weak (pa_cons a b hs) fun σ H Q h v H1 S1 d1 f1 vs H2 S2 d2 => h (v :: vs) H2 (S1.trans S2) (.cons (d1.same S2) (f1.same S2) d2)
theorem pl_of {e : Expr} {d : PyData} {l : L9} (a : PE X e (tDat d)) (he : d = ldt l) (nw : ∀ cs, l = .word cs → False) : PE X e (tLeafW l) := pe_weak a fun σ H Q q v H' S dd => q v H' S (he ▸ dd) fun ⟨cs, h⟩ => (nw cs h).elim
theorem pl_word {es : List Expr} {cs : Cn} {c1 c2 : Nat} {p1 p2 p3 : Pos} {k : Nat} (hl : cs.length ≤ 100) (a : PA X es (tDats (cs.map cntD))) : PE X (.Tuple [.Constant (.str "word") k p1, .Tuple es c2 p2] c1 p3) (tLeafW (.word cs)) :=
  pe_weak (pe_tup (pa_cons pe_str (pa_cons (pe_tupF a) pa_nil))) fun σ H Q q vs H1 S1 d1 => ⟨by rw [d1.len, List.length_map, sizeLine_eq]; omega, fun p o np no => ⟨by show 2 ≤ sizeLine; decide, fun p2 np2 => by
    have S2 := same_new (o := HO.frz o (.tup vs)) np
    have u2 : upd H1 p (.frz o (.tup vs)) p = some (.frz o (.tup vs)) := upd_same
    have S3 := same_new (o := HO.tup [.str "word", .ref p]) np2
    refine q _ _ ((S1.trans S2).trans S3) (.tup (TP.of upd_same) (.cons (.str _ (by decide)) (.cons ?_ .nil))) fun _ => ⟨p2, _, _, rfl, TP.of upd_same, p, o, vs, rfl, S3 _ _ u2, no⟩
    exact (Dat.tup (TP.fz u2 no) (d1.same S2)).same S3⟩⟩
end
def fewL : List L9 := (([.sub 3 1, .sub 2 2, .word [("a", 1), ("b", 1)], .cyc 3, .cyc 1] ++ [.walk 3 0 1 0 2, .perm 2 (.tuple [.int 0]), .perm 1 (.tuple [.int 0]), .tree 2]) ++ [.tree 3, .mat 1, .str [(0, "a", 0)] [0] 2]) ++ [.arr (joinD "parallel" [itemD "x", itemD "y"])]
theorem few_ok : ∀ l ∈ fewL, LeafOk l := by
  intro l hl
  unfold fewL at hl
  simp only [List.cons_append, List.nil_append, List.mem_cons, List.not_mem_nil, or_false] at hl
  rcases hl with rfl | rfl | rfl | rfl | rfl | rfl | rfl | rfl | rfl | rfl | rfl | rfl | rfl
  · exact ok_sub (by decide) (by decide)
  · exact ok_sub (by decide) (by decide)
  · exact ok_word (m := 5) ⟨by decide +kernel, by decide +kernel, by decide +kernel, by decide⟩ (by decide)
  · exact ok_cyc (by decide)
  · exact ok_cyc (by decide)
  · exact ok_walk (by decide) (by decide) (by decide) (by decide) (by decide)
  · exact ok_perm (l := [0]) (by decide) (by decide) (by decide)
  · exact ok_perm (l := [0]) (by decide) (by decide) (by decide)
  · exact ok_tree (by decide)
  · exact ok_tree (by decide)
  · exact ok_mat (by decide)
  · exact ok_strl ⟨by decide, by decide +kernel, by decide, by decide⟩ (by decide)
  · exact ok_arr (ns := ["x", "y"]) (by decide +kernel) (by decide +kernel) (by decide) (by decide +kernel) ⟨by decide +kernel, by decide +kernel, by decide +kernel⟩
def spFew : Sp := fun vs H Q _ => ∃ (p q : Addr) (b : Nat), vs = [.ref p] ∧ Dk H p q b ∧ b + 10 ≤ 100000000 ∧ Leafs H p q (b + 1) Q
section
variable {P : Program} {w : World} {K : PySem.W.Frag} {mg : Str → Option Value} {base : Heap}
theorem sc_few : FnScope ["_law_deck_here", "_law_found"] ["_law_deck_here"] (defScope s_few) := ⟨rfl, rfl, rfl, by decide +kernel, rfl, by decide +kernel, by decide +kernel⟩
theorem okl_few {f fD fP : Addr} {fd fdD fdP : FuncData} (F : Fun K "_law_few" "_law_few" s_few f fd) (T : Nm mg) (D_draw : DefOk K mg "_law_draw" sDraw ["_law_deck_here", "_law_bound"] fD fdD) (D_pick : DefOk K mg "_law_pick" sPick ["_law_deck_here", "_law_items"] fP fdP) : FnOk P w K mg base CX0 3 f fd ["_law_deck_here"] spFew := by
  have G_pick : FnOk P w K mg base CX0 2 fP fdP ["_law_deck_here", "_law_items"] spPick := ok_pick D_pick.F T D_draw.F D_draw.b D_draw.g
  refine F.ok sc_few (fun vs H Q E h => ?_) (fun cdv A outer s H vs Q E hr h => ?_)
  · obtain ⟨p, q, b, rfl, _⟩ := h
    rfl
  · obtain ⟨p, q, b, rfl, D, hb, k⟩ := h
    refine ⟨_, (pss_cons (ps_set (i := 1) sc_few.nd rfl (Or.inl rfl) (pe_lst (pl_cons (pl_of (l := .sub 3 1) (pd_tup (by decide) (pd_cons (pd_str (by decide) pe_str) (pd_cons (pd_int pe_int) (pd_cons (pd_int pe_int) pd_nil)))) rfl (fun _ h => by cases h)) (pl_cons (pl_of (l := .sub 2 2) (pd_tup (by decide) (pd_cons (pd_str (by decide) pe_str) (pd_cons (pd_int pe_int) (pd_cons (pd_int pe_int) pd_nil)))) rfl (fun _ h => by cases h)) (pl_cons (pl_word (cs := [("a", 1), ("b", 1)]) (by decide) (pd_cons (pd_tup (by decide) (pd_cons (pd_str (by decide) pe_str) (pd_cons (pd_int pe_int) pd_nil))) (pd_cons (pd_tup (by decide) (pd_cons (pd_str (by decide) pe_str) (pd_cons (pd_int pe_int) pd_nil))) pd_nil))) (pl_cons (pl_of (l := .cyc 3) (pd_tup (by decide) (pd_cons (pd_str (by decide) pe_str) (pd_cons (pd_int pe_int) pd_nil))) rfl (fun _ h => by cases h)) (pl_cons (pl_of (l := .cyc 1) (pd_tup (by decide) (pd_cons (pd_str (by decide) pe_str) (pd_cons (pd_int pe_int) pd_nil))) rfl (fun _ h => by cases h)) pl_nil)))))))
      (pss_cons (ps_set (i := 1) sc_few.nd rfl (Or.inl rfl) (pe_op op_cat (pv 1) (pe_lst (pl_cons (pl_of (l := .walk 3 0 1 0 2) (pd_tup (by decide) (pd_cons (pd_str (by decide) pe_str) (pd_cons (pd_int pe_int) (pd_cons (pd_int pe_int) (pd_cons (pd_int pe_int) (pd_cons (pd_int pe_int) (pd_cons (pd_int pe_int) pd_nil))))))) rfl (fun _ h => by cases h)) (pl_cons (pl_of (l := .perm 2 (.tuple [.int 0])) (pd_tup (by decide) (pd_cons (pd_str (by decide) pe_str) (pd_cons (pd_int pe_int) (pd_cons (pd_tup (by decide) (pd_cons (pd_int pe_int) pd_nil)) pd_nil)))) rfl (fun _ h => by cases h)) (pl_cons (pl_of (l := .perm 1 (.tuple [.int 0])) (pd_tup (by decide) (pd_cons (pd_str (by decide) pe_str) (pd_cons (pd_int pe_int) (pd_cons (pd_tup (by decide) (pd_cons (pd_int pe_int) pd_nil)) pd_nil)))) rfl (fun _ h => by cases h)) (pl_cons (pl_of (l := .tree 2) (pd_tup (by decide) (pd_cons (pd_str (by decide) pe_str) (pd_cons (pd_int pe_int) pd_nil))) rfl (fun _ h => by cases h)) pl_nil)))))))
      (pss_cons (ps_set (i := 1) sc_few.nd rfl (Or.inl rfl) (pe_op op_cat (pv 1) (pe_lst (pl_cons (pl_of (l := .tree 3) (pd_tup (by decide) (pd_cons (pd_str (by decide) pe_str) (pd_cons (pd_int pe_int) pd_nil))) rfl (fun _ h => by cases h)) (pl_cons (pl_of (l := .mat 1) (pd_tup (by decide) (pd_cons (pd_str (by decide) pe_str) (pd_cons (pd_int pe_int) pd_nil))) rfl (fun _ h => by cases h)) (pl_cons (pl_of (l := .str [(0, "a", 0)] [0] 2) (pd_tup (by decide) (pd_cons (pd_str (by decide) pe_str) (pd_cons (pd_tup (by decide) (pd_cons (pd_tup (by decide) (pd_cons (pd_tup (by decide) (pd_cons (pd_int pe_int) (pd_cons (pd_str (by decide) pe_str) (pd_cons (pd_int pe_int) pd_nil)))) pd_nil)) (pd_cons (pd_tup (by decide) (pd_cons (pd_int pe_int) pd_nil)) pd_nil))) (pd_cons (pd_int pe_int) pd_nil)))) rfl (fun _ h => by cases h)) pl_nil))))))
      (pss_one (ps_ret (pe_call G_pick hr rfl D_pick.g D_pick.F.kp D_pick.b .nil pass0 (pa_cons (pv 0) (pa_cons (pe_op op_cat (pv 1) (pe_lst (pl_cons (pl_of (l := .arr (joinD "parallel" [itemD "x", itemD "y"])) (pd_tup (by decide) (pd_cons (pd_str (by decide) pe_str) (pd_cons (pd_tup (by decide) (pd_cons (pd_str (by decide) pe_str) (pd_cons (pd_tup (by decide) (pd_cons (pd_tup (by decide) (pd_cons (pd_str (by decide) pe_str) (pd_cons (pd_str (by decide) pe_str) pd_nil))) (pd_cons (pd_tup (by decide) (pd_cons (pd_str (by decide) pe_str) (pd_cons (pd_str (by decide) pe_str) pd_nil))) pd_nil))) pd_nil))) pd_nil))) rfl (fun _ h => by cases h)) pl_nil))) pa_nil)))))))), ?_⟩
    refine sq_any fun v1 H1 S1 f1 => ⟨by rw [f1.len]; decide, fun L1 n1 => ?_⟩
    have l1 := f1.len
    have y1 := same_new (o := HO.lst v1) n1
    have u1 : upd H1 L1 (.lst v1) L1 = some (.lst v1) := upd_same
    have f1 := f1.same y1
    have T1 := S1.trans y1
    generalize upd H1 L1 (.lst v1) = Ha at y1 u1 f1 T1 ⊢
    refine sq_any ⟨_, rfl, fun v2 H2 S2 f2 => ⟨by rw [f2.len]; decide, fun L2 n2 => ⟨L1, L2, v1, v2, rfl, rfl, same_new n2 _ _ (S2 _ _ u1), upd_same, by rw [l1, f2.len]; decide, fun L3 n3 => ?_⟩⟩⟩
    have l2 := f2.len
    have y2 := (S2.trans (same_new (o := HO.lst v2) n2)).trans (same_new (o := HO.lst (v1 ++ v2)) n3)
    have u3 : upd (upd H2 L2 (.lst v2)) L3 (.lst (v1 ++ v2)) L3 = some (.lst (v1 ++ v2)) := upd_same
    have f3 := LfAll.app (f2.same ((same_new (o := HO.lst v2) n2).trans (same_new (o := HO.lst (v1 ++ v2)) n3))) (f1.same y2)
    have T3 := T1.trans y2
    generalize upd (upd H2 L2 (.lst v2)) L3 (.lst (v1 ++ v2)) = Hb at u3 f3 T3 ⊢
    have l3 := f3.len
    refine sq_any ⟨_, rfl, fun v4 H4 S4 f4 => ⟨by rw [f4.len]; decide, fun L4 n4 => ⟨L3, L4, v1 ++ v2, v4, rfl, rfl, same_new n4 _ _ (S4 _ _ u3), upd_same, by rw [l3, f4.len]; decide, fun L5 n5 => ?_⟩⟩⟩
    have y4 := (S4.trans (same_new (o := HO.lst v4) n4)).trans (same_new (o := HO.lst ((v1 ++ v2) ++ v4)) n5)
    have u5 : upd (upd H4 L4 (.lst v4)) L5 (.lst ((v1 ++ v2) ++ v4)) L5 = some (.lst ((v1 ++ v2) ++ v4)) := upd_same
    have f5 := LfAll.app (f4.same ((same_new (o := HO.lst v4) n4).trans (same_new (o := HO.lst ((v1 ++ v2) ++ v4)) n5))) (f3.same y4)
    have T5 := T3.trans y4
    generalize upd (upd H4 L4 (.lst v4)) L5 (.lst ((v1 ++ v2) ++ v4)) = Hc at u5 f5 T5 ⊢
    have l5 := f5.len
    refine call_v rfl ⟨_, rfl, fun v6 H6 S6 f6 => ⟨by rw [f6.len]; decide, fun L6 n6 => ⟨L5, L6, (v1 ++ v2) ++ v4, v6, rfl, rfl, same_new n6 _ _ (S6 _ _ u5), upd_same, by rw [l5, f6.len]; decide, fun L7 n7 => ?_⟩⟩⟩
    have y6 := (S6.trans (same_new (o := HO.lst v6) n6)).trans (same_new (o := HO.lst (((v1 ++ v2) ++ v4) ++ v6)) n7)
    have u7 : upd (upd H6 L6 (.lst v6)) L7 (.lst (((v1 ++ v2) ++ v4) ++ v6)) L7 = some (.lst (((v1 ++ v2) ++ v4) ++ v6)) := upd_same
    have f7 := LfAll.app (f6.same ((same_new (o := HO.lst v6) n6).trans (same_new (o := HO.lst (((v1 ++ v2) ++ v4) ++ v6)) n7))) (f5.same y6)
    have T7 := T5.trans y6
    have hn := ((D.same (T5.trans S6)).same (same_new (o := HO.lst v6) n6)).new n7
    generalize upd (upd H6 L6 (.lst v6)) L7 (.lst (((v1 ++ v2) ++ v4) ++ v6)) = Hd at u7 f7 T7 ⊢
    have D7 := D.same T7
    have l7 := f7.len
    refine pick_of (E := E0) D7 u7 hn.1 hn.2 (by rw [l7]; decide) (by rw [l7]; decide) (by omega) fun j x H8 hx O8 D8 => ?_
    obtain ⟨l, hl, dl, fl⟩ := f7.get hx
    have ok := few_ok l (List.mem_of_getElem? hl)
    have ti := ok.fi.ti
    rw [tinyS] at ti
    exact k x l H8 ((Off.of_same T7).trans O8) D8 ((dat_hide D7 dl ti).same (hide_off O8)) ((fl.hide D7).same (hide_off O8)) ok
end
end K9
set_option maxRecDepth 100000
set_option maxHeartbeats 8000000
namespace K9
open PySem PySem.Spec PyProof.Rows L2
/-! ### spaces put together of leaves -/
structure Part (H : Hp) (v : V) (s : S9) : Prop where
  d : Dat H v (dt s)
  f : FzS H v s
structure PartsA (H : Hp) (vs : List V) (ss : List S9) : Prop where
  d : DatAll H vs (dts ss)
  f : FzL H vs ss
theorem part_leaf {H : Hp} {v : V} {l : L9} (d : Dat H v (ldt l)) (f : FzF H v l) : Part H v (.leaf l) := ⟨by rw [dt]; exact d, by rw [FzS]; exact f⟩
theorem parts_nil {H : Hp} : PartsA H [] [] := ⟨by rw [dts]; exact .nil, by rw [FzL]⟩
theorem parts_cons {H : Hp} {v : V} {s : S9} {vs : List V} {ss : List S9} (h : Part H v s) (t : PartsA H vs ss) : PartsA H (v :: vs) (s :: ss) := ⟨by rw [dts]; exact .cons h.d t.d, by rw [FzL]; exact ⟨v, vs, rfl, h.f, t.f⟩⟩
theorem Part.same {H H' : Hp} {v : V} {s : S9} (h : Part H v s) (S : Same H H') : Part H' v s := ⟨h.d.same S, h.f.same S⟩
theorem PartsA.same {H H' : Hp} {v : List V} {s : List S9} (h : PartsA H v s) (S : Same H H') : PartsA H' v s := ⟨h.d.same S, h.f.same S⟩
theorem prt_row {H : Hp} {a b : Addr} {c : Bool} {vs : List V} {ss : List S9} (h1 : TP H a [.str (rowW c), .ref b]) (h2 : TP H b vs) (h : PartsA H vs ss) : Part H (.ref a) (.row c ss) :=
  ⟨by rw [dt]; exact .tup h1 (.cons (.str _ (by cases c <;> decide +kernel)) (.cons (.tup h2 h.d) .nil)), by rw [FzS]; exact ⟨a, b, _, vs, rfl, h1, h2, h.f⟩⟩
theorem prt_pow {H : Hp} {a : Addr} {n : Nat} {y : V} {x : S9} (h1 : TP H a [.str "power", .int (n : Nat), y]) (h : Part H y x) : Part H (.ref a) (.pow n x) :=
  ⟨by rw [dt]; exact .tup h1 (.cons (.str _ (by decide)) (.cons (.int _) (.cons h.d .nil))), by rw [FzS]; exact ⟨a, _, _, y, rfl, h1, h.f⟩⟩
theorem prt_dec {H : Hp} {a b : Addr} {cs : Cn} {v1 : V} {vs : List V} {ss : List S9} (h1 : TP H a [.str "decorated", v1, .ref b]) (d1 : Dat H v1 (cntsD cs)) (f1 : Fz H v1) (h2 : TP H b vs) (h : PartsA H vs ss) : Part H (.ref a) (.dec cs ss) :=
  ⟨by rw [dt]; exact .tup h1 (.cons (.str _ (by decide)) (.cons d1 (.cons (.tup h2 h.d) .nil))), by rw [FzS]; exact ⟨a, b, _, v1, vs, rfl, h1, f1, h2, h.f⟩⟩
theorem parts_take {H : Hp} : ∀ (n : Nat) {vs : List V} {ss : List S9}, PartsA H vs ss → PartsA H (vs.take n) (ss.take n)
  | 0, vs, ss, _ => by
    rw [List.take_zero, List.take_zero]
    exact parts_nil
  | n + 1, [], [], h => h
  | n + 1, [], s :: ss, h => by
    have := h.d.len
    rw [dts_len] at this
    simp at this
  | n + 1, v :: vs, [], h => by
    have := h.d.len
    rw [dts_len] at this
    simp at this
  | n + 1, v :: vs, s :: ss, h => by
    have hd := h.d
    rw [dts] at hd
    have hf := h.f
    rw [FzL] at hf
    obtain ⟨y, r, e, f1, f2⟩ := hf
    cases e
    cases hd with
    | cons c t => exact parts_cons ⟨c, f1⟩ (parts_take n ⟨t, f2⟩)
theorem ss_all {ss : List S9} (h : ∀ x ∈ ss, FineS x) : okSs ss = true ∧ tinySs ss = true ∧ smSs ss = true := by
  induction ss with
  | nil => exact ⟨by rw [okSs], by rw [tinySs], by rw [smSs]⟩
  | cons x xs ih =>
    obtain ⟨a, b, c⟩ := ih fun y hy => h y (List.mem_cons_of_mem _ hy)
    have hx := h x List.mem_cons_self
    exact ⟨by rw [okSs, hx.ok, a]; rfl, by rw [tinySs, hx.ti, b]; rfl, by rw [smSs, hx.sm, c]; rfl⟩
theorem fine_rowS {c : Bool} {ss : List S9} (h : ∀ x ∈ ss, FineS x) (hl : ss.length ≤ 3) : FineS (.row c ss) := by
  obtain ⟨a, b, d⟩ := ss_all h
  exact ⟨by rw [okS]; exact a, by rw [tinyS, b, decide_eq_true hl]; rfl, by rw [smS]; exact d⟩
theorem fine_powS {n : Nat} {s : S9} (h : FineS s) (hl : n ≤ 3) : FineS (.pow n s) := ⟨by rw [okS]; exact h.ok, by rw [tinyS, h.ti, decide_eq_true hl]; rfl, by rw [smS]; exact h.sm⟩
def ab : Cn := [("a", 2), ("b", 1)]
theorem fine_decS {ss : List S9} (h : ∀ x ∈ ss, FineS x) (hl : ss.length = 2) : FineS (.dec ab ss) := by
  obtain ⟨a, b, d⟩ := ss_all h
  have e1 : cntsZ ab = true := by decide +kernel
  have e2 : decide (ab.map (·.1)).Nodup = true := by decide +kernel
  refine ⟨?_, by rw [tinyS, b, e1]; rfl, by rw [smS]; exact d⟩
  rw [okS, a, e2, decide_eq_true (show ss.length = ab.length from hl)]
  rfl
theorem fn_row {c : Bool} {ss : List S9} {m n : Nat} (h : ∀ x ∈ ss, Fine 0 m n (dt x)) (hl : ss.length ≤ 3) : Fine 0 (3 * m + 20) (n + 2) (dt (.row c ss)) := by
  have a := finel_map (s := 0) (m := m) (n := n) dt ss h
  rw [dt, dts_map]
  have e : ss.length * m ≤ 3 * m := Nat.mul_le_mul_right _ hl
  have b := (FineL.cons (s := 0) (fine_str (x := rowW c) (by cases c <;> decide +kernel) (by cases c <;> decide +kernel)) (FineL.cons a.tup FineL.nil)).tup
  exact b.mono (by omega) (by omega)
theorem fn_pow {k : Nat} {s : S9} {m n : Nat} (h : Fine 0 m n (dt s)) (hl : k ≤ 3) : Fine 0 (m + 20) (n + 1) (dt (.pow k s)) := by
  rw [dt]
  have b := (FineL.cons (s := 0) (fine_str (x := "power") (by decide +kernel) (by decide)) (FineL.cons (fine_n (i := (k : Nat)) (by omega) (by omega)) (FineL.cons h FineL.nil))).tup
  exact b.mono (by omega) (by omega)
theorem fn_dec {ss : List S9} {m n : Nat} (h : ∀ x ∈ ss, Fine 0 m n (dt x)) (hl : ss.length = 2) : Fine 0 (2 * m + 60) (n + 4) (dt (.dec ab ss)) := by
  have a := finel_map (s := 0) (m := m) (n := n) dt ss h
  rw [dt, dts_map]
  have c : Fine 0 40 2 (cntsD ab) := cnts_fineL (m := 5) ⟨by decide +kernel, by decide +kernel, by decide +kernel, by decide⟩ (by decide)
  have b := (FineL.cons (s := 0) (fine_str (x := "decorated") (by decide +kernel) (by decide)) (FineL.cons c (FineL.cons a.tup FineL.nil))).tup
  rw [hl] at b
  exact b.mono (by omega) (by omega)
structure SpOk (s : S9) : Prop where
  fi : FineS s
  np : nP s ≤ 8
  fn : Fine 0 10000 40 (dt s)
def Spaces (H : Hp) (p q : Addr) (b : Nat) (Q : VK) : Prop := ∀ (v : V) (s : S9) (H' : Hp), Off p q H H' → Dk H' p q b → Dat (hide p q H') v (dt s) → FzS (hide p q H') v s → SpOk s → Q v H'
theorem fin_space {H Hc : Hp} {p q a : Addr} {b bc : Nat} {Q : VK} {s : S9} {xs : List V} (k : Spaces H p q b Q) (O : Off p q H Hc) (D : Dk Hc p q bc) (hb : bc ≤ b) (na : Hc a = none) (h : Part (upd Hc a (.tup xs)) (.ref a) s) (ok : SpOk s) : Q (.ref a) (upd Hc a (.tup xs)) := by
  have S := same_new (o := HO.tup xs) na
  have D1 := D.same S
  exact k _ s _ (O.trans (Off.of_same S)) (D1.mono hb) (dat_hide D1 h.d (dt_noL s ok.fi.ti)) (fzs_hide D1 h.f) ok
theorem sl_to {r : V → Option Int → Option Int → Hp → VK → Prop} {te u : TE} {σ : L2.St} {H : Hp} {Q : VK} (h : te σ H fun x H1 => u σ H1 fun y H2 => ∃ i, y = .int i ∧ r x none (some i) H2 Q) : tSl r te tNoPart (tPart u) σ H Q := h
theorem ret_of {te : TE} {D : Ends} {σ : L2.St} {H : Hp} (h : te σ H D.rt) : tRet te D σ H := h
theorem sq_par3D {t : TE} {u : TA} {i j l : Nat} {R : TS} {D : Ends} {σ : L2.St} {H : Hp} (h : t σ H fun v H1 => u σ H1 fun vs H2 => ∃ x y z, v :: vs = [x, y, z] ∧ R D (((σ.set i (some x)).set j (some y)).set l (some z)) H2) : tSeq (tPar3 i j l (tCons t u)) R D σ H := h
theorem nPs_take : ∀ (n : Nat) (l : List S9), nPs (l.take n) ≤ nPs l
  | 0, l => by
    rw [List.take_zero, nPs]
    omega
  | n + 1, [] => by
    rw [List.take_nil]
    exact Nat.le_refl _
  | n + 1, x :: l => by
    have := nPs_take n l
    rw [List.take_succ_cons, nPs, nPs]
    omega
abbrev s_space : Stmt := top 49
def spSpace : Sp := fun vs H Q _ => ∃ (p q : Addr) (b : Nat), vs = [.ref p] ∧ Dk H p q b ∧ b + 100 ≤ 100000000 ∧ Spaces H p q (b + 50) Q
section
variable {P : Program} {w : World} {K : PySem.W.Frag} {mg : Str → Option Value} {base : Heap}
theorem sc_space : FnScope ["_law_deck_here", "_law_sort", "_law_one", "_law_other_here", "_law_third"] ["_law_deck_here"] (defScope s_space) := ⟨rfl, rfl, rfl, by decide +kernel, rfl, by decide +kernel, by decide +kernel⟩
theorem okl_space {f fD fL fF : Addr} {fd fdD fdL fdF : FuncData} (F : Fun K "_law_space" "_law_space" s_space f fd) (T : Nm mg)
    (D_draw : DefOk K mg "_law_draw" sDraw ["_law_deck_here", "_law_bound"] fD fdD)
    (D_leaf : DefOk K mg "_law_leaf" s_leaf ["_law_deck_here", "_law_sort"] fL fdL) (G_leaf : FnOk P w K mg base CX0 9 fL fdL ["_law_deck_here", "_law_sort"] spLeaf)
    (D_few : DefOk K mg "_law_few" s_few ["_law_deck_here"] fF fdF) (G_few : FnOk P w K mg base CX0 3 fF fdF ["_law_deck_here"] spFew) : FnOk P w K mg base CX0 10 f fd ["_law_deck_here"] spSpace := by
  have G_draw : FnOk P w K mg base CX0 1 fD fdD ["_law_deck_here", "_law_bound"] spDraw := ok_draw D_draw.F
  refine F.ok sc_space (fun vs H Q E h => ?_) (fun cdv A outer s H vs Q E hr h => ?_)
  · obtain ⟨p, q, b, rfl, _⟩ := h
    rfl
  · obtain ⟨p, q, b, rfl, D, hb, k⟩ := h
    have hr1 : Room 1 _ := hr.mono (by decide)
    have hr3 : Room 3 _ := hr.mono (by decide)
    refine ⟨_, (pss_cons (ps_set (i := 1) sc_space.nd rfl (Or.inl rfl) (pe_call G_draw hr1 rfl D_draw.g D_draw.F.kp D_draw.b .nil pass0 (pa_cons (pv 0) (pa_cons pe_int pa_nil))))
      (pss_cons (ps_if (pt_cmpR op_lt (pv 1) pe_int (nomark _))
        (pss_one (ps_ret (pe_call G_leaf hr rfl D_leaf.g D_leaf.F.kp D_leaf.b .nil pass0 (pa_cons (pv 0) (pa_cons (pv 1) pa_nil)))))
        pss_nil)
      (pss_cons (ps_par3 (i := 2) (j := 3) (l := 4) rfl sc_space.nd rfl rfl rfl (by decide) (by decide) (by decide) rfl rfl rfl (pa_cons (pe_call G_few hr3 rfl D_few.g D_few.F.kp D_few.b .nil pass0 (pa_cons (pv 0) pa_nil)) (pa_cons (pe_call G_few hr3 rfl D_few.g D_few.F.kp D_few.b .nil pass0 (pa_cons (pv 0) pa_nil)) (pa_cons (pe_call G_few hr3 rfl D_few.g D_few.F.kp D_few.b .nil pass0 (pa_cons (pv 0) pa_nil)) pa_nil))) (by rfl))
      (pss_cons (ps_if (pt_cmpR op_eq (pv 1) pe_int (nomark _))
        (pss_one (ps_ret (pe_tup (pa_cons pe_str (pa_cons (pe_slice sl_tupA (pe_tup (pa_cons (pv 2) (pa_cons (pv 3) (pa_cons (pv 4) pa_nil)))) po_none (po_some (pe_op op_add pe_int (pe_call G_draw hr1 rfl D_draw.g D_draw.F.kp D_draw.b .nil pass0 (pa_cons (pv 0) (pa_cons pe_int pa_nil)))))) pa_nil)))))
        pss_nil)
      (pss_cons (ps_if (pt_cmpR op_eq (pv 1) pe_int (nomark _))
        (pss_one (ps_ret (pe_tup (pa_cons pe_str (pa_cons (pe_call G_draw hr1 rfl D_draw.g D_draw.F.kp D_draw.b .nil pass0 (pa_cons (pv 0) (pa_cons pe_int pa_nil))) (pa_cons (pv 2) pa_nil))))))
        pss_nil)
      (pss_cons (ps_if (pt_cmpR op_eq (pv 1) pe_int (nomark _))
        (pss_one (ps_ret (pe_tup (pa_cons pe_str (pa_cons (pe_slice sl_tupA (pe_tup (pa_cons (pv 2) (pa_cons (pv 3) (pa_cons (pv 4) pa_nil)))) po_none (po_some (pe_op op_add pe_int (pe_call G_draw hr1 rfl D_draw.g D_draw.F.kp D_draw.b .nil pass0 (pa_cons (pv 0) (pa_cons pe_int pa_nil)))))) pa_nil)))))
        pss_nil)
      (pss_cons (ps_if (pt_cmpR op_eq (pv 1) pe_int (nomark _))
        (pss_one (ps_ret (pe_tup (pa_cons pe_str (pa_cons (pe_tupF (pd_cons (pd_tup (by decide) (pd_cons (pd_str (by decide) pe_str) (pd_cons (pd_int pe_int) pd_nil))) (pd_cons (pd_tup (by decide) (pd_cons (pd_str (by decide) pe_str) (pd_cons (pd_int pe_int) pd_nil))) pd_nil))) (pa_cons (pe_tup (pa_cons (pv 2) (pa_cons (pv 3) pa_nil))) pa_nil))))))
        pss_nil)
      (pss_cons (ps_if (pt_cmpR op_eq (pv 1) pe_int (nomark _))
        (pss_one (ps_ret (pe_tup (pa_cons pe_str (pa_cons (pe_tup (pa_cons (pe_tup (pa_cons pe_str (pa_cons (pe_tup (pa_cons (pv 2) (pa_cons (pv 3) pa_nil))) pa_nil))) (pa_cons (pv 4) pa_nil))) pa_nil)))))
        pss_nil)
      (pss_cons (ps_if (pt_cmpR op_eq (pv 1) pe_int (nomark _))
        (pss_one (ps_ret (pe_tup (pa_cons pe_str (pa_cons (pe_tup (pa_cons (pe_tup (pa_cons pe_str (pa_cons (pe_tup (pa_cons (pv 2) (pa_cons (pv 3) pa_nil))) pa_nil))) (pa_cons (pv 4) pa_nil))) pa_nil)))))
        pss_nil)
      (pss_one (ps_ret (pe_tup (pa_cons pe_str (pa_cons pe_int (pa_cons (pe_tup (pa_cons pe_str (pa_cons (pe_tup (pa_cons (pv 2) (pa_cons (pv 3) pa_nil))) pa_nil))) pa_nil))))))))))))))), ?_⟩
    refine sq_any (draw_c (n := 16) rfl D (by decide) (by decide) (by omega) fun z H1 hz O1 D1 => ?_)
    have EV : EnvOk [(1, .int (z : Nat))] [some (V.ref p), some (.int (z : Nat)), none, none, none] H1 := fun pr hp => by
      obtain rfl := List.mem_singleton.mp hp
      exact ⟨_, rfl, .int _⟩
    by_cases hz9 : (z : Int) < 9
    · refine sq_if1 (mkt (mk_cmp (b := true) (mk_var List.mem_cons_self) mk_int (congrArg V.bl (decide_eq_true hz9)))) EV fun H2 S2 => ?_
      refine ret_of (call_v rfl ⟨_, rfl, p, q, b + 1, z, rfl, by omega, D1.same S2, by omega, fun v l H' O' D' d f ok => ?_⟩)
      have fi := ok.fi
      exact k v (.leaf l) H' ((O1.trans (Off.of_same S2)).trans O') (D'.mono (by omega)) (by rw [dt]; exact d) (by rw [FzS]; exact f) ⟨fi, by rw [nP]; decide, by rw [dt]; exact ok.fn.mono (by decide) (by decide)⟩
    · refine sq_if0 (mkt (mk_cmp (b := false) (mk_var List.mem_cons_self) mk_int (congrArg V.bl (decide_eq_false hz9)))) EV fun H2 S2 => ?_
      refine sq_par3D (call_1 rfl ⟨p, q, b + 1, rfl, D1.same S2, by omega, fun v1 l1 Ha Oa Da d1 f1 ok1 => cons_of (call_1 rfl ⟨p, q, b + 1 + 1, rfl, Da, by omega, fun v2 l2 Hb Ob Db d2 f2 ok2 => cons_of (call_1 rfl ⟨p, q, b + 1 + 1 + 1, rfl, Db, by omega, fun v3 l3 Hc Oc Dc d3 f3 ok3 => ⟨_, _, _, rfl, ?_⟩⟩)⟩)⟩)
      have OX := (((O1.trans (Off.of_same S2)).trans Oa).trans Ob).trans Oc
      have p1 := part_leaf (d1.same ((hide_off Ob))) (f1.same (hide_off Ob))
      have p1 := p1.same (hide_off Oc)
      have p2 := (part_leaf d2 f2).same (hide_off Oc)
      have p3 := part_leaf d3 f3
      have EV : EnvOk [(1, .int (z : Nat))] [some (V.ref p), some (.int (z : Nat)), some v1, some v2, some v3] Hc := fun pr hp => by
        obtain rfl := List.mem_singleton.mp hp
        exact ⟨_, rfl, .int _⟩
      have n1 : nP (.leaf l1) = 1 := by rw [nP]
      have n2 : nP (.leaf l2) = 1 := by rw [nP]
      have n3 : nP (.leaf l3) = 1 := by rw [nP]
      have g1 : Fine 0 1000 20 (dt (.leaf l1)) := by rw [dt]; exact ok1.fn
      have g2 : Fine 0 1000 20 (dt (.leaf l2)) := by rw [dt]; exact ok2.fn
      have g3 : Fine 0 1000 20 (dt (.leaf l3)) := by rw [dt]; exact ok3.fn
      have h1 := ok1.fi
      have h2 := ok2.fi
      have h3 := ok3.fi
      match z, hz, hz9, EV with
      | 0, _, h, _ => exact absurd (by decide) h
      | 1, _, h, _ => exact absurd (by decide) h
      | 2, _, h, _ => exact absurd (by decide) h
      | 3, _, h, _ => exact absurd (by decide) h
      | 4, _, h, _ => exact absurd (by decide) h
      | 5, _, h, _ => exact absurd (by decide) h
      | 6, _, h, _ => exact absurd (by decide) h
      | 7, _, h, _ => exact absurd (by decide) h
      | 8, _, h, _ => exact absurd (by decide) h
      | 9, _, _, EV =>
        refine sq_if1 (mkt (mk_eq (mk_var List.mem_cons_self) mk_int (by decide))) EV fun HY9 SY9 => ?_
        have EY9 := (EV).same SY9
        have SX := SY9
        have DX := Dc.same SX
        have OXX := OX.trans (Off.of_same SX)
        have q1 := p1.same (hide_same SX)
        have q2 := p2.same (hide_same SX)
        have q3 := p3.same (hide_same SX)
        refine ret_tup1 (cons_of (sl_to ⟨_, rfl, _, rfl, _, rfl, (by show 3 ≤ sizeLine; decide), fun t nt => draw_1 (n := 3) rfl (DX.same (same_new nt)) (by decide) (by decide) (by omega) fun i Hd hi Od Dd => ⟨_, rfl, ?_⟩⟩))
        have St := same_new (o := HO.tup [v1, v2, v3]) nt
        have ht := upR (tp_hide (DX.same St) (TP.of (upd_same (a := t) (o := .tup [v1, v2, v3])))) (hide_off Od)
        have PA := (parts_cons q1 (parts_cons q2 (parts_cons q3 parts_nil))).same ((hide_same St).trans (hide_off Od))
        refine slAny_of (upR ht (hide_sub _ _ _)) fun b2 He Se hb2 => ⟨(by show 2 ≤ sizeLine; decide), fun a na => ?_⟩
        rw [show (1 : Int) + (i : Int) = ((1 + i : Nat) : Int) by omega, cutV_to] at hb2
        have Sa := same_new (o := HO.tup [.str "product", .ref b2]) na
        have all : ∀ x ∈ ([.leaf l1, .leaf l2, .leaf l3] : List S9).take (1 + i), FineS x ∧ Fine 0 1000 20 (dt x) := fun x hx => by
          have := List.mem_of_mem_take hx
          simp only [List.mem_cons, List.not_mem_nil, or_false] at this
          rcases this with rfl | rfl | rfl
          · exact ⟨h1, g1⟩
          · exact ⟨h2, g2⟩
          · exact ⟨h3, g3⟩
        have hlen : (([.leaf l1, .leaf l2, .leaf l3] : List S9).take (1 + i)).length ≤ 3 := by
          rw [List.length_take]
          exact Nat.min_le_right _ _
        have hnp := nPs_take (1 + i) [.leaf l1, .leaf l2, .leaf l3]
        rw [nPs, nPs, nPs, nPs, n1, n2, n3] at hnp
        exact fin_space k (((OXX.trans (.of_same St)).trans Od).trans (.of_same Se)) (Dd.same Se) (by omega) na (s := .row false (([.leaf l1, .leaf l2, .leaf l3] : List S9).take (1 + i))) (prt_row (c := false) (TP.of upd_same) (upR hb2 Sa) ((((parts_take (1 + i) PA).same (hide_sub _ _ _)).same Se).same Sa))
          ⟨fine_rowS (fun x hx => (all x hx).1) hlen, by rw [nP]; omega, (fn_row (fun x hx => (all x hx).2) hlen).mono (by decide) (by decide)⟩
      | 10, _, _, EV =>
        refine sq_if0 (mkt (mk_eq (mk_var List.mem_cons_self) mk_int (by decide))) EV fun HY9 SY9 => ?_
        have EY9 := (EV).same SY9
        refine sq_if1 (mkt (mk_eq (mk_var List.mem_cons_self) mk_int (by decide))) EY9 fun HY10 SY10 => ?_
        have EY10 := (EY9).same SY10
        have SX := (SY9.trans SY10)
        have DX := Dc.same SX
        have OXX := OX.trans (Off.of_same SX)
        have q1 := p1.same (hide_same SX)
        have q2 := p2.same (hide_same SX)
        have q3 := p3.same (hide_same SX)
        refine ret_tup1 (cons_of (draw_c (n := 4) rfl DX (by decide) (by decide) (by omega) fun i Hd hi Od Dd => ⟨_, rfl, (by show 3 ≤ sizeLine; decide), fun a na => ?_⟩))
        have Sa := same_new (o := HO.tup [.str "power", .int (i : Nat), v1]) na
        have hi3 : i * 1 ≤ 3 * 1 := by omega
        exact fin_space k (OXX.trans Od) Dd (by omega) na (s := .pow i (.leaf l1)) (prt_pow (TP.of upd_same) (((q1.same (hide_off Od)).same (hide_sub _ _ _)).same Sa)) ⟨fine_powS h1 (by omega), by rw [nP, n1]; omega, (fn_pow g1 (by omega)).mono (by decide) (by decide)⟩
      | 11, _, _, EV =>
        refine sq_if0 (mkt (mk_eq (mk_var List.mem_cons_self) mk_int (by decide))) EV fun HY9 SY9 => ?_
        have EY9 := (EV).same SY9
        refine sq_if0 (mkt (mk_eq (mk_var List.mem_cons_self) mk_int (by decide))) EY9 fun HY10 SY10 => ?_
        have EY10 := (EY9).same SY10
        refine sq_if1 (mkt (mk_eq (mk_var List.mem_cons_self) mk_int (by decide))) EY10 fun HY11 SY11 => ?_
        have EY11 := (EY10).same SY11
        have SX := ((SY9.trans SY10).trans SY11)
        have DX := Dc.same SX
        have OXX := OX.trans (Off.of_same SX)
        have q1 := p1.same (hide_same SX)
        have q2 := p2.same (hide_same SX)
        have q3 := p3.same (hide_same SX)
        refine ret_tup1 (cons_of (sl_to ⟨_, rfl, _, rfl, _, rfl, (by show 3 ≤ sizeLine; decide), fun t nt => draw_1 (n := 3) rfl (DX.same (same_new nt)) (by decide) (by decide) (by omega) fun i Hd hi Od Dd => ⟨_, rfl, ?_⟩⟩))
        have St := same_new (o := HO.tup [v1, v2, v3]) nt
        have ht := upR (tp_hide (DX.same St) (TP.of (upd_same (a := t) (o := .tup [v1, v2, v3])))) (hide_off Od)
        have PA := (parts_cons q1 (parts_cons q2 (parts_cons q3 parts_nil))).same ((hide_same St).trans (hide_off Od))
        refine slAny_of (upR ht (hide_sub _ _ _)) fun b2 He Se hb2 => ⟨(by show 2 ≤ sizeLine; decide), fun a na => ?_⟩
        rw [show (1 : Int) + (i : Int) = ((1 + i : Nat) : Int) by omega, cutV_to] at hb2
        have Sa := same_new (o := HO.tup [.str "choice", .ref b2]) na
        have all : ∀ x ∈ ([.leaf l1, .leaf l2, .leaf l3] : List S9).take (1 + i), FineS x ∧ Fine 0 1000 20 (dt x) := fun x hx => by
          have := List.mem_of_mem_take hx
          simp only [List.mem_cons, List.not_mem_nil, or_false] at this
          rcases this with rfl | rfl | rfl
          · exact ⟨h1, g1⟩
          · exact ⟨h2, g2⟩
          · exact ⟨h3, g3⟩
        have hlen : (([.leaf l1, .leaf l2, .leaf l3] : List S9).take (1 + i)).length ≤ 3 := by
          rw [List.length_take]
          exact Nat.min_le_right _ _
        have hnp := nPs_take (1 + i) [.leaf l1, .leaf l2, .leaf l3]
        rw [nPs, nPs, nPs, nPs, n1, n2, n3] at hnp
        exact fin_space k (((OXX.trans (.of_same St)).trans Od).trans (.of_same Se)) (Dd.same Se) (by omega) na (s := .row true (([.leaf l1, .leaf l2, .leaf l3] : List S9).take (1 + i))) (prt_row (c := true) (TP.of upd_same) (upR hb2 Sa) ((((parts_take (1 + i) PA).same (hide_sub _ _ _)).same Se).same Sa))
          ⟨fine_rowS (fun x hx => (all x hx).1) hlen, by rw [nP]; omega, (fn_row (fun x hx => (all x hx).2) hlen).mono (by decide) (by decide)⟩
      | 12, _, _, EV =>
        refine sq_if0 (mkt (mk_eq (mk_var List.mem_cons_self) mk_int (by decide))) EV fun HY9 SY9 => ?_
        have EY9 := (EV).same SY9
        refine sq_if0 (mkt (mk_eq (mk_var List.mem_cons_self) mk_int (by decide))) EY9 fun HY10 SY10 => ?_
        have EY10 := (EY9).same SY10
        refine sq_if0 (mkt (mk_eq (mk_var List.mem_cons_self) mk_int (by decide))) EY10 fun HY11 SY11 => ?_
        have EY11 := (EY10).same SY11
        refine sq_if1 (mkt (mk_eq (mk_var List.mem_cons_self) mk_int (by decide))) EY11 fun HY12 SY12 => ?_
        have EY12 := (EY11).same SY12
        have SX := (((SY9.trans SY10).trans SY11).trans SY12)
        have DX := Dc.same SX
        have OXX := OX.trans (Off.of_same SX)
        have q1 := p1.same (hide_same SX)
        have q2 := p2.same (hide_same SX)
        have q3 := p3.same (hide_same SX)
        refine ret_tup1 (fun cv Hd Sd cd => ⟨by rw [cd.len]; decide, fun c1 oo m1 no => ⟨_, rfl, _, rfl, (by show 2 ≤ sizeLine; decide), fun b2 nb => ⟨(by show 3 ≤ sizeLine; decide), fun a na => ?_⟩⟩⟩)
        have Sc := same_new (o := HO.frz oo (.tup cv)) m1
        have uc : upd Hd c1 (.frz oo (.tup cv)) c1 = some (.frz oo (.tup cv)) := upd_same
        have Sb := same_new (o := HO.tup [v1, v2]) nb
        have ub : upd (upd Hd c1 (.frz oo (.tup cv))) b2 (.tup [v1, v2]) b2 = some (.tup [v1, v2]) := upd_same
        have Sa := same_new (o := HO.tup [.str "decorated", .ref c1, .ref b2]) na
        have ST := (Sd.trans Sc).trans Sb
        have uca := Sa _ _ (Sb _ _ uc)
        have all : ∀ x ∈ ([.leaf l1, .leaf l2] : List S9), FineS x ∧ Fine 0 1000 20 (dt x) := fun x hx => by
          simp only [List.mem_cons, List.not_mem_nil, or_false] at hx
          rcases hx with rfl | rfl
          · exact ⟨h1, g1⟩
          · exact ⟨h2, g2⟩
        have np : nP (.dec ab [.leaf l1, .leaf l2]) = 4 := by
          rw [nP, ab, nPz, nPz, nPz, n1, n2]
          decide
        exact fin_space k (OXX.trans (.of_same ST)) (DX.same ST) (by omega) na (s := .dec ab [.leaf l1, .leaf l2]) (prt_dec (TP.of upd_same) (.tup (TP.fz uca no) (cd.same ((Sc.trans Sb).trans Sa))) ⟨c1, oo, cv, rfl, uca, no⟩ (TP.of (Sa _ _ ub)) ((((parts_cons q1 (parts_cons q2 parts_nil)).same (hide_sub _ _ _)).same ST).same Sa))
          ⟨fine_decS (fun x hx => (all x hx).1) rfl, by rw [np]; decide, (fn_dec (fun x hx => (all x hx).2) rfl).mono (by decide) (by decide)⟩
      | 13, _, _, EV =>
        refine sq_if0 (mkt (mk_eq (mk_var List.mem_cons_self) mk_int (by decide))) EV fun HY9 SY9 => ?_
        have EY9 := (EV).same SY9
        refine sq_if0 (mkt (mk_eq (mk_var List.mem_cons_self) mk_int (by decide))) EY9 fun HY10 SY10 => ?_
        have EY10 := (EY9).same SY10
        refine sq_if0 (mkt (mk_eq (mk_var List.mem_cons_self) mk_int (by decide))) EY10 fun HY11 SY11 => ?_
        have EY11 := (EY10).same SY11
        refine sq_if0 (mkt (mk_eq (mk_var List.mem_cons_self) mk_int (by decide))) EY11 fun HY12 SY12 => ?_
        have EY12 := (EY11).same SY12
        refine sq_if1 (mkt (mk_eq (mk_var List.mem_cons_self) mk_int (by decide))) EY12 fun HY13 SY13 => ?_
        have EY13 := (EY12).same SY13
        have SX := ((((SY9.trans SY10).trans SY11).trans SY12).trans SY13)
        have DX := Dc.same SX
        have OXX := OX.trans (Off.of_same SX)
        have q1 := p1.same (hide_same SX)
        have q2 := p2.same (hide_same SX)
        have q3 := p3.same (hide_same SX)
        refine ret_tup1 ⟨_, rfl, _, rfl, (by show 2 ≤ sizeLine; decide), fun t1 m1 => ⟨(by show 2 ≤ sizeLine; decide), fun t2 m2 => ⟨_, rfl, (by show 2 ≤ sizeLine; decide), fun t3 m3 => ⟨(by show 2 ≤ sizeLine; decide), fun a na => ?_⟩⟩⟩⟩
        have Sx := same_new (o := HO.tup [v1, v2]) m1
        have ux := TP.of (upd_same (H := HY13) (a := t1) (o := .tup [v1, v2]))
        have Sy := same_new (o := HO.tup [.str "choice", .ref t1]) m2
        have uy := TP.of (upd_same (H := upd HY13 t1 (.tup [v1, v2])) (a := t2) (o := .tup [.str "choice", .ref t1]))
        have Sz := same_new (o := HO.tup [.ref t2, v3]) m3
        have uz := TP.of (upd_same (H := upd (upd HY13 t1 (.tup [v1, v2])) t2 (.tup [.str "choice", .ref t1])) (a := t3) (o := .tup [.ref t2, v3]))
        have Sa := same_new (o := HO.tup [.str "product", .ref t3]) na
        have ST := (Sx.trans Sy).trans Sz
        have c1 := prt_row (c := true) uy (upR ux Sy) ((((parts_cons q1 (parts_cons q2 parts_nil)).same (hide_sub _ _ _)).same Sx).same Sy)
        have c2 := parts_cons (c1.same Sz) (parts_cons ((q3.same (hide_sub _ _ _)).same ST) parts_nil)
        have all : ∀ x ∈ ([.leaf l1, .leaf l2] : List S9), FineS x ∧ Fine 0 1000 20 (dt x) := fun x hx => by
          simp only [List.mem_cons, List.not_mem_nil, or_false] at hx
          rcases hx with rfl | rfl
          · exact ⟨h1, g1⟩
          · exact ⟨h2, g2⟩
        have all2 : ∀ x ∈ ([.row true [.leaf l1, .leaf l2], .leaf l3] : List S9), FineS x ∧ Fine 0 3020 22 (dt x) := fun x hx => by
          simp only [List.mem_cons, List.not_mem_nil, or_false] at hx
          rcases hx with rfl | rfl
          · exact ⟨fine_rowS (fun x hx => (all x hx).1) (by show 2 ≤ 3; decide), fn_row (fun x hx => (all x hx).2) (by show 2 ≤ 3; decide)⟩
          · exact ⟨h3, g3.mono (by decide) (by decide)⟩
        have np : nP (.row false [.row true [.leaf l1, .leaf l2], .leaf l3]) = 5 := by
          simp only [nP, nPs]
        exact fin_space k (OXX.trans (.of_same ST)) (DX.same ST) (by omega) na (s := .row false [.row true [.leaf l1, .leaf l2], .leaf l3]) (prt_row (c := false) (TP.of upd_same) (upR uz Sa) (c2.same Sa))
          ⟨fine_rowS (fun x hx => (all2 x hx).1) (by show 2 ≤ 3; decide), by rw [np]; decide, (fn_row (m := 3020) (n := 22) (fun x hx => (all2 x hx).2) (by show 2 ≤ 3; decide)).mono (by decide) (by decide)⟩
      | 14, _, _, EV =>
        refine sq_if0 (mkt (mk_eq (mk_var List.mem_cons_self) mk_int (by decide))) EV fun HY9 SY9 => ?_
        have EY9 := (EV).same SY9
        refine sq_if0 (mkt (mk_eq (mk_var List.mem_cons_self) mk_int (by decide))) EY9 fun HY10 SY10 => ?_
        have EY10 := (EY9).same SY10
        refine sq_if0 (mkt (mk_eq (mk_var List.mem_cons_self) mk_int (by decide))) EY10 fun HY11 SY11 => ?_
        have EY11 := (EY10).same SY11
        refine sq_if0 (mkt (mk_eq (mk_var List.mem_cons_self) mk_int (by decide))) EY11 fun HY12 SY12 => ?_
        have EY12 := (EY11).same SY12
        refine sq_if0 (mkt (mk_eq (mk_var List.mem_cons_self) mk_int (by decide))) EY12 fun HY13 SY13 => ?_
        have EY13 := (EY12).same SY13
        refine sq_if1 (mkt (mk_eq (mk_var List.mem_cons_self) mk_int (by decide))) EY13 fun HY14 SY14 => ?_
        have EY14 := (EY13).same SY14
        have SX := (((((SY9.trans SY10).trans SY11).trans SY12).trans SY13).trans SY14)
        have DX := Dc.same SX
        have OXX := OX.trans (Off.of_same SX)
        have q1 := p1.same (hide_same SX)
        have q2 := p2.same (hide_same SX)
        have q3 := p3.same (hide_same SX)
        refine ret_tup1 ⟨_, rfl, _, rfl, (by show 2 ≤ sizeLine; decide), fun t1 m1 => ⟨(by show 2 ≤ sizeLine; decide), fun t2 m2 => ⟨_, rfl, (by show 2 ≤ sizeLine; decide), fun t3 m3 => ⟨(by show 2 ≤ sizeLine; decide), fun a na => ?_⟩⟩⟩⟩
        have Sx := same_new (o := HO.tup [v1, v2]) m1
        have ux := TP.of (upd_same (H := HY14) (a := t1) (o := .tup [v1, v2]))
        have Sy := same_new (o := HO.tup [.str "choice", .ref t1]) m2
        have uy := TP.of (upd_same (H := upd HY14 t1 (.tup [v1, v2])) (a := t2) (o := .tup [.str "choice", .ref t1]))
        have Sz := same_new (o := HO.tup [.ref t2, v3]) m3
        have uz := TP.of (upd_same (H := upd (upd HY14 t1 (.tup [v1, v2])) t2 (.tup [.str "choice", .ref t1])) (a := t3) (o := .tup [.ref t2, v3]))
        have Sa := same_new (o := HO.tup [.str "choice", .ref t3]) na
        have ST := (Sx.trans Sy).trans Sz
        have c1 := prt_row (c := true) uy (upR ux Sy) ((((parts_cons q1 (parts_cons q2 parts_nil)).same (hide_sub _ _ _)).same Sx).same Sy)
        have c2 := parts_cons (c1.same Sz) (parts_cons ((q3.same (hide_sub _ _ _)).same ST) parts_nil)
        have all : ∀ x ∈ ([.leaf l1, .leaf l2] : List S9), FineS x ∧ Fine 0 1000 20 (dt x) := fun x hx => by
          simp only [List.mem_cons, List.not_mem_nil, or_false] at hx
          rcases hx with rfl | rfl
          · exact ⟨h1, g1⟩
          · exact ⟨h2, g2⟩
        have all2 : ∀ x ∈ ([.row true [.leaf l1, .leaf l2], .leaf l3] : List S9), FineS x ∧ Fine 0 3020 22 (dt x) := fun x hx => by
          simp only [List.mem_cons, List.not_mem_nil, or_false] at hx
          rcases hx with rfl | rfl
          · exact ⟨fine_rowS (fun x hx => (all x hx).1) (by show 2 ≤ 3; decide), fn_row (fun x hx => (all x hx).2) (by show 2 ≤ 3; decide)⟩
          · exact ⟨h3, g3.mono (by decide) (by decide)⟩
        have np : nP (.row true [.row true [.leaf l1, .leaf l2], .leaf l3]) = 5 := by
          simp only [nP, nPs]
        exact fin_space k (OXX.trans (.of_same ST)) (DX.same ST) (by omega) na (s := .row true [.row true [.leaf l1, .leaf l2], .leaf l3]) (prt_row (c := true) (TP.of upd_same) (upR uz Sa) (c2.same Sa))
          ⟨fine_rowS (fun x hx => (all2 x hx).1) (by show 2 ≤ 3; decide), by rw [np]; decide, (fn_row (m := 3020) (n := 22) (fun x hx => (all2 x hx).2) (by show 2 ≤ 3; decide)).mono (by decide) (by decide)⟩
      | 15, _, _, EV =>
        refine sq_if0 (mkt (mk_eq (mk_var List.mem_cons_self) mk_int (by decide))) EV fun HY9 SY9 => ?_
        have EY9 := (EV).same SY9
        refine sq_if0 (mkt (mk_eq (mk_var List.mem_cons_self) mk_int (by decide))) EY9 fun HY10 SY10 => ?_
        have EY10 := (EY9).same SY10
        refine sq_if0 (mkt (mk_eq (mk_var List.mem_cons_self) mk_int (by decide))) EY10 fun HY11 SY11 => ?_
        have EY11 := (EY10).same SY11
        refine sq_if0 (mkt (mk_eq (mk_var List.mem_cons_self) mk_int (by decide))) EY11 fun HY12 SY12 => ?_
        have EY12 := (EY11).same SY12
        refine sq_if0 (mkt (mk_eq (mk_var List.mem_cons_self) mk_int (by decide))) EY12 fun HY13 SY13 => ?_
        have EY13 := (EY12).same SY13
        refine sq_if0 (mkt (mk_eq (mk_var List.mem_cons_self) mk_int (by decide))) EY13 fun HY14 SY14 => ?_
        have EY14 := (EY13).same SY14
        have SX := (((((SY9.trans SY10).trans SY11).trans SY12).trans SY13).trans SY14)
        have DX := Dc.same SX
        have OXX := OX.trans (Off.of_same SX)
        have q1 := p1.same (hide_same SX)
        have q2 := p2.same (hide_same SX)
        have q3 := p3.same (hide_same SX)
        refine ret_tup1 ⟨_, rfl, _, rfl, (by show 2 ≤ sizeLine; decide), fun t1 m1 => ⟨(by show 2 ≤ sizeLine; decide), fun t2 m2 => ⟨(by show 3 ≤ sizeLine; decide), fun a na => ?_⟩⟩⟩
        have Sx := same_new (o := HO.tup [v1, v2]) m1
        have ux := TP.of (upd_same (H := HY14) (a := t1) (o := .tup [v1, v2]))
        have Sy := same_new (o := HO.tup [.str "choice", .ref t1]) m2
        have uy := TP.of (upd_same (H := upd HY14 t1 (.tup [v1, v2])) (a := t2) (o := .tup [.str "choice", .ref t1]))
        have Sa := same_new (o := HO.tup [.str "power", .int 2, .ref t2]) na
        have ST := Sx.trans Sy
        have c1 := prt_row (c := true) uy (upR ux Sy) ((((parts_cons q1 (parts_cons q2 parts_nil)).same (hide_sub _ _ _)).same Sx).same Sy)
        have all : ∀ x ∈ ([.leaf l1, .leaf l2] : List S9), FineS x ∧ Fine 0 1000 20 (dt x) := fun x hx => by
          simp only [List.mem_cons, List.not_mem_nil, or_false] at hx
          rcases hx with rfl | rfl
          · exact ⟨h1, g1⟩
          · exact ⟨h2, g2⟩
        have np : nP (.pow 2 (.row true [.leaf l1, .leaf l2])) = 7 := by
          simp only [nP, nPs]
        exact fin_space k (OXX.trans (.of_same ST)) (DX.same ST) (by omega) na (s := .pow 2 (.row true [.leaf l1, .leaf l2])) (prt_pow (n := 2) (TP.of upd_same) (c1.same Sa))
          ⟨fine_powS (fine_rowS (fun x hx => (all x hx).1) (by show 2 ≤ 3; decide)) (by decide), by rw [np]; decide, (fn_pow (fn_row (m := 1000) (n := 20) (fun x hx => (all x hx).2) (by show 2 ≤ 3; decide)) (by decide)).mono (by decide) (by decide)⟩
      | n + 16, h, _, _ => exact absurd h (by omega)
end
end K9
set_option maxRecDepth 100000
set_option maxHeartbeats 8000000
namespace K9
open PySem PySem.Spec PyProof.Rows L2
/-! ### beside the deck and one more list -/
def hid3 (p q A : Addr) (H : Hp) : Hp := fun b => if b = p ∨ b = q ∨ b = A then none else H b
structure D3 (H : Hp) (p q A : Addr) (b : Nat) : Prop where
  dk : Dk H p q b
  ap : ∃ xs, H A = some (.lst xs)
  np : A ≠ p
  nq : A ≠ q
section
variable {H H' : Hp} {p q A t : Addr} {b : Nat}
theorem hid3_sub : Same (hid3 p q A H) H := fun c o e => by
  unfold hid3 at e
  split at e
  · cases e
  · exact e
theorem hid3_at {c : Addr} {o : HO} (h : H c = some o) (hp : c ≠ p) (hq : c ≠ q) (hA : c ≠ A) : hid3 p q A H c = some o := by
  unfold hid3
  rw [if_neg (fun z => z.elim hp fun z => z.elim hq hA)]
  exact h
theorem hid3_same (S : Same H H') : Same (hid3 p q A H) (hid3 p q A H') := fun c o e => by
  unfold hid3 at e ⊢
  split at e
  · cases e
  · rename_i h
    rw [if_neg h]
    exact S _ _ e
theorem hid3_off (O : Off p q H H') : Same (hid3 p q A H) (hid3 p q A H') := fun c o e => by
  unfold hid3 at e ⊢
  split at e
  · cases e
  · rename_i h
    rw [if_neg h]
    exact O _ _ e (fun z => h (.inl z)) (fun z => h (.inr (.inl z)))
theorem D3.same (D : D3 H p q A b) (S : Same H H') : D3 H' p q A b := by
  obtain ⟨xs, e⟩ := D.ap
  exact ⟨D.dk.same S, ⟨xs, S _ _ e⟩, D.np, D.nq⟩
theorem D3.mono {b' : Nat} (D : D3 H p q A b) (h : b ≤ b') : D3 H p q A b' := ⟨D.dk.mono h, D.ap, D.np, D.nq⟩
theorem D3.off {b' : Nat} (D : D3 H p q A b) (O : Off p q H H') (D' : Dk H' p q b') : D3 H' p q A b' := by
  obtain ⟨xs, e⟩ := D.ap
  exact ⟨D', ⟨xs, O _ _ e D.np D.nq⟩, D.np, D.nq⟩
theorem D3.new (D : D3 H p q A b) (n : H t = none) : t ≠ p ∧ t ≠ q ∧ t ≠ A := by
  refine ⟨(D.dk.new n).1, (D.dk.new n).2, fun e => ?_⟩
  obtain ⟨xs, h⟩ := D.ap
  rw [e, h] at n
  cases n
theorem hid3_new {o : HO} (D : D3 H p q A b) (n : H t = none) : hid3 p q A (upd H t o) t = some o := hid3_at upd_same (D.new n).1 (D.new n).2.1 (D.new n).2.2
theorem tp_hid3 {a : Addr} {xs : List V} (D : D3 H p q A b) (h : TP H a xs) : TP (hid3 p q A H) a xs := by
  obtain ⟨ns, m, c, D', hc⟩ := D.dk
  obtain ⟨ys, hA⟩ := D.ap
  have n1 : a ≠ p := fun e => h.noL (e ▸ D'.ob)
  have n2 : a ≠ q := fun e => h.noL (e ▸ D'.ce)
  have n3 : a ≠ A := fun e => h.noL (e ▸ hA)
  intro C f g
  exact h C (fun e => f (hid3_at e n1 n2 n3)) fun o e n => g o (hid3_at e n1 n2 n3) n
theorem draw_of3 {n : Int} {Q : VK} {E : XK} (D : D3 H p q A b) (h0 : 0 < n) (h1 : n ≤ 1000000) (hb : b < 100000000) (k : ∀ (i : Nat) (H' : Hp), (i : Int) < n → Off p q H H' → D3 H' p q A (b + 1) → Q (.int (i : Nat)) H') : spDraw [.ref p, .int n] H Q E :=
  draw_of D.dk h0 h1 hb fun i H' hi O D' => k i H' hi O (D.off O D')
theorem draw_c3 {i : Nat} {n : Int} {σ : L2.St} {Q : VK} (hi : σ[i]? = some (some (.ref p))) (D : D3 H p q A b) (h0 : 0 < n) (h1 : n ≤ 1000000) (hb : b < 100000000) (k : ∀ (i : Nat) (H' : Hp), (i : Int) < n → Off p q H H' → D3 H' p q A (b + 1) → Q (.int (i : Nat)) H') :
    tCall spDraw [] E0 (tCons (tVar i) (tCons (tC (.int n)) tNil)) σ H Q := draw_c hi D.dk h0 h1 hb fun i H' hi O D' => k i H' hi O (D.off O D')
theorem pick_of3 {xs : List V} {Q : VK} {E : XK} (D : D3 H p q A b) (ht : H t = some (.lst xs)) (tp : t ≠ p) (tq : t ≠ q) (h0 : 0 < xs.length) (h1 : xs.length ≤ 1000) (hb : b < 100000000) (k : ∀ (j : Nat) (x : V) (H' : Hp), xs[j]? = some x → Off p q H H' → D3 H' p q A (b + 1) → Q x H') : spPick [.ref p, .ref t] H Q E :=
  pick_of D.dk ht tp tq h0 h1 hb fun j x H' hx O D' => k j x H' hx O (D.off O D')
end
end K9
set_option maxRecDepth 100000
set_option maxHeartbeats 8000000
namespace K9
open PySem PySem.Spec PyProof.Rows L2
/-! ### known data beside the deck -/
def MkH (p q A : Addr) (G : List (Nat × PyData)) (t : TE) (d : PyData) : Prop := ∀ (σ : L2.St) (H : Hp) (b : Nat) (Q : VK), D3 H p q A b → EnvOk G σ (hid3 p q A H) → (∀ (v : V) (H' : Hp), Same H H' → Dat (hid3 p q A H') v d → Q v H') → t σ H Q
def MksH (p q A : Addr) (G : List (Nat × PyData)) (t : TA) (ds : List PyData) : Prop := ∀ (σ : L2.St) (H : Hp) (b : Nat) (Q : List V → Hp → Prop), D3 H p q A b → EnvOk G σ (hid3 p q A H) → (∀ (vs : List V) (H' : Hp), Same H H' → DatAll (hid3 p q A H') vs ds → Q vs H') → t σ H Q
/-- a new list -/
def MkHF (p q A : Addr) (G : List (Nat × PyData)) (t : TE) (ds : List PyData) : Prop := ∀ (σ : L2.St) (H : Hp) (b : Nat) (Q : VK), D3 H p q A b → EnvOk G σ (hid3 p q A H) →
  (∀ (L : Addr) (zs : List V) (H' : Hp), L ≠ p → L ≠ q → L ≠ A → Same H H' → H' L = some (.lst zs) → DatAll (hid3 p q A H') zs ds → Q (.ref L) H') → t σ H Q
section
variable {p q A : Addr} {G : List (Nat × PyData)} {t u : TE} {K : PySem.W.Frag}
theorem EnvOk.h {σ : L2.St} {H H' : Hp} (E : EnvOk G σ (hid3 p q A H)) (S : Same H H') : EnvOk G σ (hid3 p q A H') := E.same (hid3_same S)
theorem h_of {v : V} {d : PyData} (h : ∀ H : Hp, Dat H v d) : MkH p q A G (tC v) d := fun σ H b Q D E k => k v H (Same.refl H) (h _)
theorem h_str {x : Str} (h : x.length ≤ 1000) : MkH p q A G (tC (.str x)) (.str x) := h_of fun _ => .str x h
theorem h_int {i : Int} : MkH p q A G (tC (.int i)) (.int i) := h_of fun _ => .int i
theorem h_bl {b : Bool} : MkH p q A G (tC (.bl b)) (.bool b) := h_of fun _ => .bl b
theorem h_non : MkH p q A G (tC .non) .none := h_of fun _ => .non
theorem h_var {i : Nat} {d : PyData} (h : (i, d) ∈ G) : MkH p q A G (tVar i) d := fun σ H b Q D E k => by
  obtain ⟨v, e, dd⟩ := E _ h
  exact ⟨v, e, k v H (Same.refl H) dd⟩
theorem hs_nil : MksH p q A G tNil [] := fun σ H b Q D E k => k [] H (Same.refl H) .nil
theorem hs_cons {tr : TA} {d : PyData} {ds : List PyData} (h : MkH p q A G t d) (hs : MksH p q A G tr ds) : MksH p q A G (tCons t tr) (d :: ds) := fun σ H b Q D E k =>
  h σ H b _ D E fun v H1 S1 d1 => hs σ H1 b _ (D.same S1) (E.h S1) fun vs H2 S2 d2 => k (v :: vs) H2 (S1.trans S2) (.cons (d1.same (hid3_same S2)) d2)
theorem h_tup {tr : TA} {ds : List PyData} (hs : MksH p q A G tr ds) (hl : ds.length ≤ 1000) : MkH p q A G (tTup tr) (.tuple ds) := fun σ H b Q D E k =>
  hs σ H b _ D E fun vs H1 S1 d1 => ⟨by rw [d1.len, sizeLine_eq]; omega, fun a na => k _ _ (S1.trans (same_new na)) (.tup (tp_hid3 ((D.same S1).same (same_new na)) (TP.of upd_same)) (d1.same (hid3_same (same_new na))))⟩
theorem hf_lst {tr : TA} {ds : List PyData} (hs : MksH p q A G tr ds) (hl : ds.length ≤ 1000) : MkHF p q A G (tLst tr) ds := fun σ H b Q D E k =>
  hs σ H b _ D E fun vs H1 S1 d1 => ⟨by rw [d1.len, sizeLine_eq]; omega, fun a na => k a vs _ ((D.same S1).new na).1 ((D.same S1).new na).2.1 ((D.same S1).new na).2.2 (S1.trans (same_new na)) upd_same (d1.same (hid3_same (same_new na)))⟩
theorem MkHF.l {ds : List PyData} (h : MkHF p q A G t ds) : MkH p q A G t (.list ds) := fun σ H b Q D E k => h σ H b _ D E fun L zs H' n1 n2 nA S e d => k _ H' S (.lst (hid3_at e n1 n2 nA) d)
theorem h_dict : MkH p q A G (fun σ H Q => ∀ d, H d = none → Q (.ref d) (upd H d (.dK []))) (.dict []) := fun σ H b Q D E k a na => k _ _ (same_new na) (.d0 (hid3_new D na))
theorem hf_cat {l1 l2 : List PyData} (h : MkH p q A G t (.list l1)) (h2 : MkH p q A G u (.list l2)) (hl : l1.length + l2.length ≤ 5000) : MkHF p q A G (tOp rCat t u) (l1 ++ l2) := fun σ H b Q D E k =>
  h σ H b _ D E fun v H1 S1 d1 => h2 σ H1 b _ (D.same S1) (E.h S1) fun w H2 S2 d2 => by
    obtain ⟨a, xs, rfl, ha, hx⟩ := dat_lst (d1.same (hid3_same S2))
    obtain ⟨c, ys, rfl, hc, hy⟩ := dat_lst d2
    have lx := hx.len
    have ly := hy.len
    refine ⟨a, c, xs, ys, rfl, rfl, hid3_sub _ _ ha, hid3_sub _ _ hc, by rw [lx, ly, sizeLine_eq]; omega, fun r nr => ?_⟩
    have hn := ((D.same S1).same S2).new nr
    exact k r _ _ hn.1 hn.2.1 hn.2.2 ((S1.trans S2).trans (same_new nr)) upd_same (datAll_append (hx.same (hid3_same (same_new nr))) (hy.same (hid3_same (same_new nr))))
theorem h_op0 {i j : Int} {d : PyData} {g : Int → Int → V} (h : MkH p q A G t (.int i)) (h2 : MkH p q A G u (.int j)) (hd : ∀ H : Hp, Dat H (g i j) d) : MkH p q A G (tOp (rI0 g) t u) d := fun σ H b Q D E k =>
  h σ H b _ D E fun v H1 S1 d1 => h2 σ H1 b _ (D.same S1) (E.h S1) fun w H2 S2 d2 => by
    obtain rfl := dat_isInt d1
    obtain rfl := dat_isInt d2
    exact ⟨i, j, rfl, rfl, k _ H2 (S1.trans S2) (hd _)⟩
theorem h_op {i j : Int} {d : PyData} {C : Int → Int → Prop} {g : Int → Int → V} (h : MkH p q A G t (.int i)) (h2 : MkH p q A G u (.int j)) (hc : C i j) (hd : ∀ H : Hp, Dat H (g i j) d) : MkH p q A G (tOp (rI C g) t u) d := fun σ H b Q D E k =>
  h σ H b _ D E fun v H1 S1 d1 => h2 σ H1 b _ (D.same S1) (E.h S1) fun w H2 S2 d2 => by
    obtain rfl := dat_isInt d1
    obtain rfl := dat_isInt d2
    exact ⟨i, j, rfl, rfl, hc, k _ H2 (S1.trans S2) (hd _)⟩
theorem h_eqI {i j : Int} (h : MkH p q A G t (.int i)) (h2 : MkH p q A G u (.int j)) : MkH p q A G (tOp rEq t u) (.bool (decide (V.int i = V.int j))) := fun σ H b Q D E k =>
  h σ H b _ D E fun v H1 S1 d1 => h2 σ H1 b _ (D.same S1) (E.h S1) fun w H2 S2 d2 => by
    obtain rfl := dat_isInt d1
    obtain rfl := dat_isInt d2
    exact ⟨rfl, k _ H2 (S1.trans S2) (.bl _)⟩
theorem tup_at {H : Hp} {b : Nat} {v : V} {ds : List PyData} (d : Dat (hid3 p q A H) v (.tuple ds)) : ∃ (a : Addr) (xs : List V), v = .ref a ∧ TP H a xs ∧ DatAll (hid3 p q A H) xs ds := by
  obtain ⟨a, xs, rfl, ha, hx⟩ := dat_tup d
  exact ⟨a, xs, rfl, upR ha hid3_sub, hx⟩
theorem datAll_take {H : Hp} {xs : List V} {ds : List PyData} (n : Nat) (hx : DatAll H xs ds) : DatAll H (xs.take n) (ds.take n) := dat_take n hx
theorem h_slTo {ds : List PyData} {n : Nat} (h : MkH p q A G t (.tuple ds)) (h2 : MkH p q A G u (.int (n : Nat))) : MkH p q A G (tSl (rSlA K) t tNoPart (tPart u)) (.tuple (ds.take n)) := fun σ H b Q D E k =>
  sl_to (h σ H b _ D E fun v H1 S1 d1 => h2 σ H1 b _ (D.same S1) (E.h S1) fun w H2 S2 d2 => by
    obtain rfl := dat_isInt d2
    obtain ⟨a, xs, rfl, ha, hx⟩ := tup_at (b := b) (d1.same (hid3_same S2))
    refine ⟨_, rfl, slAny_of ha fun c Hc Sc hc => ?_⟩
    rw [cutV_to] at hc
    have S := (S1.trans S2).trans Sc
    exact k _ Hc S (.tup (tp_hid3 (D.same S) hc) (dat_take n (hx.same (hid3_same Sc)))))
theorem sl_from {r : V → Option Int → Option Int → Hp → VK → Prop} {te u : TE} {σ : L2.St} {H : Hp} {Q : VK} (h : te σ H fun x H1 => u σ H1 fun y H2 => ∃ i, y = .int i ∧ r x (some i) none H2 Q) : tSl r te (tPart u) tNoPart σ H Q := h
theorem h_slFrom {ds : List PyData} {n : Nat} (h : MkH p q A G t (.tuple ds)) (h2 : MkH p q A G u (.int (n : Nat))) : MkH p q A G (tSl (rSlA K) t (tPart u) tNoPart) (.tuple (ds.drop n)) := fun σ H b Q D E k =>
  sl_from (h σ H b _ D E fun v H1 S1 d1 => h2 σ H1 b _ (D.same S1) (E.h S1) fun w H2 S2 d2 => by
    obtain rfl := dat_isInt d2
    obtain ⟨a, xs, rfl, ha, hx⟩ := tup_at (b := b) (d1.same (hid3_same S2))
    refine ⟨_, rfl, slAny_of ha fun c Hc Sc hc => ?_⟩
    rw [cutV_from] at hc
    have S := (S1.trans S2).trans Sc
    exact k _ Hc S (.tup (tp_hid3 (D.same S) hc) (dat_drop n (hx.same (hid3_same Sc)))))
theorem h_catA {l1 l2 : List PyData} (h : MkH p q A G t (.tuple l1)) (h2 : MkH p q A G u (.tuple l2)) (hl : l1.length + l2.length ≤ 2000000) : MkH p q A G (tOp (rCatA K) t u) (.tuple (l1 ++ l2)) := fun σ H b Q D E k =>
  h σ H b _ D E fun v H1 S1 d1 => h2 σ H1 b _ (D.same S1) (E.h S1) fun w H2 S2 d2 => by
    obtain ⟨a, xs, rfl, ha, hx⟩ := tup_at (b := b) (d1.same (hid3_same S2))
    obtain ⟨c, ys, rfl, hc, hy⟩ := tup_at (b := b) d2
    refine catA_of ha hc (by rw [hx.len, hy.len, sizeLine_eq]; omega) fun r Hr Sr hr => ?_
    have S := (S1.trans S2).trans Sr
    exact k _ Hr S (.tup (tp_hid3 (D.same S) hr) (datAll_append (hx.same (hid3_same Sr)) (hy.same (hid3_same Sr))))
theorem h_revT {ds : List PyData} (h : MkH p q A G t (.tuple ds)) : MkH p q A G (tRevT K t) (.tuple ds.reverse) := fun σ H b Q D E k =>
  h σ H b _ D E fun v H1 S1 d1 => by
    obtain ⟨a, xs, rfl, ha, hx⟩ := tup_at (b := b) d1
    refine ⟨a, xs, rfl, sqT_rd ha, fun r nr => ?_⟩
    have S := S1.trans (same_new (o := HO.tup xs.reverse) nr)
    exact k _ _ S (.tup (tp_hid3 (D.same S) (TP.of upd_same)) (dat_rev (hx.same (hid3_same (same_new nr)))))
theorem h_ixT {ds : List PyData} {d : PyData} {n : Nat} (h : MkH p q A G t (.tuple ds)) (h2 : MkH p q A G u (.int (n : Nat))) (hd : ds[n]? = some d) : MkH p q A G (tOp (rIxT K) t u) d := fun σ H b Q D E k =>
  h σ H b _ D E fun v H1 S1 d1 => h2 σ H1 b _ (D.same S1) (E.h S1) fun w H2 S2 d2 => by
    obtain rfl := dat_isInt d2
    obtain ⟨a, xs, rfl, ha, hx⟩ := tup_at (b := b) (d1.same (hid3_same S2))
    obtain ⟨y, hy, dy⟩ := hx.at hd
    exact ⟨a, xs, _, y, rfl, rfl, sqT_rd ha, atI_nat hy, k _ H2 (S1.trans S2) dy⟩
theorem hs_lists {σ : L2.St} {H : Hp} {b i : Nat} {ds : List PyData} {Q : VK} (M : MkHF p q A G t ds) (D : D3 H p q A b) (E : EnvOk G σ (hid3 p q A H)) (hi : σ[i]? = some (some (.ref p))) (h0 : 0 < ds.length) (h1 : ds.length ≤ 1000) (hb : b < 100000000)
    (k : ∀ (v : V) (d : PyData) (H' : Hp), d ∈ ds → Off p q H H' → D3 H' p q A (b + 1) → Dat (hid3 p q A H') v d → Q v H') : tCall spPick [] E0 (tCons (tVar i) (tCons t tNil)) σ H Q :=
  call_v hi (M σ H b _ D E fun L zs H1 n1 n2 nA S1 e d => by
    have hl := d.len
    refine pick_of3 (E := E0) (D.same S1) e n1 n2 (by rw [hl]; exact h0) (by rw [hl]; exact h1) hb fun j x H2 hx O2 D2 => ?_
    obtain ⟨y, hy, dy⟩ := d.get hx
    exact k x y H2 (List.mem_of_getElem? hy) ((Off.of_same S1).trans O2) D2 (dy.same (hid3_off O2)))
end
end K9
set_option maxRecDepth 100000
set_option maxHeartbeats 8000000
namespace L2
open PySem PySem.Spec PyProof.Rows
section
variable {X : Cx}
/-- a tuple beside an empty tuple -/
def rEmptyT : R2 := fun x y H Q => ∃ (a b : Addr) (xs : List V), x = .ref a ∧ y = .ref b ∧ K9.TP H a xs ∧ H b = some (.tup []) ∧ Q (.bl xs.isEmpty) H
theorem op_emptyT (hu : X.A.units < cLine) : OpR X (compareOp .Eq) rEmptyT := by
  intro pins s σ H x y v u Q I rx ry h
  obtain ⟨a, b, xs, rfl, rfl, ha, hb, q⟩ := h
  cases rx
  cases ry
  obtain ⟨its, rv, p, _⟩ := I.tuple (K9.sqT_rd ha)
  obtain ⟨its2, rv2, p2, _⟩ := I.tuple (SqT.of hb)
  obtain rfl := nil_of rv2
  cases xs with
  | nil =>
    obtain rfl := nil_of rv
    exact SeqAt.eq_tupleAt (e := fun _ => true) p p2 hu (fun j h1 h2 => absurd h1 (Nat.not_lt_zero _)) ⟨.bl true, H, I, rfl, q⟩
  | cons x0 l =>
    cases rv with
    | cons r0 rs => exact SeqAt.eq_tupleAt (e := fun _ => true) p p2 hu (fun j h1 h2 => absurd h2 (Nat.not_lt_zero _)) ⟨.bl false, H, I, by simp [RelV], q⟩
end
end L2
namespace K9
open PySem PySem.Spec PyProof.Rows L2
theorem num_fine {i : Int} {s : Nat} (hi : i.natAbs < 10 ^ (40 + s)) (hs : s ≤ 4) : Fine (s + 1) 60 0 (.str (Str.ofString (toString i))) ∧ (Str.ofString (toString i)).length ≤ 1000 := by
  have z := int_text_length_le10 (a := i) (k := 40 + s) (by omega) hi
  have l : (Str.ofString (toString i)).length ≤ 45 := by
    rw [PySem.ofString_length]
    omega
  refine ⟨⟨str_fine (fun c hc => by have := num_signs i c hc; omega) (by omega), ?_, by simp [PyData.depth]⟩, by omega⟩
  have y : (Str.ofString (toString i)).length = (Str.ofString (toString i)).cps.size := rfl
  simp only [mass]
  omega
section
variable {p q A : Addr} {G : List (Nat × PyData)} {t u : TE} {K : PySem.W.Frag}
theorem h_strI {i : Int} (h : MkH p q A G t (.int i)) (hl : i.natAbs.log2 < 1920) (h2 : (Str.ofString (toString i)).length ≤ 1000) : MkH p q A G (tCB (fun xs H Q => ∃ i, xs = [.int i] ∧ i.natAbs.log2 < 1920 ∧ Q (.str (toString i)) H) (tCons t tNil)) (.str (Str.ofString (toString i))) := fun σ H b Q D E k =>
  h σ H b _ D E fun v H1 S1 d1 => by
    obtain rfl := dat_isInt d1
    exact ⟨i, rfl, hl, k _ H1 S1 (.str _ h2)⟩
theorem h_addS {x y : Str} (h : MkH p q A G t (.str x)) (h2 : MkH p q A G u (.str y)) (hl : x.length + y.length ≤ sizeLine) (h3 : (x ++ y).length ≤ 1000) : MkH p q A G (tOp (fun x y H Q => ∃ i j, x = .str i ∧ y = .str j ∧ i.length + j.length ≤ sizeLine ∧ Q (.str (i ++ j)) H) t u) (.str (x ++ y)) := fun σ H b Q D E k =>
  h σ H b _ D E fun v H1 S1 d1 => h2 σ H1 b _ (D.same S1) (E.h S1) fun w H2 S2 d2 => by
    obtain rfl := dat_strV d1
    obtain rfl := dat_strV d2
    exact ⟨x, y, rfl, rfl, hl, k _ H2 (S1.trans S2) (.str _ h3)⟩
theorem h_listT {ds : List PyData} (h : MkH p q A G t (.tuple ds)) : MkH p q A G (tCB (fun xs H Q => ∃ p ys, xs = [.ref p] ∧ (SqL K H p ys ∨ SqT K H p ys) ∧ ∀ l, H l = none → Q (.ref l) (upd H l (.lst ys))) (tCons t tNil)) (.list ds) := fun σ H b Q D E k =>
  h σ H b _ D E fun v H1 S1 d1 => by
    obtain ⟨a, xs, rfl, ha, hx⟩ := tup_at (b := b) d1
    exact ⟨a, xs, rfl, .inr (sqT_rd ha), fun l nl => k _ _ (S1.trans (same_new nl)) (.lst (hid3_new (D.same S1) nl) (hx.same (hid3_same (same_new nl))))⟩
end
theorem len_mass : ∀ ds : List PyData, ds.length ≤ massAll ds
  | [] => Nat.zero_le _
  | d :: ds => by
    have a := len_mass ds
    have b : 1 ≤ mass d := by cases d <;> simp only [mass] <;> omega
    rw [List.length_cons, massAll]
    omega
theorem fine_le0 {d : PyData} (h : fineB 0 d = true) : ∀ s : Nat, fineB s d = true
  | 0 => h
  | s + 1 => fine_up d (fine_le0 h s)
theorem fine_le {d : PyData} (h : fineB 1 d = true) : ∀ s : Nat, fineB (s + 1) d = true
  | 0 => h
  | s + 1 => fine_up d (fine_le h s)
def menuW : List PyData := [.str "select", .str "letter", .str "entry", .str "prefix", .str "rank", .str "up", .str "state", .str "image", .str "a", .str "Z", .str "", .int 0, .dict []]
def menuN : List PyData := [.none, .list [], .dict [], .int 0, .str "", .tuple [.int 0], .tuple [.tuple []], .tuple [.str "a", .int 0], .bool true, .tuple [.tuple [.str "a", .int 0]]]
theorem menuW_fine : ∀ d ∈ menuW, fineB 1 d = true ∧ mass d ≤ 30 ∧ d.depth ≤ 2 := by decide +kernel
theorem menuN_fine : ∀ d ∈ menuN, fineB 1 d = true ∧ mass d ≤ 30 ∧ d.depth ≤ 2 := by decide +kernel
/-! ### another value in the place of one -/
abbrev s_other : Stmt := top 58
def spOther : Sp := fun vs H Q _ => ∃ (p q A : Addr) (b s m n : Nat) (v : V) (d : PyData), vs = [.ref p, v] ∧ D3 H p q A b ∧ b + 3 ≤ 100000000 ∧ Dat (hid3 p q A H) v d ∧ Fine s m n d ∧ s ≤ 3 ∧ m ≤ 100000 ∧
  ∀ (v' : V) (d' : PyData) (H' : Hp), Off p q H H' → D3 H' p q A (b + 3) → Dat (hid3 p q A H') v' d' → Fine (s + 1) (2 * m + 170) (n + 2) d' → Q v' H'
section
variable {P : Program} {w : World} {K : PySem.W.Frag} {mg : Str → Option Value} {base : Heap}
theorem sc_other : FnScope ["_law_deck_here", "_law_given", "_law_words", "_law_at", "_law_found"] ["_law_deck_here", "_law_given"] (defScope s_other) := ⟨rfl, rfl, rfl, by decide +kernel, rfl, by decide +kernel, by decide +kernel⟩
theorem okl_other {f fD fP : Addr} {fd fdD fdP : FuncData} (F : Fun K "_law_other" "_law_other" s_other f fd) (T : Nm mg)
    (D_draw : DefOk K mg "_law_draw" sDraw ["_law_deck_here", "_law_bound"] fD fdD) (D_pick : DefOk K mg "_law_pick" sPick ["_law_deck_here", "_law_items"] fP fdP) : FnOk P w K mg base CX0 3 f fd ["_law_deck_here", "_law_given"] spOther := by
  have G_draw : FnOk P w K mg base CX0 1 fD fdD ["_law_deck_here", "_law_bound"] spDraw := ok_draw D_draw.F
  have G_pick : FnOk P w K mg base CX0 2 fP fdP ["_law_deck_here", "_law_items"] spPick := ok_pick D_pick.F T D_draw.F D_draw.b D_draw.g
  refine F.ok sc_other (fun vs H Q E h => ?_) (fun cdv AA outer s H vs Q E hr h => ?_)
  · obtain ⟨p, q, A, b, s, m, n, v, d, rfl, _⟩ := h
    rfl
  · obtain ⟨p, q, A, b, sg, m, n, v, d, rfl, D, hb, hd, hF, hs3, hm, k⟩ := h
    have hr1 : Room 1 _ := hr.mono (by decide)
    have hu0 := hr.units0
    refine ⟨_, (C8.pss_cut (ps_if (PW.pt (pw_and (pt_val (pe_callB call_isi (by rfl) T.isinstance boot_isinstance (pa_cons (pv 1) (pa_cons (pe_bltn (v := .ty "int") rfl T.int (by decide +kernel) rfl) pa_nil)))) (pw_and1 (pt_not (pt_val (pe_callB call_isi (by rfl) T.isinstance boot_isinstance (pa_cons (pv 1) (pa_cons (pe_bltn (v := .ty "bool") rfl T.bool (by decide +kernel) rfl) pa_nil))))))))
        (pss_one (ps_ret (pe_call G_pick hr rfl D_pick.g D_pick.F.kp D_pick.b .nil pass0 (pa_cons (pv 0) (pa_cons (pe_lst (pa_cons (pe_op op_add (pv 1) pe_int) (pa_cons (pe_op op_sub (pv 1) pe_int) (pa_cons (pe_cmpR op_eq (pv 1) pe_int (nomark _)) (pa_cons (pe_callTy call_str_int (by rfl) T.str (by decide +kernel) (pa_cons (pv 1) pa_nil)) (pa_cons pe_non (pa_cons (pe_tup (pa_cons (pv 1) pa_nil)) (pa_cons (pe_op op_sub pe_int (pv 1)) (pa_cons (pe_op op_pow pe_int pe_int) pa_nil))))))))) pa_nil)))))
        pss_nil)
      (pss_cons (ps_if (pt_val (pe_callB call_isi (by rfl) T.isinstance boot_isinstance (pa_cons (pv 1) (pa_cons (pe_bltn (v := .ty "str") rfl T.str (by decide +kernel) rfl) pa_nil))))
        (pss_cons (ps_set (i := 2) sc_other.nd rfl (Or.inl rfl) (pe_lst (pa_cons pe_str (pa_cons pe_str (pa_cons pe_str (pa_cons pe_str (pa_cons pe_str (pa_cons pe_str (pa_cons pe_str (pa_cons pe_str (pa_cons pe_str (pa_cons pe_str (pa_cons pe_str (pa_cons (pe_op op_add_str (pv 1) pe_str) (pa_cons pe_int pa_nil)))))))))))))))
        (pss_one (ps_ret (pe_call G_pick hr rfl D_pick.g D_pick.F.kp D_pick.b .nil pass0 (pa_cons (pv 0) (pa_cons (pe_op op_cat (pv 2) (pe_lst (pa_cons (pe_lst (pa_cons (pv 1) pa_nil)) (pa_cons pe_dnewK pa_nil)))) pa_nil))))))
        pss_nil)
      (pss_cons (ps_if (PW.pt (pw_or (pt_not (pt_val (pe_callB call_isi (by rfl) T.isinstance boot_isinstance (pa_cons (pv 1) (pa_cons (pe_bltn (v := .ty "tuple") rfl T.tuple (by decide +kernel) rfl) pa_nil))))) (pw_or1 (pt_cmpR (op_emptyT hu0) (pv 1) (pe_tup pa_nil) (nomark _)))))
        (pss_one (ps_ret (pe_call G_pick hr rfl D_pick.g D_pick.F.kp D_pick.b .nil pass0 (pa_cons (pv 0) (pa_cons (pe_lst (pa_cons pe_non (pa_cons (pe_lst pa_nil) (pa_cons pe_dnewK (pa_cons pe_int (pa_cons pe_str (pa_cons (pe_tup (pa_cons pe_int pa_nil)) (pa_cons (pe_tup (pa_cons (pe_tup pa_nil) pa_nil)) (pa_cons (pe_tup (pa_cons pe_str (pa_cons pe_int pa_nil))) (pa_cons pe_bl (pa_cons (pe_tup (pa_cons (pe_tup (pa_cons pe_str (pa_cons pe_int pa_nil))) pa_nil)) pa_nil))))))))))) pa_nil)))))
        pss_nil)
      (pss_cons (ps_set (i := 3) sc_other.nd rfl (Or.inl rfl) (pe_call G_draw hr1 rfl D_draw.g D_draw.F.kp D_draw.b .nil pass0 (pa_cons (pv 0) (pa_cons (pe_callB cr_lenS (by rfl) T.len PySem.boot_len (pa_cons (pv 1) pa_nil)) pa_nil))))
      (pss_cons (ps_set (i := 4) sc_other.nd rfl (Or.inl rfl) (pe_lst (pa_cons (pe_op op_catA (pe_slice sl_tupA (pv 1) po_none (po_some (pv 3))) (pe_slice sl_tupA (pv 1) (po_some (pe_op op_add (pv 3) pe_int)) po_none)) (pa_cons (pe_op op_catA (pe_slice sl_tupA (pv 1) po_none (po_some (pe_op op_add (pv 3) pe_int))) (pe_slice sl_tupA (pv 1) (po_some (pv 3)) po_none)) (pa_cons (pe_revT (pv 1)) (pa_cons (pe_callTy call_list_of (by rfl) T.list (by decide +kernel) (pa_cons (pv 1) pa_nil)) (pa_cons (pe_ix ix_tup (pv 1) (pv 3) (fun _ _ => rfl)) (pa_cons (pe_tup pa_nil) pa_nil))))))))
      (pss_one (ps_ret (pe_call G_pick hr rfl D_pick.g D_pick.F.kp D_pick.b .nil pass0 (pa_cons (pv 0) (pa_cons (pe_op op_cat (pv 4) (pe_lst (pa_cons (pe_op op_catA (pv 1) (pe_tup (pa_cons pe_int pa_nil))) (pa_cons (pe_op op_catA (pv 1) (pe_tup (pa_cons pe_str pa_nil))) pa_nil)))) pa_nil)))))))))), ?_⟩
    have hv := hd.same hid3_sub
    have EV : EnvOk [(1, d)] [some (V.ref p), some v, none, none, none] (hid3 p q A H) := fun pr hp => by
      obtain rfl := List.mem_singleton.mp hp
      exact ⟨_, rfl, hd⟩
    have mp : 1 ≤ m := Nat.le_trans (by cases d <;> simp only [mass] <;> omega) hF.m
    have small : ∀ e : PyData, fineB 1 e = true → mass e ≤ 169 → e.depth ≤ 2 → Fine (sg + 1) (2 * m + 170) (n + 2) e := fun e h1 h2 h3 => ⟨fine_le h1 _, by omega, by omega⟩
    refine ⟨fun σ' H' => σ' = [some (V.ref p), some v, none, none, none] ∧ H' = H ∧ isInt d = false, ?_, ?_⟩
    · refine ⟨_, rfl, v, .ty "int", _, _, _, rfl, .ty _, hv.ty, kit_int _ d, _, rfl, ?_⟩
      by_cases zi : (isInt d || isBool d) = true
      · refine if_t zi ⟨_, rfl, v, .ty "bool", _, _, _, rfl, .ty _, hv.ty, kit_bool _ d, _, rfl, ?_⟩
        by_cases zb : isBool d = true
        · refine if_f (by rw [zb]; rfl) ⟨rfl, rfl, ?_⟩
          cases d with
          | bool _ => rfl
          | _ => cases zb
        · refine if_t (by rw [Bool.not_eq_true] at zb; rw [zb]; rfl) ?_
          obtain ⟨i, rfl⟩ : ∃ i, d = .int i := by
            cases d with
            | int i => exact ⟨i, rfl⟩
            | bool _ => exact absurd rfl zb
            | _ => cases zi
          have hi : i.natAbs < 10 ^ (40 + sg) := by
            have := hF.f
            rw [fineB] at this
            exact of_decide_eq_true this
          obtain ⟨nf, nl⟩ := num_fine hi (by omega)
          have V1 : MkH p q A [(1, .int i)] (tVar 1) (.int i) := h_var List.mem_cons_self
          refine ret_of (hs_lists (hf_lst (hs_cons (h_op0 (g := fun i j => .int (i + j)) V1 h_int (fun _ => .int _)) (hs_cons (h_op0 (g := fun i j => .int (i - j)) V1 h_int (fun _ => .int _)) (hs_cons (h_eqI V1 h_int) (hs_cons (h_strI V1 (log_small hi (by omega)) nl) (hs_cons h_non (hs_cons (h_tup (hs_cons V1 hs_nil) (by simp)) (hs_cons (h_op0 (g := fun i j => .int (i - j)) h_int V1 (fun _ => .int _)) (hs_cons (h_op (g := fun i j => .int (i ^ j.toNat)) h_int h_int ⟨by decide, by decide, by decide⟩ (fun _ => .int _)) hs_nil)))))))) (by simp)) D EV rfl (by simp) (by simp) (by omega) fun v' d' H' hm' O' D' dd => k v' d' H' O' (D'.mono (by omega)) dd ?_)
          have fi : ∀ j : Int, j.natAbs ≤ 2 * i.natAbs + 2 → Fine (sg + 1) (2 * m + 170) (n + 2) (.int j) := fun j hj => ⟨int_up hi hj, by simp only [mass]; omega, by simp [PyData.depth]⟩
          simp only [List.mem_cons, List.not_mem_nil, or_false] at hm'
          rcases hm' with rfl | rfl | rfl | rfl | rfl | rfl | rfl | rfl
          · exact fi _ (by omega)
          · exact fi _ (by omega)
          · exact ⟨by rw [fineB], by simp only [mass]; omega, by simp [PyData.depth]⟩
          · exact nf.mono (by omega) (by omega)
          · exact small _ (by decide) (by decide) (by decide)
          · exact ((FineL.one hF).tup.up).mono (by omega) (by omega)
          · exact fi _ (by omega)
          · exact small _ (by decide +kernel) (by decide) (by decide)
      · rw [Bool.not_eq_true] at zi
        refine if_f zi (if_f rfl ⟨rfl, rfl, ?_⟩)
        rw [Bool.or_eq_false_iff] at zi
        exact zi.1
    · rintro σ' H' ⟨rfl, rfl, zi⟩
      refine ⟨_, rfl, v, .ty "str", _, _, _, rfl, .ty _, hv.ty, kit_str _ d, _, rfl, ?_⟩
      by_cases zs : isStr d = true
      · refine if_t zs ?_
        obtain ⟨x, rfl⟩ : ∃ x, d = .str x := by
          cases d with
          | str x => exact ⟨x, rfl⟩
          | _ => cases zs
        have V1 : MkH p q A [(1, .str x)] (tVar 1) (.str x) := h_var List.mem_cons_self
        obtain ⟨fa, la, za⟩ := str_snoc (c := 115) hF.f (by decide) hs3
        have ea : (⟨#[115]⟩ : Str) = "s" := by decide +kernel
        rw [ea] at fa la za
        have M1 : MkHF p q A [(1, .str x)] _ [.str "select", .str "letter", .str "entry", .str "prefix", .str "rank", .str "up", .str "state", .str "image", .str "a", .str "Z", .str "", .str (x ++ "s"), .int 0] := hf_lst (hs_cons (h_str (by decide)) (hs_cons (h_str (by decide)) (hs_cons (h_str (by decide)) (hs_cons (h_str (by decide)) (hs_cons (h_str (by decide)) (hs_cons (h_str (by decide)) (hs_cons (h_str (by decide)) (hs_cons (h_str (by decide)) (hs_cons (h_str (by decide)) (hs_cons (h_str (by decide)) (hs_cons (h_str (by decide)) (hs_cons (h_addS V1 (h_str (by decide)) za la) (hs_cons (h_int) hs_nil))))))))))))) (by simp)
        refine sq_any (M1 _ H' b _ D EV fun L zs H1 n1 n2 nA S1 e dd => ?_)
        have EV2 : EnvOk [(2, .list [.str "select", .str "letter", .str "entry", .str "prefix", .str "rank", .str "up", .str "state", .str "image", .str "a", .str "Z", .str "", .str (x ++ "s"), .int 0]), (1, .str x)] [some (V.ref p), some v, some (.ref L), none, none] (hid3 p q A H1) := fun pr hp => by
          simp only [List.mem_cons, List.not_mem_nil, or_false] at hp
          rcases hp with rfl | rfl
          · exact ⟨_, rfl, .lst (hid3_at e n1 n2 nA) dd⟩
          · exact ⟨_, rfl, hd.same (hid3_same S1)⟩
        have V2 : MkH p q A [(2, .list [.str "select", .str "letter", .str "entry", .str "prefix", .str "rank", .str "up", .str "state", .str "image", .str "a", .str "Z", .str "", .str (x ++ "s"), .int 0]), (1, .str x)] (tVar 1) (.str x) := h_var (List.mem_cons_of_mem _ List.mem_cons_self)
        refine ret_of (hs_lists (hf_cat (h_var List.mem_cons_self) (hf_lst (hs_cons (hf_lst (hs_cons V2 hs_nil) (by simp)).l (hs_cons h_dict hs_nil)) (by simp)).l (by simp)) (D.same S1) EV2 rfl (by simp) (by simp) (by omega) fun v' d' H2 hm' O' D' dd' => k v' d' H2 ((Off.of_same S1).trans O') (D'.mono (by omega)) dd' ?_)
        have wf : ∀ z ∈ ([.str "select", .str "letter", .str "entry", .str "prefix", .str "rank", .str "up", .str "state", .str "image", .str "a", .str "Z", .str "", .int 0, .dict []] : List PyData), Fine (sg + 1) (2 * m + 170) (n + 2) z := fun z hz => by
          have := menuW_fine z hz
          exact small z this.1 (by omega) this.2.2
        have hm2 := hF.m
        simp only [List.cons_append, List.nil_append, List.mem_cons, List.not_mem_nil, or_false] at hm'
        rcases hm' with rfl | rfl | rfl | rfl | rfl | rfl | rfl | rfl | rfl | rfl | rfl | rfl | rfl | rfl | rfl
        · exact wf _ (by simp)
        · exact wf _ (by simp)
        · exact wf _ (by simp)
        · exact wf _ (by simp)
        · exact wf _ (by simp)
        · exact wf _ (by simp)
        · exact wf _ (by simp)
        · exact wf _ (by simp)
        · exact wf _ (by simp)
        · exact wf _ (by simp)
        · exact wf _ (by simp)
        · exact fa.mono (by omega) (by omega)
        · exact wf _ (by simp)
        · exact ((FineL.one hF).lst).mono (by omega) (by omega)
        · exact wf _ (by simp)
      · rw [Bool.not_eq_true] at zs
        refine if_f zs ⟨_, rfl, v, .ty "tuple", _, _, _, rfl, .ty _, hv.ty, kit_tuple _ d, _, rfl, ?_⟩
        have menu : ∀ {H1 : Hp} {σ1 : L2.St}, σ1[0]? = some (some (.ref p)) → Same H' H1 → tCall spPick [] E0 (tCons (tVar 0) (tCons (tLst (tCons (tC .non) (tCons (tLst tNil) (tCons tDNewK (tCons (tC (.int 0)) (tCons (tC (.str "")) (tCons (tTup (tCons (tC (.int 0)) tNil)) (tCons (tTup (tCons (tTup tNil) tNil)) (tCons (tTup (tCons (tC (.str "a")) (tCons (tC (.int 0)) tNil))) (tCons (tC (.bl true)) (tCons (tTup (tCons (tTup (tCons (tC (.str "a")) (tCons (tC (.int 0)) tNil))) tNil)) tNil))))))))))) tNil)) σ1 H1 Q := fun {H1 σ1} hσ S1 => by
          refine hs_lists (G := []) (ds := menuN) (hf_lst (hs_cons h_non (hs_cons (hf_lst hs_nil (by decide)).l (hs_cons h_dict (hs_cons h_int (hs_cons (h_str (by decide)) (hs_cons (h_tup (hs_cons h_int hs_nil) (by decide)) (hs_cons (h_tup (hs_cons (h_tup hs_nil (by decide)) hs_nil) (by decide)) (hs_cons (h_tup (hs_cons (h_str (by decide)) (hs_cons h_int hs_nil)) (by decide)) (hs_cons h_bl (hs_cons (h_tup (hs_cons (h_tup (hs_cons (h_str (by decide)) (hs_cons h_int hs_nil)) (by decide)) hs_nil) (by decide)) hs_nil)))))))))) (by decide)) (D.same S1) (fun pr hp => by cases hp) hσ (by decide) (by decide) (by omega) fun v' d' H2 hm' O' D' dd' => k v' d' H2 ((Off.of_same S1).trans O') (D'.mono (by omega)) dd' ?_
          have := menuN_fine d' hm'
          exact small d' this.1 (by omega) this.2.2
        cases zt : isTup d with
        | false => exact if_t rfl (if_t rfl (ret_of (menu rfl (Same.refl _))))
        | true =>
          obtain ⟨ds, rfl⟩ : ∃ ds, d = .tuple ds := by
            cases d with
            | tuple ds => exact ⟨ds, rfl⟩
            | _ => cases zt
          obtain ⟨a, xs, rfl, ha, hx⟩ := tup_at (b := b) hd
          have hxl := hx.len
          refine if_f rfl ⟨_, rfl, (by show 0 ≤ sizeLine; decide), fun e ne => ⟨a, e, xs, rfl, rfl, upR ha (same_new ne), upd_same, _, rfl, ?_⟩⟩
          have Se := same_new (o := HO.tup []) ne
          generalize upd H' e (.tup []) = He at Se ⊢
          cases xs with
          | nil => exact if_t rfl (ret_of (menu rfl Se))
          | cons x0 xr =>
            refine if_f rfl ?_
            obtain ⟨m1, n1', FL⟩ := hF.inv
            have hlen : ds.length ≤ 100000 := by
              have := len_mass ds
              have := FL.m
              omega
            have hpos : 0 < ds.length := by
              rw [← hxl]
              exact Nat.succ_pos _
            have De := D.same Se
            have hde := hd.same (hid3_same Se)
            refine sq_any (call_v rfl ⟨_, rfl, a, _, rfl, .inr (sqT_rd (upR ha Se)), draw_of3 (E := E0) (n := ((x0 :: xr).length : Int)) De (by rw [hxl]; omega) (by rw [hxl]; omega) (by omega) fun i H2 hi O2 D2 => ?_⟩)
            rw [hxl] at hi
            have hi' : i < ds.length := by omega
            have hget : ds[i]? = some ds[i] := List.getElem?_eq_getElem hi'
            generalize ds[i] = d5 at hget
            have hd2 := hde.same (hid3_off O2)
            have EV3 : EnvOk [(3, .int (i : Nat)), (1, .tuple ds)] [some (V.ref p), some (.ref a), none, some (.int (i : Nat)), none] (hid3 p q A H2) := fun pr hp => by
              simp only [List.mem_cons, List.not_mem_nil, or_false] at hp
              rcases hp with rfl | rfl
              · exact ⟨_, rfl, .int _⟩
              · exact ⟨_, rfl, hd2⟩
            have V3 : MkH p q A [(3, .int (i : Nat)), (1, .tuple ds)] (tVar 3) (.int (i : Nat)) := h_var List.mem_cons_self
            have V1 : MkH p q A [(3, .int (i : Nat)), (1, .tuple ds)] (tVar 1) (.tuple ds) := h_var (List.mem_cons_of_mem _ List.mem_cons_self)
            have N1 : MkH p q A [(3, .int (i : Nat)), (1, .tuple ds)] (tOp (rI0 fun i j => .int (i + j)) (tVar 3) (tC (.int 1))) (.int ((i + 1 : Nat) : Int)) := h_op0 V3 h_int fun _ => dat_int' (by omega)
            have lt : ∀ j k : Nat, (ds.take j).length + (ds.drop k).length ≤ 2000000 := fun j k => by
              rw [List.length_take, List.length_drop]
              omega
            have M6 : MkHF p q A [(3, .int (i : Nat)), (1, .tuple ds)] _ [.tuple (ds.take i ++ ds.drop (i + 1)), .tuple (ds.take (i + 1) ++ ds.drop i), .tuple ds.reverse, .list ds, d5, .tuple []] := hf_lst (hs_cons (h_catA (K := K) (h_slTo (K := K) V1 V3) (h_slFrom (K := K) V1 N1) (lt _ _)) (hs_cons (h_catA (K := K) (h_slTo (K := K) V1 N1) (h_slFrom (K := K) V1 V3) (lt _ _)) (hs_cons (h_revT (K := K) V1) (hs_cons (h_listT (K := K) V1) (hs_cons (h_ixT (K := K) V1 V3 hget) (hs_cons (h_tup hs_nil (by decide)) hs_nil)))))) (by simp)
            refine sq_any (M6 _ H2 _ _ D2 EV3 fun L zs H3 q1 q2 qA S3 e3 dd => ?_)
            have EV4 : EnvOk [(4, .list [.tuple (ds.take i ++ ds.drop (i + 1)), .tuple (ds.take (i + 1) ++ ds.drop i), .tuple ds.reverse, .list ds, d5, .tuple []]), (1, .tuple ds)] [some (V.ref p), some (.ref a), none, some (.int (i : Nat)), some (.ref L)] (hid3 p q A H3) := fun pr hp => by
              simp only [List.mem_cons, List.not_mem_nil, or_false] at hp
              rcases hp with rfl | rfl
              · exact ⟨_, rfl, .lst (hid3_at e3 q1 q2 qA) dd⟩
              · exact ⟨_, rfl, hd2.same (hid3_same S3)⟩
            have W1 : MkH p q A [(4, .list [.tuple (ds.take i ++ ds.drop (i + 1)), .tuple (ds.take (i + 1) ++ ds.drop i), .tuple ds.reverse, .list ds, d5, .tuple []]), (1, .tuple ds)] (tVar 1) (.tuple ds) := h_var (List.mem_cons_of_mem _ List.mem_cons_self)
            refine ret_of (hs_lists (hf_cat (h_var List.mem_cons_self) (hf_lst (hs_cons (h_catA (K := K) W1 (h_tup (hs_cons (h_int (i := 0)) hs_nil) (by decide)) (by simp only [List.length_cons, List.length_nil]; omega)) (hs_cons (h_catA (K := K) W1 (h_tup (hs_cons (h_str (x := "a") (by decide)) hs_nil) (by decide)) (by simp only [List.length_cons, List.length_nil]; omega)) hs_nil)) (by simp)).l (by simp)) (D2.same S3) EV4 rfl (by simp) (by simp) (by omega) fun v' d' H4 hm' O' D' dd' => k v' d' H4 ((((Off.of_same Se).trans O2).trans (Off.of_same S3)).trans O') (D'.mono (by omega)) dd' ?_)
            simp only [List.cons_append, List.nil_append, List.mem_cons, List.not_mem_nil, or_false] at hm'
            have fz : FineL sg 1 0 [.int 0] := FineL.one (fine_n (by decide) (by decide))
            have fa : FineL sg 2 0 [.str "a"] := FineL.one ⟨fine_le0 (by decide +kernel) _, by decide +kernel, by decide⟩
            rcases hm' with rfl | rfl | rfl | rfl | rfl | rfl | rfl | rfl
            · exact (((FL.take i).app (FL.drop (i + 1))).tup.up).mono (by omega) (by omega)
            · exact (((FL.take (i + 1)).app (FL.drop i)).tup.up).mono (by omega) (by omega)
            · exact (FL.rev.tup.up).mono (by omega) (by omega)
            · exact FL.lst.mono (by omega) (by omega)
            · exact ((FL.mem (List.mem_of_getElem? hget)).up).mono (by omega) (by omega)
            · exact small _ (by decide) (by decide) (by decide)
            · exact ((FL.app fz).tup.up).mono (by omega) (by omega)
            · exact ((FL.app fa).tup.up).mono (by omega) (by omega)
end
end K9
set_option maxRecDepth 100000
set_option maxHeartbeats 8000000
namespace K9
open PySem PySem.Spec PyProof.Rows L2
/-! ### a value with one change at any depth -/
abbrev s_changed : Stmt := top 59
def spChg (N : Nat) : Sp := fun vs H Q _ => ∃ (p q A : Addr) (b c s m : Nat) (v : V) (d : PyData), vs = [.ref p, v] ∧ D3 H p q A b ∧ b + 2 * N + 6 ≤ c ∧ c ≤ 100000000 ∧ Dat (hid3 p q A H) v d ∧ Fine s m N d ∧ s ≤ 3 ∧ m ≤ 100000 ∧
  ∀ (v' : V) (d' : PyData) (H' : Hp), Off p q H H' → D3 H' p q A c → Dat (hid3 p q A H') v' d' → Fine (s + 1) (2 * m + 170) (N + 2) d' → Q v' H'
theorem drop_get {ds : List PyData} {i : Nat} {d : PyData} (h : ds[i]? = some d) : ds.drop i = d :: ds.drop (i + 1) := by
  have hi := (List.getElem?_eq_some_iff.mp h)
  obtain ⟨hlt, e⟩ := hi
  rw [List.drop_eq_getElem_cons hlt, e]
theorem tup_one {t : TE} {σ : L2.St} {H : Hp} {Q : VK} (h : t σ H fun x H1 => 1 ≤ sizeLine ∧ ∀ p, H1 p = none → Q (.ref p) (upd H1 p (.tup [x]))) : tTup (tCons t tNil) σ H Q := h
theorem op_of {r : R2} {t u : TE} {σ : L2.St} {H : Hp} {Q : VK} (h : t σ H fun x H1 => u σ H1 fun y H2 => r x y H2 Q) : tOp r t u σ H Q := h
section
variable {P : Program} {w : World} {K : PySem.W.Frag} {mg : Str → Option Value} {base : Heap}
theorem sc_changed : FnScope ["_law_deck_here", "_law_given", "_law_at"] ["_law_deck_here", "_law_given"] (defScope s_changed) := ⟨rfl, rfl, rfl, by decide +kernel, rfl, by decide +kernel, by decide +kernel⟩
theorem ch_body {f fD fO : Addr} {fd fdD fdO : FuncData} {sp : Sp} (N : Nat) (F : Fun K "_law_changed" "_law_changed" s_changed f fd) (bs : L2.Binds K fd ["_law_deck_here", "_law_given"] []) (g : mg "_law_changed" = some (.ref f)) (G : FnOk P w K mg base CX0 (3 + N) f fd ["_law_deck_here", "_law_given"] sp) (T : Nm mg)
    (D_draw : DefOk K mg "_law_draw" sDraw ["_law_deck_here", "_law_bound"] fD fdD) (D_other : DefOk K mg "_law_other" s_other ["_law_deck_here", "_law_given"] fO fdO) (G_other : FnOk P w K mg base CX0 3 fO fdO ["_law_deck_here", "_law_given"] spOther)
    (hn : ∀ M, N = M + 1 → ∀ vs H Q E, spChg M vs H Q E → sp vs H Q E) : FnOk P w K mg base CX0 (4 + N) f fd ["_law_deck_here", "_law_given"] (spChg N) := by
  have G_draw : FnOk P w K mg base CX0 1 fD fdD ["_law_deck_here", "_law_bound"] spDraw := ok_draw D_draw.F
  rw [show 4 + N = (3 + N) + 1 by omega]
  refine F.ok sc_changed (fun vs H Q E h => ?_) (fun cdv AA outer s H vs Q E hr h => ?_)
  · obtain ⟨p, q, A, b, c, s, m, v, d, rfl, _⟩ := h
    rfl
  · obtain ⟨p, q, A, b, c, sg, m, v, d, rfl, D, hb, hc, hd, hF, hs3, hm, k⟩ := h
    have hr1 : Room 1 _ := hr.mono (by omega)
    have hr3 : Room 3 _ := hr.mono (by omega)
    have hu0 := hr.units0
    refine ⟨_, (pss_cons (ps_if (PW.pt (pw_or (pt_not (pt_val (pe_callB call_isi (by rfl) T.isinstance boot_isinstance (pa_cons (pv 1) (pa_cons (pe_bltn (v := .ty "tuple") rfl T.tuple (by decide +kernel) rfl) pa_nil))))) (pw_or (pt_cmpR (op_emptyT hu0) (pv 1) (pe_tup pa_nil) (nomark _)) (pw_or1 (pt_cmpR op_eq (pe_call G_draw hr1 rfl D_draw.g D_draw.F.kp D_draw.b .nil pass0 (pa_cons (pv 0) (pa_cons pe_int pa_nil))) pe_int (nomark _))))))
        (pss_one (ps_ret (pe_call G_other hr3 rfl D_other.g D_other.F.kp D_other.b .nil pass0 (pa_cons (pv 0) (pa_cons (pv 1) pa_nil)))))
        pss_nil)
      (pss_cons (ps_set (i := 2) sc_changed.nd rfl (Or.inl rfl) (pe_call G_draw hr1 rfl D_draw.g D_draw.F.kp D_draw.b .nil pass0 (pa_cons (pv 0) (pa_cons (pe_callB cr_lenS (by rfl) T.len PySem.boot_len (pa_cons (pv 1) pa_nil)) pa_nil))))
      (pss_one (ps_ret (pe_op op_catA (pe_op op_catA (pe_slice sl_tupA (pv 1) po_none (po_some (pv 2))) (pe_tup (pa_cons (pe_call G hr rfl g F.kp bs .nil pass0 (pa_cons (pv 0) (pa_cons (pe_ix ix_tup (pv 1) (pv 2) (fun _ _ => rfl)) pa_nil))) pa_nil))) (pe_slice sl_tupA (pv 1) (po_some (pe_op op_add (pv 2) pe_int)) po_none)))))), ?_⟩
    have hv := hd.same hid3_sub
    have oth : ∀ (H1 : Hp) (b1 : Nat) (σ1 : L2.St), σ1[0]? = some (some (.ref p)) → σ1[1]? = some (some v) → Off p q H H1 → D3 H1 p q A b1 → b1 + 3 ≤ c → Dat (hid3 p q A H1) v d → tCall spOther [] E0 (tCons (tVar 0) (tCons (tVar 1) tNil)) σ1 H1 Q := fun H1 b1 σ1 e0 e1 O1 D1 hb1 hd1 =>
      call_v e0 ⟨v, e1, p, q, A, b1, sg, m, N, v, d, rfl, D1, by omega, hd1, hF, hs3, hm, fun v' d' H' O' D' dd ff => k v' d' H' (O1.trans O') (D'.mono (by omega)) dd ff⟩
    refine ⟨_, rfl, v, .ty "tuple", _, _, _, rfl, .ty _, hv.ty, kit_tuple _ d, _, rfl, ?_⟩
    cases zt : isTup d with
    | false => exact if_t rfl (if_t rfl (ret_of (oth H b _ rfl rfl Off.refl D (by omega) hd)))
    | true =>
      obtain ⟨ds, rfl⟩ : ∃ ds, d = .tuple ds := by
        cases d with
        | tuple ds => exact ⟨ds, rfl⟩
        | _ => cases zt
      obtain ⟨a, xs, rfl, ha, hx⟩ := tup_at (b := b) hd
      have hxl := hx.len
      refine if_f rfl ⟨_, rfl, (by show 0 ≤ sizeLine; decide), fun e ne => ⟨a, e, xs, rfl, rfl, upR ha (same_new ne), upd_same, _, rfl, ?_⟩⟩
      have Se := same_new (o := HO.tup []) ne
      generalize upd H e (.tup []) = He at Se ⊢
      have De := D.same Se
      have hde := hd.same (hid3_same Se)
      cases xs with
      | nil => exact if_t rfl (if_t rfl (ret_of (oth He b _ rfl rfl (Off.of_same Se) De (by omega) hde)))
      | cons x0 xr =>
        refine if_f rfl ?_
        refine draw_c3 (n := 4) rfl De (by decide) (by decide) (by omega) fun z H1 hz O1 D1 => ⟨rfl, _, rfl, ?_⟩
        have OE := (Off.of_same (p := p) (q := q) Se).trans O1
        have hd1 := hde.same (hid3_off O1)
        by_cases hz0 : z = 0
        · exact if_t (decide_eq_true (by rw [hz0]; rfl)) (ret_of (oth H1 (b + 1) _ rfl rfl OE D1 (by omega) hd1))
        · refine if_f (decide_eq_false fun e => hz0 (by have := V.int.inj e; omega)) ?_
          obtain ⟨m1, n1', FL⟩ := hF.inv
          obtain ⟨M, hM⟩ : ∃ M, N = M + 1 := ⟨N - 1, by omega⟩
          have hlen : ds.length ≤ 100000 := by
            have := len_mass ds
            have := FL.m
            omega
          have hpos : 0 < ds.length := by
            rw [← hxl]
            exact Nat.succ_pos _
          obtain ⟨a', xs', ea, ha1, hx1⟩ := tup_at (b := b) hd1
          cases ea
          have hxl1 := hx1.len
          refine sq_any (call_v rfl ⟨_, rfl, a, xs', rfl, .inr (sqT_rd ha1), draw_of3 (E := E0) (n := (xs'.length : Int)) D1 (by rw [hxl1]; omega) (by rw [hxl1]; omega) (by omega) fun i H2 hi O2 D2 => ?_⟩)
          rw [hxl1] at hi
          have hi' : i < ds.length := by omega
          have hget : ds[i]? = some ds[i] := List.getElem?_eq_getElem hi'
          generalize ds[i] = d5 at hget
          have hd2 := hd1.same (hid3_off O2)
          have EV3 : EnvOk [(2, .int (i : Nat)), (1, .tuple ds)] [some (V.ref p), some (.ref a), some (.int (i : Nat))] (hid3 p q A H2) := fun pr hp => by
            simp only [List.mem_cons, List.not_mem_nil, or_false] at hp
            rcases hp with rfl | rfl
            · exact ⟨_, rfl, .int _⟩
            · exact ⟨_, rfl, hd2⟩
          have V3 : MkH p q A [(2, .int (i : Nat)), (1, .tuple ds)] (tVar 2) (.int (i : Nat)) := h_var List.mem_cons_self
          have V1 : MkH p q A [(2, .int (i : Nat)), (1, .tuple ds)] (tVar 1) (.tuple ds) := h_var (List.mem_cons_of_mem _ List.mem_cons_self)
          have N1 : MkH p q A [(2, .int (i : Nat)), (1, .tuple ds)] (tOp (rI0 fun i j => .int (i + j)) (tVar 2) (tC (.int 1))) (.int ((i + 1 : Nat) : Int)) := h_op0 V3 h_int fun _ => dat_int' (by omega)
          have F5 : Fine sg (mass d5) M d5 := by
            have := FL.mem (List.mem_of_getElem? hget)
            exact ⟨this.f, Nat.le_refl _, by have := this.n; omega⟩
          have hsum : massAll ds = massAll (ds.take i) + (mass d5 + massAll (ds.drop (i + 1))) := by
            have e1 : ds = ds.take i ++ ds.drop i := (List.take_append_drop i ds).symm
            have e2 := drop_get hget
            calc massAll ds = massAll (ds.take i ++ ds.drop i) := by rw [← e1]
              _ = _ := by rw [massAll_append, e2, massAll]
          have hm5 : mass d5 ≤ m - 1 := by
            have := FL.m
            omega
          refine ret_of (op_of (op_of (h_slTo (K := K) V1 V3 _ H2 _ _ D2 EV3 fun v1 Ha Sa da1 => tup_one (call_v rfl (h_ixT (K := K) V1 V3 hget _ Ha _ _ (D2.same Sa) (EV3.h Sa) fun v2 Hb Sb db2 => ?_)))))
          refine hn M hM _ _ _ _ ⟨p, q, A, b + 1 + 1, c, sg, mass d5, v2, d5, rfl, (D2.same Sa).same Sb, by omega, hc, db2, F5, hs3, by omega, fun v' d' Hc Oc Dc dd ff => ⟨by decide, fun t nt => ?_⟩⟩
          have St := same_new (o := HO.tup [v']) nt
          have dT : Dat (hid3 p q A (upd Hc t (.tup [v']))) (.ref t) (.tuple [d']) := .tup (tp_hid3 (Dc.same St) (TP.of upd_same)) (.cons (dd.same (hid3_same St)) .nil)
          have da1' := ((da1.same (hid3_same Sb)).same (hid3_off Oc)).same (hid3_same St)
          have EV5 := ((((EV3.h Sa).h Sb).same (hid3_off Oc)).h St)
          have O5 := (((((OE.trans O2).trans (Off.of_same Sa)).trans (Off.of_same Sb)).trans Oc).trans (Off.of_same St))
          have D5 := Dc.same St
          generalize upd Hc t (.tup [v']) = Hd at dT da1' EV5 O5 D5 St ⊢
          obtain ⟨a1, ys1, rfl, hy1, hys1⟩ := tup_at (b := b) da1'
          obtain ⟨a2, ys2, ea2, hy2, hys2⟩ := tup_at (b := b) dT
          cases ea2
          have l1 := hys1.len
          have l2 := hys2.len
          rw [List.length_take] at l1
          refine catA_of hy1 hy2 (by rw [l1, l2, sizeLine_eq]; simp only [List.length_cons, List.length_nil]; omega) fun a3 Hf Sf hy3 => ?_
          have D6 := D5.same Sf
          have d3 : Dat (hid3 p q A Hf) (.ref a3) (.tuple (ds.take i ++ [d'])) := .tup (tp_hid3 D6 hy3) (datAll_append (hys1.same (hid3_same Sf)) (hys2.same (hid3_same Sf)))
          refine h_slFrom (K := K) V1 N1 _ Hf _ _ D6 (EV5.h Sf) fun v7 Hg Sg dg => ?_
          obtain ⟨a4, ys4, ea4, hy4, hys4⟩ := tup_at (b := b) (d3.same (hid3_same Sg))
          cases ea4
          obtain ⟨a5, ys5, rfl, hy5, hys5⟩ := tup_at (b := b) dg
          have l4 := hys4.len
          have l5 := hys5.len
          rw [List.length_append, List.length_take] at l4
          rw [List.length_drop] at l5
          refine catA_of hy4 hy5 (by rw [l4, l5, sizeLine_eq]; simp only [List.length_cons, List.length_nil]; omega) fun a6 Hh Sh hy6 => ?_
          have D7 := (D6.same Sg).same Sh
          refine k (.ref a6) (.tuple ((ds.take i ++ [d']) ++ ds.drop (i + 1))) Hh (((O5.trans (Off.of_same Sf)).trans (Off.of_same Sg)).trans (Off.of_same Sh)) D7 (.tup (tp_hid3 D7 hy6) (datAll_append (hys4.same (hid3_same Sh)) (hys5.same (hid3_same Sh)))) ?_
          have G1 := (((FL.take i).up).app ((FineL.one ff).app ((FL.drop (i + 1)).up)))
          refine (FineL.tup (s := sg + 1) (m := 2 * m + 169) (n := N + 1) ⟨?_, ?_, ?_⟩)
          · intro x hx'
            rw [List.append_assoc] at hx'
            exact G1.f x hx'
          · rw [massAll_append, massAll_append]
            have := ff.m
            have := FL.m
            simp only [massAll]
            omega
          · rw [List.append_assoc]
            have := G1.n
            omega
theorem okl_changed {f fD fO : Addr} {fd fdD fdO : FuncData} (F : Fun K "_law_changed" "_law_changed" s_changed f fd) (bs : L2.Binds K fd ["_law_deck_here", "_law_given"] []) (g : mg "_law_changed" = some (.ref f)) (T : Nm mg)
    (D_draw : DefOk K mg "_law_draw" sDraw ["_law_deck_here", "_law_bound"] fD fdD) (D_other : DefOk K mg "_law_other" s_other ["_law_deck_here", "_law_given"] fO fdO) (G_other : FnOk P w K mg base CX0 3 fO fdO ["_law_deck_here", "_law_given"] spOther) : ∀ N : Nat, FnOk P w K mg base CX0 (4 + N) f fd ["_law_deck_here", "_law_given"] (spChg N)
  | 0 => ch_body (sp := fun _ _ _ _ => False) 0 F bs g fn_none T D_draw D_other G_other fun M e => by cases e
  | N + 1 => by
    have G := okl_changed F bs g T D_draw D_other G_other N
    rw [show 4 + N = 3 + (N + 1) by omega] at G
    refine ch_body (N + 1) F bs g G T D_draw D_other G_other fun M e vs H Q E h => ?_
    obtain rfl : N = M := Nat.succ.inj e
    exact h
end
end K9
set_option maxRecDepth 100000
set_option maxHeartbeats 8000000
namespace K9
open PySem PySem.Spec PyProof.Rows L2
/-! ### the queries are fine -/
theorem step_fine {d : PyData} (h : StepL d) : Fine 0 9 1 d := by
  rcases h with ⟨k, hk, rfl⟩ | ⟨z, j, hz, hj, rfl⟩
  · exact (fine_n (by omega) (by omega)).mono (by decide) (by decide)
  · have := (FineL.cons (fine_nm (s := 0) hz) (FineL.cons (fine_n (i := (j : Nat)) (by omega) (by omega)) FineL.nil)).tup
    exact this.mono (by decide) (by decide)
theorem path_fine : ∀ {p : List PyData} {s e : S9}, FineS s → partAt s p = some e → FineL 0 (9 * p.length) 1 p
  | [], s, e, h, hp => ⟨FineL.nil.f, by simp [massAll], by simp [PyData.depthAll]⟩
  | d :: p, s, e, h, hp => by
    have h' : (match nextS s d with | none => none | some e => partAt e p) = some e := hp
    cases hn : nextS s d with
    | none =>
      rw [hn] at h'
      cases h'
    | some m =>
      rw [hn] at h'
      have a := path_fine (h.next hn) h'
      have b := step_fine (nest_step h.ti ((next_iff s d m (okS_d h.ok)).mp hn))
      exact (FineL.cons b a).mono (by rw [List.length_cons]; omega) (by omega)
def wq (d : PyData) : Prop := ∃ q, d = .tuple q ∧ FineL 0 54 1 q
theorem wq2 {w : Str} {i : Int} (h : Fine 0 13 0 (.str w)) (h1 : -1000 ≤ i) (h2 : i ≤ 1000) : wq (.tuple [.str w, .int i]) := ⟨_, rfl, (FineL.cons h (FineL.cons (fine_n h1 h2) FineL.nil)).mono (by decide) (by decide)⟩
theorem wq3 {w : Str} {i j : Int} (h : Fine 0 13 0 (.str w)) (h1 : -1000 ≤ i) (h2 : i ≤ 1000) (h3 : -1000 ≤ j) (h4 : j ≤ 1000) : wq (.tuple [.str w, .int i, .int j]) := ⟨_, rfl, (FineL.cons h (FineL.cons (fine_n h1 h2) (FineL.cons (fine_n h3 h4) FineL.nil))).mono (by decide) (by decide)⟩
theorem wq3n {w x : Str} {j : Int} (h : Fine 0 13 0 (.str w)) (hx : nameS x = true) (h3 : -1000 ≤ j) (h4 : j ≤ 1000) : wq (.tuple [.str w, .str x, .int j]) := ⟨_, rfl, (FineL.cons h (FineL.cons (fine_nm hx) (FineL.cons (fine_n h3 h4) FineL.nil))).mono (by decide) (by decide)⟩
theorem wq2n {w x : Str} (h : Fine 0 13 0 (.str w)) (hx : nameS x = true) : wq (.tuple [.str w, .str x]) := ⟨_, rfl, (FineL.cons h (FineL.cons (fine_nm hx) FineL.nil)).mono (by decide) (by decide)⟩
theorem wq3d {w : Str} {i : Int} {d : PyData} (h : Fine 0 10 0 (.str w)) (h1 : -1000 ≤ i) (h2 : i ≤ 1000) (hd : Fine 0 43 1 d) : wq (.tuple [.str w, .int i, d]) := ⟨_, rfl, (FineL.cons h (FineL.cons (fine_n h1 h2) (FineL.cons hd FineL.nil))).mono (by decide) (by decide)⟩
def AllQ (ds : List PyData) : Prop := ∀ d ∈ ds, wq d
theorem aq_app {l m : List PyData} (h : AllQ l) (h2 : AllQ m) : AllQ (l ++ m) := fun d hd => (List.mem_append.mp hd).elim (h d) (h2 d)
theorem aq_map {α : Type} {l : List α} {f : α → PyData} (h : ∀ x ∈ l, wq (f x)) : AllQ (l.map f) := fun d hd => by
  obtain ⟨x, hx, rfl⟩ := List.mem_map.mp hd
  exact h x hx
theorem aq_flat {α : Type} {l : List α} {f : α → List PyData} (h : ∀ x ∈ l, AllQ (f x)) : AllQ (l.flatMap f) := fun d hd => by
  obtain ⟨x, hx, hd⟩ := List.mem_flatMap.mp hd
  exact h x hx d hd
theorem aq_W {w : Str} {n : Nat} (h : Fine 0 13 0 (.str w)) (hn : n ≤ 1001) : AllQ (qW w n) := aq_map fun p hp => by
  have := List.mem_range.mp hp
  exact wq2 h (by omega) (by omega)
theorem lit13 {w : Str} (h : (fineB 0 (.str w) && (decide (mass (.str w) ≤ 13) && decide ((PyData.str w).depth ≤ 0))) = true) : Fine 0 13 0 (.str w) := by
  rw [Bool.and_eq_true, Bool.and_eq_true, decide_eq_true_eq, decide_eq_true_eq] at h
  exact ⟨h.1, h.2.1, h.2.2⟩
theorem lit10 {w : Str} (h : (fineB 0 (.str w) && (decide (mass (.str w) ≤ 10) && decide ((PyData.str w).depth ≤ 0))) = true) : Fine 0 10 0 (.str w) := by
  rw [Bool.and_eq_true, Bool.and_eq_true, decide_eq_true_eq, decide_eq_true_eq] at h
  exact ⟨h.1, h.2.1, h.2.2⟩
theorem aq_row {cs : Cn} (h : cntsY cs = true) : AllQ (rowQ cs) := by
  unfold cntsY at h
  rw [Bool.and_eq_true, List.all_eq_true] at h
  have ht : totN cs ≤ 1000 := of_decide_eq_true h.1
  refine aq_app (aq_app (aq_app (aq_W (lit13 (by decide +kernel)) (by omega)) (aq_W (lit13 (by decide +kernel)) (by omega))) (aq_W (lit13 (by decide +kernel)) (by omega))) (aq_flat fun c hc => aq_map fun j hj => ?_)
  have hj := List.mem_range.mp hj
  have hl := flat_mem (f := qSel) hc
  rw [sel_len, qSel_len] at hl
  exact wq3n (lit13 (by decide +kernel)) (h.2 c hc) (by omega) (by omega)
theorem aq_own {ws : List Str} {lo : Int} {n : Nat} (h : ∀ w ∈ ws, Fine 0 13 0 (.str w)) (h0 : 0 ≤ lo) (h1 : lo ≤ 1) (hn : n ≤ 1000) : AllQ (qOwn ws lo n) := aq_flat fun c hc => aq_map fun k hk => by
  have := List.mem_range.mp hk
  obtain ⟨z, hz, rfl⟩ := List.mem_map.mp hc
  exact wq2 (h z hz) (by omega) (by omega)
theorem names_fine {zs : List Str} (hl : zs.length ≤ 6) (h : ∀ z ∈ zs, nameS z = true) : Fine 0 43 1 (.tuple (zs.map PyData.str)) := by
  have := finel_map (s := 0) (m := 7) (n := 0) PyData.str zs fun z hz => fine_nm (h z hz)
  exact this.tup.mono (by omega) (by decide)
theorem part_wq {s : S9} {ds : List PyData} (hf : FineS s) (h : okPart s ds) : AllQ ds := by
  have e1 := hf.sm
  cases s with
  | row c xs =>
    cases c with
    | true =>
      obtain rfl : ds = _ := h
      intro d hd
      obtain rfl := List.mem_singleton.mp hd
      exact ⟨_, rfl, (FineL.one (fine_str (s := 0) (x := "selected") (by decide +kernel) (by decide))).mono (by decide) (by decide)⟩
    | false =>
      obtain rfl : ds = _ := h
      intro d hd
      cases hd
  | pow n x =>
    obtain rfl : ds = _ := h
    intro d hd
    cases hd
  | dec cs xs =>
    obtain rfl : ds = _ := h
    rcases row_cases hf rfl with ⟨o, e⟩ | ⟨cs', zk, rest, _, e, hc, hok, _⟩
    · cases e
    · have : rowQ cs' = rowQ cs := hok (rowQ cs') rfl
      rw [← this]
      exact aq_row hc
  | leaf l =>
    rw [smS, Bool.and_eq_true] at e1
    cases l with
    | word cs =>
      obtain rfl : ds = _ := h
      exact aq_row e1.2
    | arr o =>
      obtain ⟨ns, hp, rfl⟩ : ∃ ns : List Str, ns.Perm (namesN 6 o) ∧ ds = arrQ ns := h
      have hl : (namesN 6 o).length ≤ 60 := of_decide_eq_true e1.2
      have := hp.length_eq
      exact aq_app (aq_W (lit13 (by decide +kernel)) (by omega)) (aq_map fun z hz => wq2n (lit13 (by decide +kernel)) (names_ok 6 o hf.ok z (hp.mem_iff.mp hz)))
    | walk n s e lo hi =>
      obtain rfl : ds = _ := h
      have z2 : leafZ (.walk n s e lo hi) = true := e1.2
      unfold leafZ at z2
      simp only [Bool.and_eq_true, decide_eq_true_eq] at z2
      obtain ⟨⟨a1, a2⟩, ⟨b1, b2⟩, ⟨c1, c2⟩, ⟨d1, d2⟩, g1, g2⟩ := z2
      have hw : wkC lo hi ≤ 203 := by unfold wkC; omega
      have vis : ∀ (w : Str) (t : Nat), Fine 0 13 0 (.str w) → t ≤ 61 → AllQ (qVis w t lo (wkC lo hi)) := fun w t hw' ht => aq_map fun h hh => by
        have := List.mem_range.mp hh
        exact wq3 hw' (by omega) (by omega) (by omega) (by omega)
      refine aq_app (aq_app (aq_W (lit13 (by decide +kernel)) (by omega)) (aq_flat fun t ht => ?_)) ?_
      · have := List.mem_range.mp ht
        exact aq_app (vis _ _ (lit13 (by decide +kernel)) (by omega)) (vis _ _ (lit13 (by decide +kernel)) (by omega))
      · split
        · exact aq_app (aq_W (lit13 (by decide +kernel)) (by omega)) (aq_W (lit13 (by decide +kernel)) (by omega))
        · intro d hd
          cases hd
    | str ms ac n =>
      obtain ⟨zs, hzl, _, _, hmem, rfl⟩ : okStrs ms n ds := h
      have z2 : leafZ (.str ms ac n) = true := e1.2
      unfold leafZ at z2
      simp only [Bool.and_eq_true, decide_eq_true_eq, List.all_eq_true] at z2
      have hzn : ∀ z ∈ zs, nameS z = true := fun z hz => by
        obtain ⟨m, hm, rfl⟩ := List.mem_map.mp ((hmem z).mp hz)
        exact z2.2.2 m hm
      have it : ∀ (w : Str) (k : Nat) (d : PyData), Fine 0 10 0 (.str w) → k ≤ 100 → Fine 0 43 1 d → AllQ (qIn w k d) := fun w k d hw hk hd => aq_map fun p hp => by
        have := List.mem_range.mp hp
        exact wq3d hw (by omega) (by omega) hd
      refine aq_app (aq_app (aq_app (aq_W (lit13 (by decide +kernel)) (by omega)) (aq_W (lit13 (by decide +kernel)) (by omega))) (aq_flat fun d hd => ?_)) (aq_flat fun d hd => ?_)
      · refine it _ _ _ (lit10 (by decide +kernel)) (by omega) ?_
        unfold itL at hd
        simp only [List.mem_cons, List.not_mem_nil, or_false] at hd
        rcases hd with rfl | rfl | rfl
        · exact names_fine (zs := []) (by decide) (fun z hz => by cases hz)
        · rw [List.map_take.symm]
          exact names_fine (by rw [List.length_take]; omega) fun z hz => hzn z (List.mem_of_mem_take hz)
        · exact names_fine (by omega) hzn
      · refine it _ _ _ (lit10 (by decide +kernel)) (by omega) ?_
        unfold itS at hd
        simp only [List.mem_cons, List.not_mem_nil, or_false] at hd
        rcases hd with rfl | rfl | rfl
        · exact names_fine (zs := []) (by decide) (fun z hz => by cases hz)
        · exact (ints_fineL (l := [0]) (by decide) (by decide)).mono (by decide) (by decide)
        · exact (ints_fineL (l := [0, 1, 7]) (by decide) (by decide)).mono (by decide) (by decide)
    | sub n k =>
      obtain rfl : ds = _ := h
      have z1 : n ≤ 1000 := of_decide_eq_true e1.1
      have z2 : k ≤ 1000 := of_decide_eq_true e1.2
      exact aq_app (aq_app (aq_W (lit13 (by decide +kernel)) (by omega)) (aq_W (lit13 (by decide +kernel)) (by omega))) (aq_W (lit13 (by decide +kernel)) (by omega))
    | cyc n =>
      obtain rfl : ds = _ := h
      have z1 : n ≤ 1000 := of_decide_eq_true e1.1
      exact aq_own (fun w hw => by
        simp only [List.mem_cons, List.not_mem_nil, or_false] at hw
        rcases hw with rfl | rfl <;> exact lit13 (by decide +kernel)) (by decide) (by decide) z1
    | mat n =>
      obtain rfl : ds = _ := h
      have hnum : n ≤ 500 := of_decide_eq_true e1.2
      exact aq_own (fun w hw => by
        simp only [List.mem_cons, List.not_mem_nil, or_false] at hw
        subst hw
        exact lit13 (by decide +kernel)) (by decide) (by decide) (by omega)
    | perm n d =>
      obtain rfl : ds = _ := h
      have z1 : n ≤ 1000 := of_decide_eq_true e1.1
      exact aq_own (fun w hw => by
        simp only [List.mem_cons, List.not_mem_nil, or_false] at hw
        rcases hw with rfl | rfl <;> exact lit13 (by decide +kernel)) (by decide) (by decide) z1
    | tree n =>
      obtain rfl : ds = _ := h
      have z1 : n ≤ 1000 := of_decide_eq_true e1.1
      exact aq_own (fun w hw => by
        simp only [List.mem_cons, List.not_mem_nil, or_false] at hw
        subst hw
        exact lit13 (by decide +kernel)) (by decide) (by decide) z1
/-- a query of a space is fine -/
theorem qof_fine {s : S9} {d : PyData} (hf : FineS s) (hn : nP s ≤ 8) (h : QOf s d) : Fine 0 120 4 d := by
  obtain ⟨path, e, q, ds, rfl, hp, ho, hm⟩ := h
  have h1 := path_fine hf hp
  have h2 := path_len hf.ok hp
  have h3 := nP_pos e
  obtain ⟨q', eq, h4⟩ := part_wq (fine_at hf hp) ho _ hm
  cases eq
  have h5 := (FineL.cons h1.tup h4).tup
  exact h5.mono (by omega) (by decide)
end K9
set_option maxRecDepth 100000
set_option maxHeartbeats 8000000
namespace K9
open PySem PySem.Spec PyProof.Rows L2
/-! ### both ways, and nothing changes -/
abbrev s_right : Stmt := top 60
/-- values given by keyword, in the other order -/
def swK {α : Type} : List α → List α → List α
  | [], [v, s] => [s, v]
  | _, _ => []
def RepX (d : PyData) : Prop := okInt d ∧ d.depth ≤ 64 ∧ d.shown.length ≤ sizeLine
theorem rep_bool (b : Bool) : RepX (.bool b) := by
  refine ⟨by simp [okInt], by simp [PyData.depth], ?_⟩
  cases b <;> decide +kernel
def spRight : Sp := fun vs H Q _ => ∃ (v x : V) (s : S9) (d : PyData), vs = [v, x] ∧ Dat H v (dt s) ∧ FzS H v s ∧ FineS s ∧ Dat H x d ∧ shortQ (tupItems d) ∧ (∀ ds q, d = .tuple (.tuple ds :: q) → ∀ e ∈ ds, RepOk e) ∧ RepX (.tuple [dt s, d]) ∧ ∀ H', Same H H' → Q (.bl true) H'
section
variable {P : Program} {w : World} {K : PySem.W.Frag} {mg : Str → Option Value} {base : Heap}
theorem sc_right : FnScope ["_law_domain", "_law_given", "_law_kept", "_law_due", "_law_found", "_law_one"] ["_law_domain", "_law_given"] (defScope s_right) := ⟨rfl, rfl, rfl, by decide +kernel, rfl, by decide +kernel, by decide +kernel⟩
theorem okl_right {f fD fY : Addr} {fd fdD fdY : FuncData} (F : Fun K "_law_right" "_law_right" s_right f fd) (T : Nm mg) (eS : PySem.W.nsIn K cStatics "sys.int_max_str_digits" = some none)
    (D_due : DefOk K mg "_law_is_due" s_is_due ["_law_domain", "_law_given"] fD fdD) (G_due : FnG P w K mg base 9 fD fdD ["_law_domain", "_law_given"] spDue)
    (D_query : DefOk K mg "is_query" s_query ["space", "value"] fY fdY) (G_query : FnOk P w K mg base CX0 10 fY fdY ["space", "value"] (spQuery Y9)) (kb : KBinds K fdY ["space", "value"] ["value", "space"] swK swK) : FnG P w K mg base 11 f fd ["_law_domain", "_law_given"] spRight := by
  refine F.okG sc_right (fun vs H Q E h => ?_) (fun cdv A outer s H vs Q E hg hr h => ?_)
  · obtain ⟨v, x, s, d, rfl, _⟩ := h
    rfl
  · obtain ⟨v, x, sp, d, rfl, hv, hfz, hfi, hx, hsh, hrep, ⟨k1, k2, k3⟩, q⟩ := h
    have hr9 : Room 9 _ := hr.mono (by decide)
    have hu0 := hr.units0
    have hu : (A.deeper (envOfC "_law_right" (defScope s_right) s.heap.objs.size f cdv)).units + 128 < cLine := by
      have := hr.un
      omega
    refine ⟨_, (pss_cons (ps_asg (pe_tup (pa_cons (pe_callB (call_reprD hg hu eS) (by rfl) T.repr (by decide +kernel) (pa_cons (pe_tup (pa_cons (pv 0) (pa_cons (pv 1) pa_nil))) pa_nil)) (pa_cons (pe_callB (call_reprD hg hu eS) (by rfl) T.repr (by decide +kernel) (pa_cons (pe_callG G_due hg hr9 rfl D_due.g D_due.F.kp D_due.b (pa_cons (pv 0) (pa_cons (pv 1) pa_nil))) pa_nil)) pa_nil))) (pg_tup rfl (pgs_cons (pg_name (i := 2) sc_right.nd rfl (Or.inl rfl)) (pgs_cons (pg_name (i := 3) sc_right.nd rfl (Or.inr rfl)) pgs_nil))))
      (pss_cons (ps_set (i := 4) sc_right.nd rfl (Or.inl rfl) (pe_lst (pa_cons (pe_call G_query hr rfl D_query.g D_query.F.kp D_query.b .nil pass0 (pa_cons (pv 0) (pa_cons (pv 1) pa_nil))) (pa_cons (pe_callKw G_query hr rfl D_query.g D_query.F.kp kb pass0 (pk_cons (pv 1) (pk_cons (pv 0) pk_nil))) pa_nil))))
      (pss_one (ps_ret (pe_and (pe_cmpR (op_empty hu0) (pe_lc (own := [("_law_one", 5)]) (g := (gName 5)) (tt := tTest (tOp rNe (tCB rReprD (tCons (tVar 5) tNil)) (tVar 3))) rfl sc_right.nd (pi_list (pv 4)) (blkOk_by (N := ["_law_domain", "_law_given", "_law_kept", "_law_due", "_law_found", "_law_one"]) (sc := defScope s_right) (by decide +kernel))
          (fun _ _ _ _ _ => (pg_name (i := 5) sc_right.nd rfl (Or.inl rfl))) (fun _ _ _ _ _ => pts_one (pt_cmpR op_ne (pe_callB (call_reprD hg hu eS) (by rfl) T.repr (by decide +kernel) (pa_cons (pv 5) pa_nil)) (pv 3) (nomark _))) (fun _ _ _ _ _ => (pv 5))) (pe_lst pa_nil) (nomark _)) (pe_one (pe_cmpR op_eq (pe_callB (call_reprD hg hu eS) (by rfl) T.repr (by decide +kernel) (pa_cons (pe_tup (pa_cons (pv 0) (pa_cons (pv 1) pa_nil))) pa_nil)) (pv 2) (nomark _)))))))), ?_⟩
    refine ⟨_, rfl, _, rfl, (by show 2 ≤ sizeLine; decide), fun t nt => ⟨_, .tuple [dt sp, d], rfl, ?_, k1, k2, k3, ?_⟩⟩
    · exact .tup (TP.of upd_same) (.cons (hv.same (same_new nt)) (.cons (hx.same (same_new nt)) .nil))
    have St := same_new (o := HO.tup [v, x]) nt
    generalize upd H t (.tup [v, x]) = H1 at St ⊢
    obtain ⟨TX, hTX⟩ : ∃ TX, TX = (PyData.tuple [dt sp, d]).shown := ⟨_, rfl⟩
    rw [← hTX]
    obtain ⟨r1, r2, r3⟩ := rep_bool (queryI Y9 sp d)
    refine ⟨_, rfl, _, rfl, v, x, sp, d, rfl, hv.same St, hfz.same St, hfi, hx.same St, hsh, hrep, fun H2 S2 => ⟨_, .bool (queryI Y9 sp d), rfl, .bl _, r1, r2, r3, (by show 2 ≤ sizeLine; decide), fun t2 nt2 => ⟨t2, _, rfl, SqT.of upd_same, rfl, _, _, rfl, _, _, rfl, rfl, ?_⟩⟩⟩
    obtain ⟨TB, hTB⟩ : ∃ TB, TB = (PyData.bool (queryI Y9 sp d)).shown := ⟨_, rfl⟩
    rw [← hTB]
    have S3 := (St.trans S2).trans (same_new (o := HO.tup [.str TX, .str TB]) nt2)
    generalize upd H2 t2 (.tup [.str TX, .str TB]) = H3 at S3 ⊢
    refine ⟨_, rfl, _, rfl, v, x, sp, d, rfl, hv.same S3, hfi.ok, hx.same S3, hsh, fun H4 S4 => ⟨_, rfl, _, rfl, v, x, sp, d, rfl, (hv.same S3).same S4, hfi.ok, (hx.same S3).same S4, hsh, fun H5 S5 => ⟨(by show 2 ≤ sizeLine; decide), fun L nL => ?_⟩⟩⟩
    have S6 := ((S3.trans S4).trans S5).trans (same_new (o := HO.lst [.bl (queryI Y9 sp d), .bl (queryI Y9 sp d)]) nL)
    have uL : upd H5 L (.lst [.bl (queryI Y9 sp d), .bl (queryI Y9 sp d)]) L = some (.lst [.bl (queryI Y9 sp d), .bl (queryI Y9 sp d)]) := upd_same
    generalize upd H5 L (.lst [.bl (queryI Y9 sp d), .bl (queryI Y9 sp d)]) = H6 at S6 uL ⊢
    refine ⟨_, rfl, L, rfl, ⟨_, SqL.of uL⟩, fun D nD => lc_list (K := K) (a := L) (xs := [.bl (queryI Y9 sp d), .bl (queryI Y9 sp d)]) (fun i Hx => Same H6 Hx ∧ Hx D = some (.lst [])) ⟨same_new nD, upd_same⟩ (fun i Hx _ ⟨S, _⟩ => SqL.of (S _ _ uL)) ?_ ?_⟩
    · rintro i y Hx hi ⟨S, hD⟩
      obtain rfl : y = .bl (queryI Y9 sp d) := by
        have := List.mem_of_getElem? hi
        simp only [List.mem_cons, List.not_mem_nil, or_false, or_self] at this
        exact this
      refine ⟨rfl, ?_⟩
      refine ⟨_, rfl, _, .bool (queryI Y9 sp d), rfl, .bl _, r1, r2, r3, _, rfl, rfl, _, rfl, ?_⟩
      rw [← hTB]
      refine if_f ?_ ⟨S, hD⟩
      rw [decide_eq_true rfl]
      rfl
    · rintro Hx ⟨S, hD⟩
      refine ⟨(by show 0 ≤ sizeLine; decide), fun e ne => ⟨D, e, [], rfl, rfl, .inl ⟨same_new ne _ _ hD, upd_same⟩, _, rfl, if_t rfl ?_⟩⟩
      have S7 := (S6.trans S).trans (same_new (o := HO.lst []) ne)
      generalize upd Hx e (.lst []) = H7 at S7 ⊢
      refine ⟨_, rfl, _, rfl, (by show 2 ≤ sizeLine; decide), fun t3 nt3 => ⟨_, .tuple [dt sp, d], rfl, ?_, k1, k2, k3, ?_⟩⟩
      · exact .tup (TP.of upd_same) (.cons ((hv.same S7).same (same_new nt3)) (.cons ((hx.same S7).same (same_new nt3)) .nil))
      rw [← hTX]
      refine ⟨_, rfl, rfl, ?_⟩
      rw [decide_eq_true rfl]
      exact q _ (S7.trans (same_new nt3))
end
end K9
set_option maxRecDepth 100000
set_option maxHeartbeats 8000000
namespace K9
open PySem PySem.Spec PyProof.Rows L2
/-! ### one of a long list -/
def spPickL : Sp := fun vs H Q _ => ∃ (p q t : Addr) (ns : List Int) (m c : Int) (xs : List V), vs = [.ref p, .ref t] ∧ H t = some (.lst xs) ∧ t ≠ p ∧ t ≠ q ∧ 0 < xs.length ∧ xs.length ≤ 1000000 ∧ DeckAt H p q ns m c ∧ c + 1 ≤ 1000000000 ∧
  ∀ (j : Nat) (x : V) (ns' : List Int) (H' : Hp), xs[j]? = some x → Off p q H H' → DeckAt H' p q ns' m (c + 1) → Q x H'
section
variable {P : Program} {w : World} {K : PySem.W.Frag} {mg : Str → Option Value} {base : Heap}
theorem ok_pickL {f fD : Addr} {fd fdD : FuncData} (F : Fun K "_law_pick" "_law_pick" sPick f fd) (T : Nm mg) (D : DefOk K mg "_law_draw" sDraw ["_law_deck_here", "_law_bound"] fD fdD) :
    FnOk P w K mg base CX0 2 f fd ["_law_deck_here", "_law_items"] spPickL := by
  have GD : FnOk P w K mg base CX0 1 fD fdD ["_law_deck_here", "_law_bound"] spDraw := ok_draw D.F
  refine F.ok scPick (fun vs H Q E h => ?_) (fun cdv A outer s H vs Q E hr h => ?_)
  · obtain ⟨p, q, t, ns, m, c, xs, rfl, _⟩ := h
    rfl
  · obtain ⟨p, q, t, ns, m, c, xs, rfl, ht, tp, tq, hx0, hx1, D', hc, k⟩ := h
    refine ⟨_, pss_one (ps_ret (pe_ix ix_list (pv 1) (pe_call GD hr rfl D.g D.F.kp D.b .nil pass0 (pa_cons (pv 0) (pa_cons (pe_callB call_len_seq (by rfl) T.len PySem.boot_len (pa_cons (pv 1) pa_nil)) pa_nil))) (fun _ _ => rfl))), ?_⟩
    refine ⟨_, rfl, _, rfl, _, rfl, t, _, rfl, .inl (SqL.of ht), p, q, ns, m, c, (xs.length : Int), rfl, by omega, by omega, D', hc, fun i ns' H' h0 h1 off D'' => ?_⟩
    obtain ⟨j, rfl⟩ : ∃ j : Nat, i = (j : Int) := ⟨i.toNat, by omega⟩
    have hj : j < xs.length := by omega
    exact ⟨t, xs, _, xs[j], rfl, rfl, SqL.of (off _ _ ht tp tq), atI_nat (List.getElem?_eq_getElem hj), k j _ ns' H' (List.getElem?_eq_getElem hj) off D''⟩
end
section
variable {H H' : Hp} {p q A t : Addr} {b : Nat}
theorem pick_L {xs : List V} {Q : VK} {E : XK} (D : D3 H p q A b) (ht : H t = some (.lst xs)) (tp : t ≠ p) (tq : t ≠ q) (h0 : 0 < xs.length) (h1 : xs.length ≤ 1000000) (hb : b < 100000000) (k : ∀ (j : Nat) (x : V) (H' : Hp), xs[j]? = some x → Off p q H H' → D3 H' p q A (b + 1) → Q x H') : spPickL [.ref p, .ref t] H Q E := by
  obtain ⟨ns, m, c, D1, hc⟩ := D.dk
  exact ⟨p, q, t, ns, m, c, xs, rfl, ht, tp, tq, h0, h1, D1, by omega, fun j x ns' H' hx off D' => k j x H' hx off (D.off off ⟨ns', m, c + 1, D', by omega⟩)⟩
/-! ### a list that grows, of any data -/
theorem hid3_upd {o : HO} : hid3 p q A (upd H A o) = hid3 p q A H := by
  funext c
  unfold hid3
  by_cases h : c = p ∨ c = q ∨ c = A
  · rw [if_pos h, if_pos h]
  · rw [if_neg h, if_neg h, upd_ne (fun e => h (.inr (.inr e)))]
theorem hide_ne9 {c : Addr} {o : HO} (h : hide p q H c = some o) : c ≠ p ∧ c ≠ q := by
  unfold hide at h
  by_cases e : c = p ∨ c = q
  · rw [if_pos e] at h
    cases h
  · exact ⟨fun z => e (.inl z), fun z => e (.inr z)⟩
theorem new_hid3 {o : HO} (n : H A = none) : Same (hide p q H) (hid3 p q A (upd H A o)) := fun c o' e => by
  have e1 : H c = some o' := hide_sub p q H c o' e
  have hA : c ≠ A := fun z => by rw [z, n] at e1; cases e1
  have e2 := hide_ne9 e
  exact hid3_at (by rw [upd_ne hA]; exact e1) e2.1 e2.2 hA
theorem D3.mk' {zs : List V} (D : Dk H p q b) (n : H A = none) : D3 (upd H A (.lst zs)) p q A b := ⟨D.same (same_new n), ⟨zs, upd_same⟩, (D.new n).1, (D.new n).2⟩
structure GV (Hb : Hp) (p q A : Addr) (b : Nat) (ds : List PyData) (Hx : Hp) : Prop where
  S : Same (hid3 p q A Hb) (hid3 p q A Hx)
  D : D3 Hx p q A b
  f : ∃ zs, Hx A = some (.lst zs) ∧ DatAll (hid3 p q A Hx) zs ds
variable {Hb Hx Hy : Hp} {ds : List PyData}
theorem GV.off {b' : Nat} (g : GV Hb p q A b ds Hx) (O : Off p q Hx Hy) (D : D3 Hy p q A b') : GV Hb p q A b' ds Hy where
  S := g.S.trans (hid3_off O)
  D := D
  f := by
    obtain ⟨zs, h, d⟩ := g.f
    exact ⟨zs, O _ _ h g.D.np g.D.nq, d.same (hid3_off O)⟩
theorem GV.same (g : GV Hb p q A b ds Hx) (S : Same Hx Hy) : GV Hb p q A b ds Hy := g.off (Off.of_same S) (g.D.same S)
theorem GV.mono {b' : Nat} (g : GV Hb p q A b ds Hx) (h : b ≤ b') : GV Hb p q A b' ds Hx := ⟨g.S, g.D.mono h, g.f⟩
theorem GV.add {v : V} {d : PyData} (g : GV Hb p q A b ds Hx) (hd : Dat (hid3 p q A Hx) v d) : ∃ zs, Hx A = some (.lst zs) ∧ zs.length = ds.length ∧ GV Hb p q A b (ds ++ [d]) (upd Hx A (.lst (zs ++ [v]))) := by
  obtain ⟨zs, h, d'⟩ := g.f
  refine ⟨zs, h, d'.len, by rw [hid3_upd]; exact g.S, ⟨dk_upd g.D.dk g.D.np g.D.nq, ⟨_, upd_same⟩, g.D.np, g.D.nq⟩, zs ++ [v], upd_same, ?_⟩
  rw [hid3_upd]
  exact datAll_append d' (.cons hd .nil)
end
/-! ### the values that are asked -/
def valsD : List PyData := [.none, .bool true, .int 0, .str "", .tuple [], .list [], .dict [], .tuple [.tuple []], .tuple [.tuple [], .tuple []], .tuple [.str "selected"], .tuple [.tuple [], .str "selected"], .tuple [.tuple [], .str "parent", .int 0]]
theorem valsD_fine : ∀ d ∈ valsD, fineB 2 d = true ∧ mass d ≤ 30 ∧ d.depth ≤ 3 := by decide +kernel
def AllV (ds : List PyData) : Prop := ∀ d ∈ ds, Fine 2 990 8 d
theorem av_app {l m : List PyData} (h : AllV l) (h2 : AllV m) : AllV (l ++ m) := fun d hd => (List.mem_append.mp hd).elim (h d) (h2 d)
theorem av_q {l : List PyData} (h : ∀ d ∈ l, Fine 0 120 4 d) : AllV l := fun d hd => (h d hd).up.up.mono (by decide) (by decide)
theorem av_vals : AllV valsD := fun d hd => by
  obtain ⟨a, b, c⟩ := valsD_fine d hd
  exact ⟨a, by omega, by omega⟩
/-- what right asks of a value -/
theorem right_args {s : S9} {d : PyData} (ok : SpOk s) (F : Fine 2 990 8 d) : shortQ (tupItems d) ∧ (∀ ds q, d = .tuple (.tuple ds :: q) → ∀ e ∈ ds, RepOk e) ∧ RepX (.tuple [dt s, d]) := by
  refine ⟨?_, ?_, ?_⟩
  · cases d with
    | tuple ds =>
      obtain ⟨_, _, FL⟩ := F.inv
      intro e he
      have F1 := FL.mem (show e ∈ ds from he)
      cases e with
      | tuple es =>
        obtain ⟨_, _, F2⟩ := F1.inv
        have h1 := len_mass es
        have h2 := F2.m
        show es.length ≤ 1000
        omega
      | _ => exact Nat.zero_le _
    | _ => exact fun e he => by cases he
  · rintro ds q rfl e he
    obtain ⟨_, _, FL⟩ := F.inv
    obtain ⟨_, _, FL2⟩ := (FL.mem List.mem_cons_self).inv
    exact (FL2.mem he).rep (by decide) (by decide) (by decide)
  · have F0 : Fine 2 10000 40 (dt s) := ok.fn.up.up
    have FT := (FineL.cons F0 (FineL.cons F FineL.nil)).tup
    obtain ⟨r1, r2, r3⟩ := FT.rep (by decide) (by decide) (by decide)
    exact ⟨r1, by omega, by rw [sizeLine_eq]; omega⟩
end K9
set_option maxRecDepth 100000
set_option maxHeartbeats 8000000
namespace K9
open PySem PySem.Spec PyProof.Rows L2
/-! ### the law -/
abbrev s_law : Stmt := top 61
abbrev NL : List Str := ["_law_script", "_law_deck_here", "_law_before", "_law_turn", "_law_domain", "_law_queries_here", "_law_values", "_law_change", "_law_given"]
def spLaw (K : PySem.W.Frag) : Sp := fun vs H Q _ => ∃ (a : Addr) (ns : List Int), vs = [.ref a] ∧ SqL K H a (ns.map V.int) ∧ ns.length ≤ 63 ∧ ∀ H', Q (.bl true) H'
theorem hid3_hide {H : Hp} {p q A : Addr} : Same (hid3 p q A H) (hide p q H) := fun c o e => by
  unfold hid3 at e
  split at e
  · cases e
  · rename_i h
    exact hide_at e (fun z => h (.inl z)) (fun z => h (.inr (.inl z)))
theorem as_any {te : TE} {g : TG} {D : Ends} {σ : L2.St} {H : Hp} (h : te σ H (fun v H1 => g v σ H1 D.nx)) : tAsg te g D σ H := h
theorem lst_of {ta : TA} {σ : L2.St} {H : Hp} {Q : VK} (h : ta σ H fun vs H1 => vs.length ≤ sizeLine ∧ ∀ p, H1 p = none → Q (.ref p) (upd H1 p (.lst vs))) : tLst ta σ H Q := h
theorem as_sl {r : V → Option Int → Option Int → Hp → VK → Prop} {te u : TE} {g : TG} {D : Ends} {σ : L2.St} {H : Hp} (h : te σ H fun x H1 => u σ H1 fun y H2 => ∃ i, y = .int i ∧ r x none (some i) H2 fun v H3 => g v σ H3 D.nx) : tAsg (tSl r te tNoPart (tPart u)) g D σ H := h
theorem next_of {D : Ends} {σ : L2.St} {H : Hp} (h : D.nx σ H) : tNext D σ H := h
theorem app_if {r : R2} {t u ta tb : TE} {σ : L2.St} {H : Hp} {Q : List V → Hp → Prop} (h : t σ H fun x H1 => u σ H1 fun y H2 => r x y H2 fun v H3 => ∃ b, v = .bl b ∧ if b = true then ta σ H3 fun v H4 => Q [v] H4 else tb σ H3 fun v H4 => Q [v] H4) : tCons (tIf (tTest (tOp r t u)) ta tb) tNil σ H Q := h
def oneD : List PyData := [.tuple [.tuple [], .str "successor", .int 0]]
theorem oneD_fine : ∀ d ∈ oneD, fineB 0 d = true ∧ mass d ≤ 120 ∧ d.depth ≤ 4 := by decide +kernel
section
variable {P : Program} {w : World} {K : PySem.W.Frag} {mg : Str → Option Value} {base : Heap}
theorem sc_law : FnScope NL ["_law_script"] (defScope s_law) := ⟨rfl, rfl, rfl, by decide +kernel, rfl, by decide +kernel, by decide +kernel⟩
theorem okl_law {f fK fD fP fS fQ fC fR : Addr} {fd fdK fdD fdP fdS fdQ fdC fdR : FuncData} (F : Fun K "law" "law" s_law f fd) (T : Nm mg)
    (D_deck : DefOk K mg "_law_deck" sDeck ["_law_script"] fK fdK) (D_draw : DefOk K mg "_law_draw" sDraw ["_law_deck_here", "_law_bound"] fD fdD) (D_pick : DefOk K mg "_law_pick" sPick ["_law_deck_here", "_law_items"] fP fdP)
    (D_space : DefOk K mg "_law_space" s_space ["_law_deck_here"] fS fdS) (G_space : FnOk P w K mg base CX0 10 fS fdS ["_law_deck_here"] spSpace)
    (D_queries : DefOk K mg "_law_queries" s_queries ["_law_domain"] fQ fdQ) (G_queries : FnOk P w K mg base CX0 10 fQ fdQ ["_law_domain"] spQueries)
    (D_changed : DefOk K mg "_law_changed" s_changed ["_law_deck_here", "_law_given"] fC fdC) (G_ch4 : FnOk P w K mg base CX0 8 fC fdC ["_law_deck_here", "_law_given"] (spChg 4)) (G_ch6 : FnOk P w K mg base CX0 10 fC fdC ["_law_deck_here", "_law_given"] (spChg 6))
    (D_right : DefOk K mg "_law_right" s_right ["_law_domain", "_law_given"] fR fdR) (G_right : FnG P w K mg base 11 fR fdR ["_law_domain", "_law_given"] spRight) :
    FnG P w K mg base 12 f fd ["_law_script"] (spLaw K) := by
  have G_deck : FnOk P w K mg base CX0 1 fK fdK ["_law_script"] (spDeck K) := ok_deck D_deck.F T T.list
  have G_draw : FnOk P w K mg base CX0 1 fD fdD ["_law_deck_here", "_law_bound"] spDraw := ok_draw D_draw.F
  have G_pick : FnOk P w K mg base CX0 2 fP fdP ["_law_deck_here", "_law_items"] spPickL := ok_pickL D_pick.F T D_draw
  refine F.okG sc_law (fun vs H Q E h => ?_) (fun cdv AA outer s H vs Q E hg hr h => ?_)
  · obtain ⟨a, ns, rfl, _⟩ := h
    rfl
  · obtain ⟨a, ns0, rfl, hS, hlen, fin⟩ := h
    have hr1 : Room 1 _ := hr.mono (by decide)
    have hr2 : Room 2 _ := hr.mono (by decide)
    have hr8 : Room 8 _ := hr.mono (by decide)
    have hr10 : Room 10 _ := hr.mono (by decide)
    have hu0 := hr.units0
    refine ⟨_, (pss_cons (ps_set (i := 1) sc_law.nd rfl (Or.inl rfl) (pe_call G_deck hr1 rfl D_deck.g D_deck.F.kp D_deck.b .nil pass0 (pa_cons (pv 0) pa_nil)))
      (pss_cons (ps_set (i := 2) sc_law.nd rfl (Or.inl rfl) (pe_lst (pa_cons (pe_tup (pa_cons (pe_tup pa_nil) (pa_cons pe_str (pa_cons pe_int pa_nil)))) pa_nil)))
      (pss_cons (ps_for PassesOwn.never rfl (pi_range1 rfl T.range (pa_cons pe_int pa_nil)) (pg_name (i := 3) sc_law.nd rfl (Or.inl rfl))
        (pss_cons (ps_set (i := 4) sc_law.nd rfl (Or.inr rfl) (pe_call G_space hr10 rfl D_space.g D_space.F.kp D_space.b .nil pass0 (pa_cons (pv 1) pa_nil)))
        (pss_cons (ps_set (i := 5) sc_law.nd rfl (Or.inl rfl) (pe_call G_queries hr10 rfl D_queries.g D_queries.F.kp D_queries.b .nil pass0 (pa_cons (pv 4) pa_nil)))
        (pss_cons (ps_set (i := 6) sc_law.nd rfl (Or.inl rfl) (pe_lst (pa_cons pe_non (pa_cons pe_bl (pa_cons pe_int (pa_cons pe_str (pa_cons (pe_tup pa_nil) (pa_cons (pe_lst pa_nil) (pa_cons pe_dnewK (pa_cons (pe_tup (pa_cons (pe_tup pa_nil) pa_nil)) (pa_cons (pe_tup (pa_cons (pe_tup pa_nil) (pa_cons (pe_tup pa_nil) pa_nil))) (pa_cons (pe_tup (pa_cons pe_str pa_nil)) (pa_cons (pe_tup (pa_cons (pe_tup pa_nil) (pa_cons pe_str pa_nil))) (pa_cons (pe_tup (pa_cons (pe_tup pa_nil) (pa_cons pe_str (pa_cons pe_int pa_nil)))) pa_nil))))))))))))))
        (pss_cons (ps_set (i := 6) sc_law.nd rfl (Or.inl rfl) (pe_op op_cat (pe_op op_cat (pv 6) (pe_slice sl_list (pv 5) po_none (po_some pe_int))) (pv 2)))
        (pss_cons (ps_for PassesOwn.never rfl (pi_range1 rfl T.range (pa_cons (pe_op op_mul pe_int (pe_callTy call_int1 (by rfl) T.int (by decide +kernel) (pa_cons (pe_cmpR (op_nempty hu0) (pv 5) (pe_lst pa_nil) (nomark _)) pa_nil))) pa_nil)) (pg_name (i := 7) sc_law.nd rfl (Or.inl rfl))
          (pss_cons (ps_set (i := 8) sc_law.nd rfl (Or.inl rfl) (pe_call G_ch4 hr8 rfl D_changed.g D_changed.F.kp D_changed.b .nil pass0 (pa_cons (pv 1) (pa_cons (pe_call G_pick hr2 rfl D_pick.g D_pick.F.kp D_pick.b .nil pass0 (pa_cons (pv 1) (pa_cons (pv 5) pa_nil))) pa_nil))))
          (pss_one (ps_expr (pe_bm PySem.F.plainAttrs_list PySem.F.slot_list_append PySem.F.type_list_append mt_append (pv 6) (pa_cons (pe_ifExp (pt_cmpR op_eq (pe_call G_draw hr1 rfl D_draw.g D_draw.F.kp D_draw.b .nil pass0 (pa_cons (pv 1) (pa_cons pe_int pa_nil))) pe_int (nomark _)) (pe_call G_ch6 hr10 rfl D_changed.g D_changed.F.kp D_changed.b .nil pass0 (pa_cons (pv 1) (pa_cons (pv 8) pa_nil))) (pv 8)) pa_nil))))))
        (pss_cons (ps_if (pt_cmpR (op_nempty hu0) (pe_lc (own := [("_law_given", 8)]) (g := (gName 8)) rfl sc_law.nd (pi_list (pv 6)) (blkOk_by (N := NL) (sc := defScope s_law) (by decide +kernel))
          (fun _ _ _ _ _ => (pg_name (i := 8) sc_law.nd rfl (Or.inl rfl))) (fun _ _ _ _ _ => pts_one (pt_not (pt_val (pe_callG G_right hg hr rfl D_right.g D_right.F.kp D_right.b (pa_cons (pv 4) (pa_cons (pv 8) pa_nil)))))) (fun _ _ _ _ _ => (pv 8))) (pe_lst pa_nil) (nomark _))
          (pss_one (ps_ret pe_bl))
          pss_nil)
        (pss_one (ps_set (i := 2) sc_law.nd rfl (Or.inl rfl) (pe_slice sl_list (pv 5) po_none (po_some pe_int)))))))))))
      (pss_one (ps_ret pe_bl))))), ?_⟩
    refine ⟨_, rfl, a, ns0, rfl, hS, hlen, fun p q ms m H1 s1 np nq D1 => ?_⟩
    have K1 : Dk H1 p q 0 := ⟨ms, m, 0, D1, by decide⟩
    have M1 : Mks [] _ oneD := mks_cons (mk_tup (mks_cons (mk_tup mks_nil (by decide)) (mks_cons (mk_str (by decide)) (mks_cons mk_int mks_nil))) (by decide)) mks_nil
    refine sq_any (lst_of (M1 _ H1 _ (fun pr hp => by cases hp) fun bs0 H2 S2 d2 => ⟨by rw [d2.len]; decide, fun B nB => ?_⟩))
    have K2 := (K1.same S2).same (same_new (o := HO.lst bs0) nB)
    have nB1 := (K1.same S2).new nB
    have hB0 : hide p q (upd H2 B (.lst bs0)) B = some (.lst bs0) := hide_at upd_same nB1.1 nB1.2
    have dB0 : DatAll (hide p q (upd H2 B (.lst bs0))) bs0 oneD := datAll_hide K2 (d2.same (same_new nB)) (by decide +kernel)
    generalize upd H2 B (.lst bs0) = H3 at K2 hB0 dB0 ⊢
    refine ⟨4, rfl, by decide, by decide, for_range (n := 4) (fun i σ Hx => ∃ (B : Addr) (bs : List V) (es : List PyData) (x3 x4 x5 x6 x7 x8 : Option V), σ = [some (.ref a), some (.ref p), some (.ref B), x3, x4, x5, x6, x7, x8] ∧ Dk Hx p q (1000 * i) ∧ hide p q Hx B = some (.lst bs) ∧ DatAll (hide p q Hx) bs es ∧ es.length ≤ 20 ∧ (∀ d ∈ es, Fine 0 120 4 d))
      ⟨B, bs0, oneD, none, none, none, none, none, none, rfl, K2, hB0, dB0, by decide, fun d hd => by obtain ⟨z1, z2, z3⟩ := oneD_fine d hd; exact ⟨z1, z2, z3⟩⟩ ?_ ?_⟩
    · clear hB0 dB0 K2 nB1 nB d2 S2 K1 D1
      clear B bs0
      rintro i σ H2 hi ⟨B, bs, es, x3, x4, x5, x6, x7, x8, rfl, K2, hB, dB, lB, fB⟩
      refine sq_any (call_1 rfl ⟨p, q, 1000 * i, rfl, K2, by omega, fun v sp H3 O3 K3 dv fv ok => ?_⟩)
      refine sq_any (call_1 rfl ⟨v, sp, rfl, dv.same (hide_sub _ _ _), fv.same (hide_sub _ _ _), ok.fi, by have := ok.np; omega, fun Aq xs ds H4 n4 S4 h4 d4 l4 no4 q4 => ?_⟩)
      have np := ok.np
      have aq := K3.new n4
      have K4 := K3.same S4
      have hB4 := hide_same S4 _ _ (hide_off O3 _ _ hB)
      have dB4 := (dB.same (hide_off O3)).same (hide_same S4)
      have dv4 := dv.same (hide_same S4)
      have fv4 := fv.same (hide_same S4)
      have dq4 := datAll_hide K4 d4 no4
      have fq : ∀ d ∈ ds, Fine 0 120 4 d := fun d hd => qof_fine ok.fi np (q4 d hd)
      have hq4 : hide p q H4 Aq = some (.lst xs) := hide_at h4 aq.1 aq.2
      have D4 : D3 H4 p q Aq (1000 * i + 50) := ⟨K4, ⟨xs, h4⟩, aq.1, aq.2⟩
      have lq := dq4.len
      clear d4 dv fv dB hB O3 K3 K2 n4 S4
      have M2 : MkHF p q Aq [] _ valsD := hf_lst (hs_cons h_non (hs_cons h_bl (hs_cons h_int (hs_cons (h_str (by decide)) (hs_cons (h_tup hs_nil (by decide)) (hs_cons (hf_lst hs_nil (by decide)).l (hs_cons h_dict (hs_cons (h_tup (hs_cons (h_tup hs_nil (by decide)) hs_nil) (by decide)) (hs_cons (h_tup (hs_cons (h_tup hs_nil (by decide)) (hs_cons (h_tup hs_nil (by decide)) hs_nil)) (by decide)) (hs_cons (h_tup (hs_cons (h_str (by decide)) hs_nil) (by decide)) (hs_cons (h_tup (hs_cons (h_tup hs_nil (by decide)) (hs_cons (h_str (by decide)) hs_nil)) (by decide)) (hs_cons (h_tup (hs_cons (h_tup hs_nil (by decide)) (hs_cons (h_str (by decide)) (hs_cons h_int hs_nil))) (by decide)) hs_nil)))))))))))) (by decide)
      refine sq_any (M2 _ H4 _ _ D4 (fun pr hp => by cases hp) fun L zs H5 n1 n2 nA S5 e5 dz => ?_)
      have K5 := K4.same S5
      have dz5 := dz.same (hid3_hide)
      have hB5 := hide_same S5 _ _ hB4
      have dB5 := dB4.same (hide_same S5)
      have dv5 := dv4.same (hide_same S5)
      have fv5 := fv4.same (hide_same S5)
      have dq5 := dq4.same (hide_same S5)
      have hq5 := hide_same S5 _ _ hq4
      have lz := dz5.len
      have lb := dB5.len
      clear hB4 dB4 dv4 fv4 dq4 hq4 h4 D4 K4 dz S5
      refine sq_any (op_of (op_of ⟨_, rfl, sl_to ⟨_, rfl, 150, rfl, Aq, xs, rfl, SqL.of (hide_sub _ _ _ _ _ hq5), fun c nc => ?_⟩⟩))
      rw [show cutV xs none (some 150) = xs.take 150 from cutV_to xs 150]
      have S6 := same_new (o := HO.lst (xs.take 150)) nc
      have uc : upd H5 c (.lst (xs.take 150)) c = some (.lst (xs.take 150)) := upd_same
      have K6 := K5.same S6
      have hL6 := S6 _ _ e5
      have hB6 := hide_same (p := p) (q := q) S6 _ _ hB5
      generalize upd H5 c (.lst (xs.take 150)) = H6 at S6 uc K6 hL6 hB6 ⊢
      have lt : (xs.take 150).length ≤ 150 := by rw [List.length_take]; omega
      have lv0 : zs.length = 12 := lz
      refine ⟨L, c, zs, xs.take 150, rfl, rfl, hL6, uc, by rw [sizeLine_eq]; omega, fun c2 nc2 => ?_⟩
      have S7 := same_new (o := HO.lst (zs ++ xs.take 150)) nc2
      have uc2 : upd H6 c2 (.lst (zs ++ xs.take 150)) c2 = some (.lst (zs ++ xs.take 150)) := upd_same
      have K7 := K6.same S7
      have hB7 := hide_same (p := p) (q := q) S7 _ _ hB6
      generalize upd H6 c2 (.lst (zs ++ xs.take 150)) = H7 at S7 uc2 K7 hB7 ⊢
      refine ⟨_, rfl, c2, B, _, bs, rfl, rfl, uc2, hide_sub _ _ _ _ _ hB7, by rw [List.length_append, sizeLine_eq]; omega, fun A nA => ?_⟩
      have S67 := S6.trans S7
      have SA := new_hid3 (p := p) (q := q) (o := HO.lst ((zs ++ xs.take 150) ++ bs)) nA
      have DA := D3.mk' (zs := (zs ++ xs.take 150) ++ bs) K7 nA
      have dA := (datAll_append (datAll_append (dz5.same (hide_same S67)) (datAll_take 150 (dq5.same (hide_same S67)))) (dB5.same (hide_same S67))).same SA
      have dv8 := (dv5.same (hide_same S67)).same SA
      have fv8 := (fv5.same (hide_same S67)).same SA
      have dq8 := (dq5.same (hide_same S67)).same SA
      have hq8 := SA _ _ (hide_same S67 _ _ hq5)
      have uA : upd H7 A (.lst ((zs ++ xs.take 150) ++ bs)) A = some (.lst ((zs ++ xs.take 150) ++ bs)) := upd_same
      generalize upd H7 A (.lst ((zs ++ xs.take 150) ++ bs)) = H8 at DA dA dv8 fv8 dq8 hq8 uA ⊢
      have g0 : GV H8 p q A (1000 * i + 60) ((valsD ++ ds.take 150) ++ es) H8 := ⟨Same.refl _, DA.mono (by omega), _, uA, dA⟩
      have av0 : AllV ((valsD ++ ds.take 150) ++ es) := av_app (av_app av_vals (av_q fun d hd => fq d (List.mem_of_mem_take hd))) (av_q fB)
      have l0 : ((valsD ++ ds.take 150) ++ es).length ≤ 200 := by
        rw [List.length_append, List.length_append, List.length_take]
        have : valsD.length = 12 := rfl
        omega
      generalize (valsD ++ ds.take 150) ++ es = vs0 at g0 av0 l0
      clear SA S67 uc uc2 hB7 K7 S7 hL6 hB6 S6 K6 dz5 hB5 dB5 dv5 fv5 dq5 hq5 K5 uA dA DA
      -- the changed ones
      obtain ⟨n, hn, hn25, hpos⟩ : ∃ n : Nat, (25 : Int) * (if (!xs.isEmpty) = true then 1 else 0) = (n : Int) ∧ n ≤ 25 ∧ (0 < n → 0 < xs.length) := by
        cases xs with
        | nil => exact ⟨0, rfl, by decide, fun h => by cases h⟩
        | cons x0 xr => exact ⟨25, rfl, by decide, fun _ => Nat.succ_pos _⟩
      refine ⟨_, rfl, (by show 0 ≤ sizeLine; decide), fun e ne => ⟨Aq, e, xs, rfl, rfl, .inl ⟨same_new ne _ _ (hid3_sub _ _ hq8), upd_same⟩, ?_⟩⟩
      have ge := g0.same (same_new (o := HO.lst []) ne)
      have Se := same_new (o := HO.lst []) ne
      have dve := dv8.same (hid3_same (p := p) (q := q) (A := A) Se)
      have fve := fv8.same (hid3_same (p := p) (q := q) (A := A) Se)
      have dqe := dq8.same (hid3_same (p := p) (q := q) (A := A) Se)
      have hqe := (hid3_same (p := p) (q := q) (A := A) Se) _ _ hq8
      generalize upd H8 e (.lst []) = H9 at ge dve fve dqe hqe ⊢
      refine .inr ⟨!xs.isEmpty, rfl, 25, _, rfl, rfl, ?_, (n : Nat), ?_, by omega, by omega, for_range (n := n) (fun j σ Hx => ∃ (x7 x8 : Option V) (vs : List PyData), σ = [some (.ref a), some (.ref p), some (.ref B), some (.int (0 + (i : Nat))), some v, some (.ref Aq), some (.ref A), x7, x8] ∧ GV H9 p q A (1000 * i + 60 + 35 * j) vs Hx ∧ vs.length ≤ 200 + j ∧ AllV vs) ⟨x7, x8, vs0, rfl, ⟨Same.refl _, ge.D, ge.f⟩, l0, av0⟩ ?_ ?_⟩
      · exact .inl ⟨by decide, by decide⟩
      · exact congrArg (fun z => [V.int z]) hn
      · rintro j σ Hx hj ⟨y7, y8, vs, rfl, g, lv, fv⟩
        have hx5 := hid3_sub _ _ (g.S _ _ hqe)
        refine sq_any (call_v rfl (call_v rfl ⟨_, rfl, pick_L (E := E0) g.D hx5 aq.1 aq.2 (hpos (by omega)) (by omega) (by omega) fun k x Hy hk Oy Dy => ?_⟩))
        obtain ⟨d, hd, dx⟩ := (dqe.same g.S).get hk
        have F0 := fq d (List.mem_of_getElem? hd)
        refine ⟨p, q, A, _, 1000 * i + 60 + 35 * j + 15, 0, 120, x, d, rfl, Dy, by omega, by omega, dx.same (hid3_off Oy), F0, by decide, by decide, fun v1 d1 Hz Oz Dz dd1 ff1 => ?_⟩
        have gz := g.off (Oy.trans Oz) Dz
        clear dx F0 hd hk hx5 Dy
        obtain ⟨zz, hzz, _⟩ := gz.f
        refine ⟨_, rfl, .inl ⟨rfl, _, SqL.of hzz⟩, ?_⟩
        refine app_if (draw_c3 (n := 3) rfl Dz (by decide) (by decide) (by omega) fun z Ha hz Oa Da => ⟨rfl, _, rfl, ?_⟩)
        have ga := gz.off Oa Da
        have da := dd1.same (hid3_off Oa)
        have close : ∀ (v2 : V) (d2 : PyData) (Hb : Hp), Off p q Ha Hb → D3 Hb p q A (1000 * i + 60 + 35 * (j + 1)) → Dat (hid3 p q A Hb) v2 d2 → Fine 2 990 8 d2 → rAppend (.ref A) [v2] Hb fun _ Hc => ∃ (x7 x8 : Option V) (vs : List PyData), [some (.ref a), some (.ref p), some (.ref B), some (.int (0 + (i : Nat))), some v, some (.ref Aq), some (.ref A), some (.int (0 + (j : Nat))), some v1] = [some (.ref a), some (.ref p), some (.ref B), some (.int (0 + (i : Nat))), some v, some (.ref Aq), some (.ref A), x7, x8] ∧ GV H9 p q A (1000 * i + 60 + 35 * (j + 1)) vs Hc ∧ vs.length ≤ 200 + (j + 1) ∧ AllV vs := fun v2 d2 Hb Ob Db dd ff => by
          obtain ⟨zs, h1, h2, h3⟩ := (ga.off Ob Db).add dd
          refine ⟨A, zs, v2, rfl, rfl, h1, by rw [h2, sizeLine_eq]; omega, _, _, vs ++ [d2], rfl, h3, by rw [List.length_append]; show vs.length + 1 ≤ _; omega, av_app fv fun e he => ?_⟩
          rw [List.mem_singleton.mp he]
          exact ff
        by_cases hz0 : z = 0
        · refine if_t (decide_eq_true (by rw [hz0]; rfl)) ?_
          exact call_v rfl ⟨_, rfl, p, q, A, _, 1000 * i + 60 + 35 * (j + 1), 1, 410, v1, d1, rfl, Da, by omega, by omega, da, ff1, by decide, by decide, fun v2 d2 Hb Ob Db dd ff => close v2 d2 Hb Ob Db dd ff⟩
        · refine if_f (decide_eq_false fun e => hz0 (by have := V.int.inj e; omega)) ?_
          exact ⟨_, rfl, close v1 d1 Ha Off.refl (Da.mono (by omega)) da (ff1.up.mono (by decide) (by decide))⟩
      · rintro σ Hx ⟨y7, y8, vs, rfl, g, lv, fv⟩
        obtain ⟨zs, hA, dz⟩ := g.f
        have dvx := (dve.same g.S).same hid3_sub
        have fvx := (fve.same g.S).same hid3_sub
        have dzx := dz.same hid3_sub
        refine ⟨_, rfl, A, rfl, ⟨_, SqL.of hA⟩, fun D nD => lc_list (K := K) (a := A) (xs := zs) (fun k Hy => Same Hx Hy ∧ Hy D = some (.lst [])) ⟨same_new nD, upd_same⟩ (fun k Hy _ ⟨S, _⟩ => SqL.of (S _ _ hA)) ?_ ?_⟩
        · rintro k y Hy hk ⟨S, hD⟩
          obtain ⟨d, hd, dx⟩ := dzx.get hk
          refine ⟨rfl, ?_⟩
          obtain ⟨ra, rb, rc⟩ := right_args ok (fv d (List.mem_of_getElem? hd))
          refine ⟨_, rfl, _, rfl, v, y, sp, d, rfl, dvx.same S, fvx.same S, ok.fi, dx.same S, ra, rb, rc, fun Hw Sw => ?_⟩
          exact ⟨_, rfl, ⟨S.trans Sw, Sw _ _ hD⟩⟩
        · rintro Hy ⟨S, hD⟩
          refine ⟨(by show 0 ≤ sizeLine; decide), fun e ne => ⟨D, e, [], rfl, rfl, .inl ⟨same_new ne _ _ hD, upd_same⟩, _, rfl, if_f rfl ?_⟩⟩
          have Sy := S.trans (same_new (o := HO.lst []) ne)
          have Dy := g.D.dk.same Sy
          have hqy := hid3_same (p := p) (q := q) (A := A) Sy _ _ (g.S _ _ hqe)
          have dqy := ((dqe.same g.S).same (hid3_same (p := p) (q := q) (A := A) Sy)).same hid3_hide
          generalize upd Hy e (.lst []) = Hw at Dy hqy dqy ⊢
          dsimp only [tNext]
          refine as_sl ?_
          refine ⟨_, rfl, 20, rfl, Aq, xs, rfl, SqL.of (hid3_sub _ _ hqy), fun C nC => ?_⟩
          rw [show cutV xs none (some 20) = xs.take 20 from cutV_to xs 20]
          have SC := same_new (o := HO.lst (xs.take 20)) nC
          have nc' := Dy.new nC
          exact ⟨C, xs.take 20, ds.take 20, _, _, _, _, _, _, rfl, (Dy.same SC).mono (by omega), hide_at upd_same nc'.1 nc'.2, (datAll_take 20 dqy).same (hide_same SC), by rw [List.length_take]; omega, fun d hd => fq d (List.mem_of_mem_take hd)⟩
    · rintro σ Hx ⟨B, bs, es, x3, x4, x5, x6, x7, x8, rfl, _⟩
      exact fin _
end
end K9
set_option maxRecDepth 100000
set_option maxHeartbeats 8000000
namespace K9
open PySem PySem.Spec PyProof.Rows L2
/-! ### everything put together -/
theorem def_mk {K : PySem.W.Frag} {h : Heap} {mg : Str → Option Value} {x : Str} {st : Stmt} {ps : List Str} {f : Addr} {oc : Value} {od an : Option Addr} {osl : Array (Option Value)} {kV doc pm cdv ct : Value} (X : K.In h) (G : h.Ns mainGlobals mg)
    (a : PySem.W.nsIn K mainGlobals x = some (some (.ref f))) (l : K.lookup f = some ⟨oc, od, .func (PySem.W.fnOf x x (defArgs st) (defBody st) (defScope st) .none kV doc pm an cdv ct), osl⟩) (c : PySem.W.codeIn K cdv x = true) (k : PySem.W.keepIn K (.ref f) = true)
    (hb : ∀ (kV doc pm : Value) (an : Option Addr) (cdv ct : Value) (us : List Value), us.length = ps.length → bindArgs (PySem.W.fnOf x x (defArgs st) (defBody st) (defScope st) .none kV doc pm an cdv ct) ⟨us, []⟩ = pure (ps.zip us)) :
    DefOk K mg x st ps f (PySem.W.fnOf x x (defArgs st) (defBody st) (defScope st) .none kV doc pm an cdv ct) := ⟨fun_mk l c k, (fun_mk l c k).binds hb, PySem.W.mg_of X G a⟩
theorem kb_sw {K : PySem.W.Frag} {fd : FuncData} (h : ∀ (s : Shared) (u v : Value), BindsTo s fd ⟨[], [("value", u), ("space", v)]⟩ [("space", v), ("value", u)]) : KBinds K fd ["space", "value"] ["value", "space"] swK swK where
  to := fun s us ws _ hl => by
    match us, ws, hl with
    | [], [v, x], _ => exact h s v x
  rel := fun {vs us zs ws} r rz => by
    cases r with
    | nil =>
      cases rz with
      | nil => exact .nil
      | cons a t =>
        cases t with
        | nil => exact .nil
        | cons b t2 =>
          cases t2 with
          | nil => exact .cons b (.cons a .nil)
          | cons c t3 => exact .nil
    | cons a t => exact .nil
/-- a table of promises -/
def look : List (Addr × Sp) → Addr → Option Sp
  | [], _ => none
  | p :: r, x => if x = p.1 then some p.2 else look r x
theorem look_mem {x : Addr} {sp : Sp} : ∀ {t : List (Addr × Sp)}, look t x = some sp → (x, sp) ∈ t
  | [], h => by cases h
  | p :: r, h => by
    unfold look at h
    split at h
    · rename_i e
      cases h
      rw [e]
      exact List.mem_cons_self
    · exact List.mem_cons_of_mem _ (look_mem h)
theorem look_at {x : Addr} {sp : Sp} : ∀ {t : List (Addr × Sp)}, (t.map (·.1)).Nodup → (x, sp) ∈ t → look t x = some sp
  | [], _, h => by cases h
  | p :: r, nd, h => by
    rw [List.map_cons, List.nodup_cons] at nd
    unfold look
    rcases List.mem_cons.mp h with e | h
    · rw [← e, if_pos rfl]
    · rw [if_neg (fun e => nd.1 (List.mem_map.mpr ⟨(x, sp), h, e⟩))]
      exact look_at nd.2 h
theorem all_mk {l : PySem.W.OpenLaw} {w : World} {K : PySem.W.Frag} {h : Heap} {mg : Str → Option Value} {u6 u7 : Tok} {fa dC f_isint f_btw f_name f_tup f_asc f_part f_next f_isstate f_states f_names f_quest f_takes f_asub f_awd f_aarr f_awalk f_acyc f_amat f_aperm f_atree f_astr f_lets f_acho f_query f_deck f_draw f_pick f_lnames f_rowqs f_walkqs f_strqs f_partqs f_nested f_queries f_order f_auto f_counts f_leaf f_few f_space f_isidx f_isname f_behind f_isrow f_iswalk f_isstr f_isleaf f_due f_other f_changed f_right f_law : Addr} {d_isint d_btw d_name d_tup d_asc d_part d_next d_isstate d_states d_names d_quest d_takes d_asub d_awd d_aarr d_awalk d_acyc d_amat d_aperm d_atree d_astr d_lets d_acho d_query d_deck d_draw d_pick d_lnames d_rowqs d_walkqs d_strqs d_partqs d_nested d_queries d_order d_auto d_counts d_leaf d_few d_space d_isidx d_isname d_behind d_isrow d_iswalk d_isstr d_isleaf d_due d_other d_changed d_right d_law : FuncData} {esC : Array DictEntry} {mC : Nat} (X : K.In h) (G : h.Ns mainGlobals mg) (hfa : mg "law" = some (.ref fa))
    (n0 : PySem.W.nsIn K mainGlobals "isinstance" = some none)
    (n1 : PySem.W.nsIn K mainGlobals "int" = some none)
    (n2 : PySem.W.nsIn K mainGlobals "bool" = some none)
    (n3 : PySem.W.nsIn K mainGlobals "str" = some none)
    (n4 : PySem.W.nsIn K mainGlobals "tuple" = some none)
    (n5 : PySem.W.nsIn K mainGlobals "len" = some none)
    (n6 : PySem.W.nsIn K mainGlobals "list" = some none)
    (n7 : PySem.W.nsIn K mainGlobals "range" = some none)
    (n8 : PySem.W.nsIn K mainGlobals "repr" = some none)
    (n9 : PySem.W.nsIn K mainGlobals "all" = some none)
    (n10 : PySem.W.nsIn K mainGlobals "any" = some none)
    (n11 : PySem.W.nsIn K mainGlobals "zip" = some none)
    (n12 : PySem.W.nsIn K mainGlobals "sum" = some none)
    (n13 : PySem.W.nsIn K mainGlobals "enumerate" = some none)
    (n14 : PySem.W.nsIn K mainGlobals "dict" = some none)
    (nmn : PySem.W.nsIn K mainGlobals "min" = some none)
    (nmx : PySem.W.nsIn K mainGlobals "max" = some none)
    (nso : PySem.W.nsIn K mainGlobals "sorted" = some none)
    (nse : PySem.W.nsIn K mainGlobals "set" = some none)
    (eS : PySem.W.nsIn K cStatics "sys.int_max_str_digits" = some none)
    (c6 : PySem.W.nsIn K mainGlobals "LONGEST_NAME" = some (some (.int 6 u6)))
    (c7 : PySem.W.nsIn K mainGlobals "LAST_STATE" = some (some (.int 7 u7)))
    (o_isint : DefOk K mg "is_integer" sIsInt ["value"] f_isint d_isint)
    (o_btw : DefOk K mg "is_between" sBtw ["value", "low", "high"] f_btw d_btw)
    (o_name : DefOk K mg "is_name" sName ["value"] f_name d_name)
    (o_tup : DefOk K mg "is_tuple" sTup ["value", "least", "most"] f_tup d_tup)
    (o_asc : DefOk K mg "is_ascending" sAsc ["items"] f_asc d_asc)
    (o_part : DefOk K mg "part_at" s_part ["space", "path"] f_part d_part)
    (o_next : DefOk K mg "next_part" s_next ["part", "step"] f_next d_next)
    (o_isstate : DefOk K mg "is_state" sIsState ["value"] f_isstate d_isstate)
    (o_states : DefOk K mg "are_states" sAreStates ["value"] f_states d_states)
    (o_names : DefOk K mg "names_of" sNames ["order"] f_names d_names)
    (o_quest : DefOk K mg "is_question" s_quest ["part", "question"] f_quest d_quest)
    (o_takes : DefOk K mg "takes_index" s_takes ["tops", "word", "arguments"] f_takes d_takes)
    (o_asub : DefOk K mg "asks_subset" s_asubset ["part", "word", "arguments"] f_asub d_asub)
    (o_awd : DefOk K mg "asks_word" s_aword ["part", "word", "arguments"] f_awd d_awd)
    (o_aarr : DefOk K mg "asks_arrangement" s_aarr ["part", "word", "arguments"] f_aarr d_aarr)
    (o_awalk : DefOk K mg "asks_walk" s_awalk ["part", "word", "arguments"] f_awalk d_awalk)
    (o_acyc : DefOk K mg "asks_cycle" s_acycle ["part", "word", "arguments"] f_acyc d_acyc)
    (o_amat : DefOk K mg "asks_matching" s_amatch ["part", "word", "arguments"] f_amat d_amat)
    (o_aperm : DefOk K mg "asks_permutation" s_aperm ["part", "word", "arguments"] f_aperm d_aperm)
    (o_atree : DefOk K mg "asks_tree" s_atree ["part", "word", "arguments"] f_atree d_atree)
    (o_astr : DefOk K mg "asks_string" s_astr ["part", "word", "arguments"] f_astr d_astr)
    (o_lets : DefOk K mg "are_letters" s_lets ["value"] f_lets d_lets)
    (o_acho : DefOk K mg "asks_choice" s_achoice ["part", "word", "arguments"] f_acho d_acho)
    (o_query : DefOk K mg "is_query" s_query ["space", "value"] f_query d_query)
    (o_deck : DefOk K mg "_law_deck" sDeck ["_law_script"] f_deck d_deck)
    (o_draw : DefOk K mg "_law_draw" sDraw ["_law_deck_here", "_law_bound"] f_draw d_draw)
    (o_pick : DefOk K mg "_law_pick" sPick ["_law_deck_here", "_law_items"] f_pick d_pick)
    (o_lnames : DefOk K mg "_law_names" K9.s_names ["_law_order_here"] f_lnames d_lnames)
    (o_rowqs : DefOk K mg "_law_row_queries" s_row_queries ["_law_part"] f_rowqs d_rowqs)
    (o_walkqs : DefOk K mg "_law_walk_queries" s_walk_queries ["_law_part"] f_walkqs d_walkqs)
    (o_strqs : DefOk K mg "_law_string_queries" s_string_queries ["_law_part"] f_strqs d_strqs)
    (o_partqs : DefOk K mg "_law_part_queries" s_part_queries ["_law_part"] f_partqs d_partqs)
    (o_nested : DefOk K mg "_law_nested" s_nested ["_law_part"] f_nested d_nested)
    (o_queries : DefOk K mg "_law_queries" s_queries ["_law_domain"] f_queries d_queries)
    (o_order : DefOk K mg "_law_order" s_order ["_law_deck_here", "_law_names_here"] f_order d_order)
    (o_auto : DefOk K mg "_law_automaton" s_automaton ["_law_deck_here"] f_auto d_auto)
    (o_counts : DefOk K mg "_law_counts" s_counts ["_law_deck_here", "_law_most"] f_counts d_counts)
    (o_leaf : DefOk K mg "_law_leaf" s_leaf ["_law_deck_here", "_law_sort"] f_leaf d_leaf)
    (o_few : DefOk K mg "_law_few" s_few ["_law_deck_here"] f_few d_few)
    (o_space : DefOk K mg "_law_space" s_space ["_law_deck_here"] f_space d_space)
    (o_isidx : DefOk K mg "_law_is_index" s_is_index ["_law_given", "_law_bound"] f_isidx d_isidx)
    (o_isname : DefOk K mg "_law_is_name" s_is_name ["_law_given"] f_isname d_isname)
    (o_behind : DefOk K mg "_law_part_behind" s_part_behind ["_law_part", "_law_step"] f_behind d_behind)
    (o_isrow : DefOk K mg "_law_is_row_query" s_is_row_query ["_law_part", "_law_words"] f_isrow d_isrow)
    (o_iswalk : DefOk K mg "_law_is_walk_query" s_is_walk_query ["_law_part", "_law_words"] f_iswalk d_iswalk)
    (o_isstr : DefOk K mg "_law_is_string_query" s_is_string_query ["_law_part", "_law_words"] f_isstr d_isstr)
    (o_isleaf : DefOk K mg "_law_is_leaf_query" s_is_leaf_query ["_law_part", "_law_words"] f_isleaf d_isleaf)
    (o_due : DefOk K mg "_law_is_due" s_is_due ["_law_domain", "_law_given"] f_due d_due)
    (o_other : DefOk K mg "_law_other" s_other ["_law_deck_here", "_law_given"] f_other d_other)
    (o_changed : DefOk K mg "_law_changed" s_changed ["_law_deck_here", "_law_given"] f_changed d_changed)
    (o_right : DefOk K mg "_law_right" s_right ["_law_domain", "_law_given"] f_right d_right)
    (o_law : DefOk K mg "law" s_law ["_law_script"] f_law d_law)
    (gC : PySem.W.nsIn K mainGlobals "CHECKS" = some (some (.ref dC)))
    (aC : K.lookup dC = some ⟨.type "dict", none, .dict esC mC, #[]⟩)
    (kC : PySem.W.KeysLit w.params esC.toList)
    (wC : (dC == sysModules) = false)
    (r1 : PySem.W.nsIn K dC "subset" = some (some (.ref f_asub)))
    (r2 : PySem.W.nsIn K dC "word" = some (some (.ref f_awd)))
    (r3 : PySem.W.nsIn K dC "arrangement" = some (some (.ref f_aarr)))
    (r4 : PySem.W.nsIn K dC "walk" = some (some (.ref f_awalk)))
    (r5 : PySem.W.nsIn K dC "cycle" = some (some (.ref f_acyc)))
    (r6 : PySem.W.nsIn K dC "matching" = some (some (.ref f_amat)))
    (r7 : PySem.W.nsIn K dC "permutation" = some (some (.ref f_aperm)))
    (r8 : PySem.W.nsIn K dC "tree" = some (some (.ref f_atree)))
    (r9 : PySem.W.nsIn K dC "string" = some (some (.ref f_astr)))
    (r10 : PySem.W.nsIn K dC "choice" = some (some (.ref f_acho)))
    (r11 : PySem.W.nsIn K dC "decorated" = some (some (.ref f_awd)))
    (m1 : PySem.W.nsIn K dC "product" = some none)
    (m2 : PySem.W.nsIn K dC "power" = some none)
    (nd : [f_asub, f_awd, f_aarr, f_awalk, f_acyc, f_amat, f_aperm, f_atree, f_astr, f_acho].Nodup)
    (hkb : ∀ (s : Shared) (u v : Value), BindsTo s d_query ⟨[], [("value", u), ("space", v)]⟩ [("space", v), ("value", u)])
    (hbind : ∀ (s : Shared) (u : Value), BindsTo s d_law ⟨[u], []⟩ [("_law_script", u)]) :
    ∃ fd : FuncData, (∀ (s : Shared) (u : Value), BindsTo s fd ⟨[u], []⟩ [("_law_script", u)]) ∧ ∀ base : Heap, K.In base → base.Ns mainGlobals mg → FnG l.prog w K mg base 12 fa fd ["_law_script"] (spLaw K) := by
  have e := hfa.symm.trans o_law.g
  cases e
  have T : Nm mg := ⟨PySem.W.mg_none_of X G n0, PySem.W.mg_none_of X G n1, PySem.W.mg_none_of X G n2, PySem.W.mg_none_of X G n3, PySem.W.mg_none_of X G n4, PySem.W.mg_none_of X G n5, PySem.W.mg_none_of X G n6, PySem.W.mg_none_of X G n7, PySem.W.mg_none_of X G n8, PySem.W.mg_none_of X G n9, PySem.W.mg_none_of X G n10, PySem.W.mg_none_of X G n11, PySem.W.mg_none_of X G n12, PySem.W.mg_none_of X G n13, PySem.W.mg_none_of X G n14⟩
  have hmn : mg "min" = none := PySem.W.mg_none_of X G nmn
  have hmx : mg "max" = none := PySem.W.mg_none_of X G nmx
  have Ts : mg "sorted" = none := PySem.W.mg_none_of X G nso
  have Te : mg "set" = none := PySem.W.mg_none_of X G nse
  have kb : KBinds K d_query ["space", "value"] ["value", "space"] swK swK := kb_sw hkb
  have z6 : ∃ t, mg "LONGEST_NAME" = some (.int 6 t) := ⟨_, PySem.W.mg_of X G c6⟩
  have z7 : ∃ t, mg "LAST_STATE" = some (.int 7 t) := ⟨_, PySem.W.mg_of X G c7⟩
  refine ⟨d_law, hbind, fun base _ _ => ?_⟩
  have GB : FnOk l.prog w K mg base CX0 2 f_btw d_btw ["value", "low", "high"] spBtw := ok_btw o_btw.F T o_isint
  have GTu : FnOk l.prog w K mg base CX0 1 f_tup d_tup ["value", "least", "most"] spTup := ok_tup o_tup.F T
  have GNm : FnOk l.prog w K mg base CX0 1 f_name d_name ["value"] (spP nameB) := ok_name o_name.F T z6
  have GAs : FnOk l.prog w K mg base CX0 1 f_asc d_asc ["items"] (fun vs H Q E => spAsc vs H Q E ∧ ∀ a xs, (H a = some (.lst xs) ∨ TP H a xs) → vs = [.ref a] → xs.length < 1000000) := ok_asc o_asc.F T
  have GSt : FnOk l.prog w K mg base CX0 3 f_isstate d_isstate ["value"] (spP (btw 0 7)) := ok_state o_isstate.F z7 o_btw GB
  have GSs : FnOk l.prog w K mg base CX0 4 f_states d_states ["value"] (spP statesB) := ok_states o_states.F T z7 o_tup o_asc GTu GAs o_isstate GSt
  have GNa : FnOk l.prog w K mg base CX0 7 f_names d_names ["order"] (spNames 6) := ok_names o_names.F o_names.b o_names.g 6
  have GLt : FnOk l.prog w K mg base CX0 2 f_lets d_lets ["value"] spLets := ok_lets o_lets.F T o_name o_asc GNm GAs
  have GN : FnOk l.prog w K mg base CX0 3 f_next d_next ["part", "step"] (spNext Y9) := ok_next o_next.F T o_tup o_btw GB
  have GP : FnOk l.prog w K mg base CX0 4 f_part d_part ["space", "path"] (spPart Y9) := ok_part o_part.F T o_next GN
  have GT : FnOk l.prog w K mg base CX0 3 f_takes d_takes ["tops", "word", "arguments"] spTakes := ok_takes o_takes.F T o_btw GB
  have H1 : FnOk l.prog w K mg base CX0 8 f_asub d_asub ["part", "word", "arguments"] aSub := fn_ex fun x : Nat × Nat => (fn_short (ok_asubset o_asub.F o_takes GT)).mono (by decide)
  have H2 : FnOk l.prog w K mg base CX0 8 f_awd d_awd ["part", "word", "arguments"] aWord := fn_ex fun cs : { cs : Cn // cs.length ≤ 100 } => (fn_short (ok_aword o_awd.F T o_takes GT o_btw GB cs.2)).mono (by decide)
  have H3 : FnOk l.prog w K mg base CX0 8 f_aarr d_aarr ["part", "word", "arguments"] aArr := fn_ex fun o : PyData => fn_short (ok_aarr o_aarr.F T o_takes GT o_names GNa)
  have H4 : FnOk l.prog w K mg base CX0 8 f_awalk d_awalk ["part", "word", "arguments"] aWalk := fn_ex fun x : Int × Int × Int => (fn_short (ok_awalk o_awalk.F T o_takes GT o_btw GB o_isint)).mono (by decide)
  have H5 : FnOk l.prog w K mg base CX0 8 f_acyc d_acyc ["part", "word", "arguments"] aCyc := fn_ex fun n : Int => (fn_short (ok_acycle o_acyc.F o_takes GT)).mono (by decide)
  have H6 : FnOk l.prog w K mg base CX0 8 f_amat d_amat ["part", "word", "arguments"] aMat := fn_ex fun n : { n : Int // 0 ≤ n ∧ n ≤ 1000 } => (fn_short (ok_amatch o_amat.F o_takes GT n.2)).mono (by decide)
  have H7 : FnOk l.prog w K mg base CX0 8 f_aperm d_aperm ["part", "word", "arguments"] aPerm := fn_ex fun n : Int => (fn_short (ok_aperm o_aperm.F o_takes GT)).mono (by decide)
  have H8 : FnOk l.prog w K mg base CX0 8 f_atree d_atree ["part", "word", "arguments"] aTree := fn_ex fun n : Int => (fn_short (ok_atree o_atree.F o_takes GT)).mono (by decide)
  have H9 : FnOk l.prog w K mg base CX0 8 f_astr d_astr ["part", "word", "arguments"] aStr := fn_ex fun n : Int => (ok_astr o_astr.F T o_takes GT o_btw GB o_lets GLt o_states GSs).mono (by decide)
  have H10 : FnOk l.prog w K mg base CX0 8 f_acho d_acho ["part", "word", "arguments"] aCho := (fn_short (ok_achoice o_acho.F T)).mono (by decide)
  have nd' : ((([(f_asub, aSub), (f_awd, aWord), (f_aarr, aArr), (f_awalk, aWalk), (f_acyc, aCyc), (f_amat, aMat), (f_aperm, aPerm), (f_atree, aTree), (f_astr, aStr), (f_acho, aCho)] : List (Addr × Sp))).map (·.1)).Nodup := nd
  have Z : Tab l.prog w K mg base dC (look [(f_asub, aSub), (f_awd, aWord), (f_aarr, aArr), (f_awalk, aWalk), (f_acyc, aCyc), (f_amat, aMat), (f_aperm, aPerm), (f_atree, aTree), (f_astr, aStr), (f_acho, aCho)]) := {
    Z := {
      g := PySem.W.mg_of X G gC
      k := ⟨_, _, aC, kC, wC⟩
      held := fun f sp hs => by
        have hm := look_mem hs
        simp only [List.mem_cons, List.not_mem_nil, or_false] at hm
        rcases hm with e | e | e | e | e | e | e | e | e | e
        · cases e
          exact ⟨_, _, H1, o_asub.F.kp, o_asub.b⟩
        · cases e
          exact ⟨_, _, H2, o_awd.F.kp, o_awd.b⟩
        · cases e
          exact ⟨_, _, H3, o_aarr.F.kp, o_aarr.b⟩
        · cases e
          exact ⟨_, _, H4, o_awalk.F.kp, o_awalk.b⟩
        · cases e
          exact ⟨_, _, H5, o_acyc.F.kp, o_acyc.b⟩
        · cases e
          exact ⟨_, _, H6, o_amat.F.kp, o_amat.b⟩
        · cases e
          exact ⟨_, _, H7, o_aperm.F.kp, o_aperm.b⟩
        · cases e
          exact ⟨_, _, H8, o_atree.F.kp, o_atree.b⟩
        · cases e
          exact ⟨_, _, H9, o_astr.F.kp, o_astr.b⟩
        · cases e
          exact ⟨_, _, H10, o_acho.F.kp, o_acho.b⟩
    }
    n1 := m1
    n2 := m2
    s1 := ⟨_, r1, look_at nd' (by simp)⟩
    s2 := ⟨_, r2, look_at nd' (by simp)⟩
    s3 := ⟨_, r3, look_at nd' (by simp)⟩
    s4 := ⟨_, r4, look_at nd' (by simp)⟩
    s5 := ⟨_, r5, look_at nd' (by simp)⟩
    s6 := ⟨_, r6, look_at nd' (by simp)⟩
    s7 := ⟨_, r7, look_at nd' (by simp)⟩
    s8 := ⟨_, r8, look_at nd' (by simp)⟩
    s9 := ⟨_, r9, look_at nd' (by simp)⟩
    s10 := ⟨_, r10, look_at nd' (by simp)⟩
    s11 := ⟨_, r11, look_at nd' (by simp)⟩ }
  have GQ : FnOk l.prog w K mg base CX0 9 f_quest d_quest ["part", "question"] (spQuestI Y9) := ok_questI o_quest.F T Z
  have GY : FnOk l.prog w K mg base CX0 10 f_query d_query ["space", "value"] (spQuery Y9) := ok_query o_query.F T o_part GP o_quest GQ
  have Gleaf : FnOk l.prog w K mg base CX0 9 f_leaf d_leaf ["_law_deck_here", "_law_sort"] spLeaf := okl_leaf o_leaf.F T hmn hmx o_draw o_pick o_counts o_order o_auto
  have Gfew : FnOk l.prog w K mg base CX0 3 f_few d_few ["_law_deck_here"] spFew := okl_few o_few.F T o_draw o_pick
  have Gspace : FnOk l.prog w K mg base CX0 10 f_space d_space ["_law_deck_here"] spSpace := okl_space o_space.F T o_draw o_leaf Gleaf o_few Gfew
  have Growqs : FnOk l.prog w K mg base CX0 8 f_rowqs d_rowqs ["_law_part"] spRowQs := okl_rowq o_rowqs.F T Ts o_lnames
  have Gwalkqs : FnOk l.prog w K mg base CX0 1 f_walkqs d_walkqs ["_law_part"] spWalkQs := okl_walkqs o_walkqs.F T
  have Gstrqs : FnOk l.prog w K mg base CX0 1 f_strqs d_strqs ["_law_part"] spStrQs := okl_strqs o_strqs.F T Ts Te
  have Gpartqs : FnOk l.prog w K mg base CX0 9 f_partqs d_partqs ["_law_part"] spPartQs := okl_partqs o_partqs.F T o_rowqs Growqs o_walkqs Gwalkqs o_strqs Gstrqs
  have Gqueries : FnOk l.prog w K mg base CX0 10 f_queries d_queries ["_law_domain"] spQueries := okl_queries o_queries.F T o_partqs Gpartqs o_nested
  have Gother : FnOk l.prog w K mg base CX0 3 f_other d_other ["_law_deck_here", "_law_given"] spOther := okl_other o_other.F T o_draw o_pick
  have Gch4 : FnOk l.prog w K mg base CX0 8 f_changed d_changed ["_law_deck_here", "_law_given"] (spChg 4) := okl_changed o_changed.F o_changed.b o_changed.g T o_draw o_other Gother 4
  have Gch6 : FnOk l.prog w K mg base CX0 10 f_changed d_changed ["_law_deck_here", "_law_given"] (spChg 6) := okl_changed o_changed.F o_changed.b o_changed.g T o_draw o_other Gother 6
  have Gbehind : FnG l.prog w K mg base 4 f_behind d_behind ["_law_part", "_law_step"] spBehind := okl_behind o_behind.F T o_nested eS
  have Gisrow : FnOk l.prog w K mg base CX0 2 f_isrow d_isrow ["_law_part", "_law_words"] spRowQ := okl_row o_isrow.F T o_isidx
  have Giswalk : FnOk l.prog w K mg base CX0 2 f_iswalk d_iswalk ["_law_part", "_law_words"] spWalkQ := okl_walkq o_iswalk.F T o_isidx
  have Gisstr : FnOk l.prog w K mg base CX0 2 f_isstr d_isstr ["_law_part", "_law_words"] spStrQ := okl_strq o_isstr.F T Ts Te o_isidx o_isname
  have Gisleaf : FnOk l.prog w K mg base CX0 8 f_isleaf d_isleaf ["_law_part", "_law_words"] spLeafQ := okl_leafq o_isleaf.F T o_isidx o_lnames
  have Gdue : FnG l.prog w K mg base 9 f_due d_due ["_law_domain", "_law_given"] spDue := okl_due o_due.F T o_behind Gbehind o_isrow Gisrow o_iswalk Giswalk o_isstr Gisstr o_isleaf Gisleaf
  have Gright : FnG l.prog w K mg base 11 f_right d_right ["_law_domain", "_law_given"] spRight := okl_right o_right.F T eS o_due Gdue o_query GY kb
  exact okl_law o_law.F T o_deck o_draw o_pick o_space Gspace o_queries Gqueries o_changed Gch4 Gch6 o_right Gright
theorem law_sp (K : PySem.W.Frag) (H : Hp) (a : Addr) (ns : List Int) (hl : ns.length ≤ 63) (_ : Only H) (hS : SqL K H a (ns.map V.int)) : spLaw K [.ref a] H (fun v _ => v = .bl true) fun _ _ _ => False := ⟨a, ns, rfl, hS, hl, fun _ => rfl⟩
end K9
open PySem PySem.W PyProof.Rows
set_option maxRecDepth 100000 in
set_option maxHeartbeats 0 in
theorem PySem.Challenge.cw_undrawn_k09_queries_of_any_value_holds : PySem.Challenge.rw_undrawn_k09_queries_of_any_value.Holds := by
  w_on; o_law; k_head; (case hw => w_witness2)
  k_fill
  refine L2.walk_G (l := PySem.Challenge.rw_undrawn_k09_queries_of_any_value) (n := 63) (k := 12) (x := "_law_script") (sp := K9.spLaw) rfl (by decide) rfl ⟨rfl, by decide, by decide⟩ (fun w h Y => PySem.W.kIn_of Y) ?F K9.law_sp
  case F =>
    intro w mg fa h KX G hmg
    refine' K9.all_mk KX G hmg ?n0 ?n1 ?n2 ?n3 ?n4 ?n5 ?n6 ?n7 ?n8 ?n9 ?n10 ?n11 ?n12 ?n13 ?n14 ?nmn ?nmx ?nso ?nse ?eS ?c6 ?c7 ?o_isint ?o_btw ?o_name ?o_tup ?o_asc ?o_part ?o_next ?o_isstate ?o_states ?o_names ?o_quest ?o_takes ?o_asub ?o_awd ?o_aarr ?o_awalk ?o_acyc ?o_amat ?o_aperm ?o_atree ?o_astr ?o_lets ?o_acho ?o_query ?o_deck ?o_draw ?o_pick ?o_lnames ?o_rowqs ?o_walkqs ?o_strqs ?o_partqs ?o_nested ?o_queries ?o_order ?o_auto ?o_counts ?o_leaf ?o_few ?o_space ?o_isidx ?o_isname ?o_behind ?o_isrow ?o_iswalk ?o_isstr ?o_isleaf ?o_due ?o_other ?o_changed ?o_right ?o_law ?gC ?aC ?kC ?wC ?r1 ?r2 ?r3 ?r4 ?r5 ?r6 ?r7 ?r8 ?r9 ?r10 ?r11 ?m1 ?m2 ?nd ?hkb ?hbind
    (case n0 => k_is)
    (case n1 => k_is)
    (case n2 => k_is)
    (case n3 => k_is)
    (case n4 => k_is)
    (case n5 => k_is)
    (case n6 => k_is)
    (case n7 => k_is)
    (case n8 => k_is)
    (case n9 => k_is)
    (case n10 => k_is)
    (case n11 => k_is)
    (case n12 => k_is)
    (case n13 => k_is)
    (case n14 => k_is)
    (case nmn => k_is)
    (case nmx => k_is)
    (case nso => k_is)
    (case nse => k_is)
    (case eS => k_is)
    (case c6 => k_is)
    (case c7 => k_is)
    (case o_isint => refine' K9.def_mk KX G ?a ?l ?c ?k (fun _ _ _ _ _ _ us hl => match us, hl with | [_], _ => rfl); (case a => k_is); (case l => k_is); (case c => k_is); (case k => k_is))
    (case o_btw => refine' K9.def_mk KX G ?a ?l ?c ?k (fun _ _ _ _ _ _ us hl => match us, hl with | [_, _, _], _ => rfl); (case a => k_is); (case l => k_is); (case c => k_is); (case k => k_is))
    (case o_name => refine' K9.def_mk KX G ?a ?l ?c ?k (fun _ _ _ _ _ _ us hl => match us, hl with | [_], _ => rfl); (case a => k_is); (case l => k_is); (case c => k_is); (case k => k_is))
    (case o_tup => refine' K9.def_mk KX G ?a ?l ?c ?k (fun _ _ _ _ _ _ us hl => match us, hl with | [_, _, _], _ => rfl); (case a => k_is); (case l => k_is); (case c => k_is); (case k => k_is))
    (case o_asc => refine' K9.def_mk KX G ?a ?l ?c ?k (fun _ _ _ _ _ _ us hl => match us, hl with | [_], _ => rfl); (case a => k_is); (case l => k_is); (case c => k_is); (case k => k_is))
    (case o_part => refine' K9.def_mk KX G ?a ?l ?c ?k (fun _ _ _ _ _ _ us hl => match us, hl with | [_, _], _ => rfl); (case a => k_is); (case l => k_is); (case c => k_is); (case k => k_is))
    (case o_next => refine' K9.def_mk KX G ?a ?l ?c ?k (fun _ _ _ _ _ _ us hl => match us, hl with | [_, _], _ => rfl); (case a => k_is); (case l => k_is); (case c => k_is); (case k => k_is))
    (case o_isstate => refine' K9.def_mk KX G ?a ?l ?c ?k (fun _ _ _ _ _ _ us hl => match us, hl with | [_], _ => rfl); (case a => k_is); (case l => k_is); (case c => k_is); (case k => k_is))
    (case o_states => refine' K9.def_mk KX G ?a ?l ?c ?k (fun _ _ _ _ _ _ us hl => match us, hl with | [_], _ => rfl); (case a => k_is); (case l => k_is); (case c => k_is); (case k => k_is))
    (case o_names => refine' K9.def_mk KX G ?a ?l ?c ?k (fun _ _ _ _ _ _ us hl => match us, hl with | [_], _ => rfl); (case a => k_is); (case l => k_is); (case c => k_is); (case k => k_is))
    (case o_quest => refine' K9.def_mk KX G ?a ?l ?c ?k (fun _ _ _ _ _ _ us hl => match us, hl with | [_, _], _ => rfl); (case a => k_is); (case l => k_is); (case c => k_is); (case k => k_is))
    (case o_takes => refine' K9.def_mk KX G ?a ?l ?c ?k (fun _ _ _ _ _ _ us hl => match us, hl with | [_, _, _], _ => rfl); (case a => k_is); (case l => k_is); (case c => k_is); (case k => k_is))
    (case o_asub => refine' K9.def_mk KX G ?a ?l ?c ?k (fun _ _ _ _ _ _ us hl => match us, hl with | [_, _, _], _ => rfl); (case a => k_is); (case l => k_is); (case c => k_is); (case k => k_is))
    (case o_awd => refine' K9.def_mk KX G ?a ?l ?c ?k (fun _ _ _ _ _ _ us hl => match us, hl with | [_, _, _], _ => rfl); (case a => k_is); (case l => k_is); (case c => k_is); (case k => k_is))
    (case o_aarr => refine' K9.def_mk KX G ?a ?l ?c ?k (fun _ _ _ _ _ _ us hl => match us, hl with | [_, _, _], _ => rfl); (case a => k_is); (case l => k_is); (case c => k_is); (case k => k_is))
    (case o_awalk => refine' K9.def_mk KX G ?a ?l ?c ?k (fun _ _ _ _ _ _ us hl => match us, hl with | [_, _, _], _ => rfl); (case a => k_is); (case l => k_is); (case c => k_is); (case k => k_is))
    (case o_acyc => refine' K9.def_mk KX G ?a ?l ?c ?k (fun _ _ _ _ _ _ us hl => match us, hl with | [_, _, _], _ => rfl); (case a => k_is); (case l => k_is); (case c => k_is); (case k => k_is))
    (case o_amat => refine' K9.def_mk KX G ?a ?l ?c ?k (fun _ _ _ _ _ _ us hl => match us, hl with | [_, _, _], _ => rfl); (case a => k_is); (case l => k_is); (case c => k_is); (case k => k_is))
    (case o_aperm => refine' K9.def_mk KX G ?a ?l ?c ?k (fun _ _ _ _ _ _ us hl => match us, hl with | [_, _, _], _ => rfl); (case a => k_is); (case l => k_is); (case c => k_is); (case k => k_is))
    (case o_atree => refine' K9.def_mk KX G ?a ?l ?c ?k (fun _ _ _ _ _ _ us hl => match us, hl with | [_, _, _], _ => rfl); (case a => k_is); (case l => k_is); (case c => k_is); (case k => k_is))
    (case o_astr => refine' K9.def_mk KX G ?a ?l ?c ?k (fun _ _ _ _ _ _ us hl => match us, hl with | [_, _, _], _ => rfl); (case a => k_is); (case l => k_is); (case c => k_is); (case k => k_is))
    (case o_lets => refine' K9.def_mk KX G ?a ?l ?c ?k (fun _ _ _ _ _ _ us hl => match us, hl with | [_], _ => rfl); (case a => k_is); (case l => k_is); (case c => k_is); (case k => k_is))
    (case o_acho => refine' K9.def_mk KX G ?a ?l ?c ?k (fun _ _ _ _ _ _ us hl => match us, hl with | [_, _, _], _ => rfl); (case a => k_is); (case l => k_is); (case c => k_is); (case k => k_is))
    (case o_query => refine' K9.def_mk KX G ?a ?l ?c ?k (fun _ _ _ _ _ _ us hl => match us, hl with | [_, _], _ => rfl); (case a => k_is); (case l => k_is); (case c => k_is); (case k => k_is))
    (case o_deck => refine' K9.def_mk KX G ?a ?l ?c ?k (fun _ _ _ _ _ _ us hl => match us, hl with | [_], _ => rfl); (case a => k_is); (case l => k_is); (case c => k_is); (case k => k_is))
    (case o_draw => refine' K9.def_mk KX G ?a ?l ?c ?k (fun _ _ _ _ _ _ us hl => match us, hl with | [_, _], _ => rfl); (case a => k_is); (case l => k_is); (case c => k_is); (case k => k_is))
    (case o_pick => refine' K9.def_mk KX G ?a ?l ?c ?k (fun _ _ _ _ _ _ us hl => match us, hl with | [_, _], _ => rfl); (case a => k_is); (case l => k_is); (case c => k_is); (case k => k_is))
    (case o_lnames => refine' K9.def_mk KX G ?a ?l ?c ?k (fun _ _ _ _ _ _ us hl => match us, hl with | [_], _ => rfl); (case a => k_is); (case l => k_is); (case c => k_is); (case k => k_is))
    (case o_rowqs => refine' K9.def_mk KX G ?a ?l ?c ?k (fun _ _ _ _ _ _ us hl => match us, hl with | [_], _ => rfl); (case a => k_is); (case l => k_is); (case c => k_is); (case k => k_is))
    (case o_walkqs => refine' K9.def_mk KX G ?a ?l ?c ?k (fun _ _ _ _ _ _ us hl => match us, hl with | [_], _ => rfl); (case a => k_is); (case l => k_is); (case c => k_is); (case k => k_is))
    (case o_strqs => refine' K9.def_mk KX G ?a ?l ?c ?k (fun _ _ _ _ _ _ us hl => match us, hl with | [_], _ => rfl); (case a => k_is); (case l => k_is); (case c => k_is); (case k => k_is))
    (case o_partqs => refine' K9.def_mk KX G ?a ?l ?c ?k (fun _ _ _ _ _ _ us hl => match us, hl with | [_], _ => rfl); (case a => k_is); (case l => k_is); (case c => k_is); (case k => k_is))
    (case o_nested => refine' K9.def_mk KX G ?a ?l ?c ?k (fun _ _ _ _ _ _ us hl => match us, hl with | [_], _ => rfl); (case a => k_is); (case l => k_is); (case c => k_is); (case k => k_is))
    (case o_queries => refine' K9.def_mk KX G ?a ?l ?c ?k (fun _ _ _ _ _ _ us hl => match us, hl with | [_], _ => rfl); (case a => k_is); (case l => k_is); (case c => k_is); (case k => k_is))
    (case o_order => refine' K9.def_mk KX G ?a ?l ?c ?k (fun _ _ _ _ _ _ us hl => match us, hl with | [_, _], _ => rfl); (case a => k_is); (case l => k_is); (case c => k_is); (case k => k_is))
    (case o_auto => refine' K9.def_mk KX G ?a ?l ?c ?k (fun _ _ _ _ _ _ us hl => match us, hl with | [_], _ => rfl); (case a => k_is); (case l => k_is); (case c => k_is); (case k => k_is))
    (case o_counts => refine' K9.def_mk KX G ?a ?l ?c ?k (fun _ _ _ _ _ _ us hl => match us, hl with | [_, _], _ => rfl); (case a => k_is); (case l => k_is); (case c => k_is); (case k => k_is))
    (case o_leaf => refine' K9.def_mk KX G ?a ?l ?c ?k (fun _ _ _ _ _ _ us hl => match us, hl with | [_, _], _ => rfl); (case a => k_is); (case l => k_is); (case c => k_is); (case k => k_is))
    (case o_few => refine' K9.def_mk KX G ?a ?l ?c ?k (fun _ _ _ _ _ _ us hl => match us, hl with | [_], _ => rfl); (case a => k_is); (case l => k_is); (case c => k_is); (case k => k_is))
    (case o_space => refine' K9.def_mk KX G ?a ?l ?c ?k (fun _ _ _ _ _ _ us hl => match us, hl with | [_], _ => rfl); (case a => k_is); (case l => k_is); (case c => k_is); (case k => k_is))
    (case o_isidx => refine' K9.def_mk KX G ?a ?l ?c ?k (fun _ _ _ _ _ _ us hl => match us, hl with | [_, _], _ => rfl); (case a => k_is); (case l => k_is); (case c => k_is); (case k => k_is))
    (case o_isname => refine' K9.def_mk KX G ?a ?l ?c ?k (fun _ _ _ _ _ _ us hl => match us, hl with | [_], _ => rfl); (case a => k_is); (case l => k_is); (case c => k_is); (case k => k_is))
    (case o_behind => refine' K9.def_mk KX G ?a ?l ?c ?k (fun _ _ _ _ _ _ us hl => match us, hl with | [_, _], _ => rfl); (case a => k_is); (case l => k_is); (case c => k_is); (case k => k_is))
    (case o_isrow => refine' K9.def_mk KX G ?a ?l ?c ?k (fun _ _ _ _ _ _ us hl => match us, hl with | [_, _], _ => rfl); (case a => k_is); (case l => k_is); (case c => k_is); (case k => k_is))
    (case o_iswalk => refine' K9.def_mk KX G ?a ?l ?c ?k (fun _ _ _ _ _ _ us hl => match us, hl with | [_, _], _ => rfl); (case a => k_is); (case l => k_is); (case c => k_is); (case k => k_is))
    (case o_isstr => refine' K9.def_mk KX G ?a ?l ?c ?k (fun _ _ _ _ _ _ us hl => match us, hl with | [_, _], _ => rfl); (case a => k_is); (case l => k_is); (case c => k_is); (case k => k_is))
    (case o_isleaf => refine' K9.def_mk KX G ?a ?l ?c ?k (fun _ _ _ _ _ _ us hl => match us, hl with | [_, _], _ => rfl); (case a => k_is); (case l => k_is); (case c => k_is); (case k => k_is))
    (case o_due => refine' K9.def_mk KX G ?a ?l ?c ?k (fun _ _ _ _ _ _ us hl => match us, hl with | [_, _], _ => rfl); (case a => k_is); (case l => k_is); (case c => k_is); (case k => k_is))
    (case o_other => refine' K9.def_mk KX G ?a ?l ?c ?k (fun _ _ _ _ _ _ us hl => match us, hl with | [_, _], _ => rfl); (case a => k_is); (case l => k_is); (case c => k_is); (case k => k_is))
    (case o_changed => refine' K9.def_mk KX G ?a ?l ?c ?k (fun _ _ _ _ _ _ us hl => match us, hl with | [_, _], _ => rfl); (case a => k_is); (case l => k_is); (case c => k_is); (case k => k_is))
    (case o_right => refine' K9.def_mk KX G ?a ?l ?c ?k (fun _ _ _ _ _ _ us hl => match us, hl with | [_, _], _ => rfl); (case a => k_is); (case l => k_is); (case c => k_is); (case k => k_is))
    (case o_law => refine' K9.def_mk KX G ?a ?l ?c ?k (fun _ _ _ _ _ _ us hl => match us, hl with | [_], _ => rfl); (case a => k_is); (case l => k_is); (case c => k_is); (case k => k_is))
    (case gC => k_is)
    (case aC => k_is)
    (case kC => k_keys)
    (case wC => decide)
    (case r1 => k_is)
    (case r2 => k_is)
    (case r3 => k_is)
    (case r4 => k_is)
    (case r5 => k_is)
    (case r6 => k_is)
    (case r7 => k_is)
    (case r8 => k_is)
    (case r9 => k_is)
    (case r10 => k_is)
    (case r11 => k_is)
    (case m1 => k_is)
    (case m2 => k_is)
    (case nd => decide)
    (case hkb => exact fun s u v => .of_eq rfl)
    (case hbind => exact fun s u => .of_eq rfl)
