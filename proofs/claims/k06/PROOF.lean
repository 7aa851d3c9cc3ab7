import PyProof.Rows.All
import Wide.All
import OpenK.AllK
import Wide.FinOn
import HandS.ForMost
import HandS.Style
import HandS.Codes
import HandS.Comp
import HandS.Iter
import HandS.Walk
import HandS.Text
import HandS.Zip
import HandS.IsInst
import HandS.TupAny
import KE.DataCmp
import PyProof.EqKinds
import HandS.Strs
import HandS.More
import HandS.CallLocal
import HandS.Wide
import HandS.WideBits
import KE.KMathGC
import HandS.Gcd
import HandS.Defaults
import HandS.Conv
import KE.GoesZip
import PyProof.Rows.Digits
import HandS.TryMany
import HandS.ExcOwn
import HandS.WordsExc
import HandS.TupMul
import PySem.Challenge.RW_undrawn_k06_sizes_of_large_spaces
set_option Elab.async false
set_option linter.all false
set_option maxRecDepth 100000
set_option maxHeartbeats 4000000
namespace K6
open PySem PySem.Spec PyProof.Rows L2
/-! ### the text by places -/
def top (i : Nat) : Stmt := PySem.Challenge.pw_undrawn_k06_sizes_of_large_spaces.main.body.getD i (.Pass ⟨0, 0, 0, 0⟩)
/-! ### any value that is made of None, bools, ints, texts, tuples, lists, empty dicts -/
mutual
inductive Dat (H : Hp) : V → PyData → Prop
  | non : Dat H .non .none
  | bl (b : Bool) : Dat H (.bl b) (.bool b)
  | int (i : Int) : Dat H (.int i) (.int i)
  | str (x : Str) : x.length ≤ 1000 → Dat H (.str x) (.str x)
  | lst {a : Addr} {xs : List V} {ds : List PyData} : H a = some (.lst xs) → DatAll H xs ds → Dat H (.ref a) (.list ds)
  | tup {a : Addr} {xs : List V} {ds : List PyData} : H a = some (.tup xs) → DatAll H xs ds → Dat H (.ref a) (.tuple ds)
  | d0 {a : Addr} : H a = some (.dK []) → Dat H (.ref a) (.dict [])
inductive DatAll (H : Hp) : List V → List PyData → Prop
  | nil : DatAll H [] []
  | cons {v : V} {vs : List V} {d : PyData} {ds : List PyData} : Dat H v d → DatAll H vs ds → DatAll H (v :: vs) (d :: ds)
end
mutual
theorem Dat.same {H H' : Hp} (S : Same H H') : ∀ {v : V} {d : PyData}, Dat H v d → Dat H' v d
  | _, _, .non => .non
  | _, _, .bl b => .bl b
  | _, _, .int i => .int i
  | _, _, .str x h => .str x h
  | _, _, .lst h t => .lst (S _ _ h) (DatAll.same S t)
  | _, _, .tup h t => .tup (S _ _ h) (DatAll.same S t)
  | _, _, .d0 h => .d0 (S _ _ h)
theorem DatAll.same {H H' : Hp} (S : Same H H') : ∀ {vs : List V} {ds : List PyData}, DatAll H vs ds → DatAll H' vs ds
  | _, _, .nil => .nil
  | _, _, .cons h t => .cons (Dat.same S h) (DatAll.same S t)
end
theorem DatAll.len {H : Hp} : ∀ {vs : List V} {ds : List PyData}, DatAll H vs ds → vs.length = ds.length
  | _, _, .nil => rfl
  | _, _, .cons _ t => congrArg (· + 1) (DatAll.len t)
theorem DatAll.get {H : Hp} : ∀ {xs : List V} {ds : List PyData} {j : Nat} {x : V}, DatAll H xs ds → xs[j]? = some x → ∃ d, ds[j]? = some d ∧ Dat H x d
  | _, _, _, _, .nil, e => by simp at e
  | _, _, 0, _, .cons t _, e => by
    simp at e
    subst e
    exact ⟨_, rfl, t⟩
  | _, _, j + 1, x, .cons _ ts, e => by
    obtain ⟨d, h1, h2⟩ := DatAll.get (j := j) (x := x) ts (by simpa using e)
    exact ⟨d, by simpa using h1, h2⟩
theorem DatAll.at {H : Hp} : ∀ {xs : List V} {ds : List PyData} {j : Nat} {d : PyData}, DatAll H xs ds → ds[j]? = some d → ∃ x, xs[j]? = some x ∧ Dat H x d
  | _, _, _, _, .nil, e => by simp at e
  | _, _, 0, _, .cons t _, e => by
    simp at e
    subst e
    exact ⟨_, rfl, t⟩
  | _, _, j + 1, x, .cons _ ts, e => by
    obtain ⟨d, h1, h2⟩ := DatAll.at (j := j) (d := x) ts (by simpa using e)
    exact ⟨d, by simpa using h1, h2⟩
/-- the type's name -/
def tyD : PyData → String
  | .none => "NoneType"
  | .bool _ => "bool"
  | .int _ => "int"
  | .str _ => "str"
  | .list _ => "list"
  | .tuple _ => "tuple"
  | .dict _ => "dict"
theorem Dat.ty {K : PySem.W.Frag} {H : Hp} {v : V} {d : PyData} (h : Dat H v d) : TyX K H v (.type (tyD d)) := by
  cases h with
  | non => exact .base .non
  | bl b => exact .base (.bl b)
  | int i => exact .base (.int i)
  | str x _ => exact .base (.str x)
  | lst h _ => exact .base (.lst h)
  | tup h _ => exact .base (.tup h)
  | d0 h => exact .base (.dK h)
/-! ### what the small predicates say of such values -/
def isInt : PyData → Bool
  | .int _ => true
  | _ => false
def isBool : PyData → Bool
  | .bool _ => true
  | _ => false
def isStr : PyData → Bool
  | .str _ => true
  | _ => false
def isTup : PyData → Bool
  | .tuple _ => true
  | _ => false
/-- an int from lo to hi -/
def btw (lo hi : Int) : PyData → Bool
  | .int i => decide (lo ≤ i) && decide (i ≤ hi)
  | _ => false
theorem kit_int (K : PySem.W.Frag) (d : PyData) : PySem.W.kitOne K (.type (tyD d)) (.type "int") = some (isInt d || isBool d) := by
  cases d with
  | none => exact kit_ty (a := "NoneType") (b := "int") (r := false) (by decide +kernel)
  | bool b => exact kit_ty (a := "bool") (b := "int") (r := true) (by decide +kernel)
  | int i => exact kit_ty (a := "int") (b := "int") (r := true) (by decide +kernel)
  | str x => exact kit_ty (a := "str") (b := "int") (r := false) (by decide +kernel)
  | list l => exact kit_ty (a := "list") (b := "int") (r := false) (by decide +kernel)
  | tuple l => exact kit_ty (a := "tuple") (b := "int") (r := false) (by decide +kernel)
  | dict l => exact kit_ty (a := "dict") (b := "int") (r := false) (by decide +kernel)
theorem kit_bool (K : PySem.W.Frag) (d : PyData) : PySem.W.kitOne K (.type (tyD d)) (.type "bool") = some (isBool d) := by
  cases d with
  | none => exact kit_ty (a := "NoneType") (b := "bool") (r := false) (by decide +kernel)
  | bool b => exact kit_ty (a := "bool") (b := "bool") (r := true) (by decide +kernel)
  | int i => exact kit_ty (a := "int") (b := "bool") (r := false) (by decide +kernel)
  | str x => exact kit_ty (a := "str") (b := "bool") (r := false) (by decide +kernel)
  | list l => exact kit_ty (a := "list") (b := "bool") (r := false) (by decide +kernel)
  | tuple l => exact kit_ty (a := "tuple") (b := "bool") (r := false) (by decide +kernel)
  | dict l => exact kit_ty (a := "dict") (b := "bool") (r := false) (by decide +kernel)
theorem kit_str (K : PySem.W.Frag) (d : PyData) : PySem.W.kitOne K (.type (tyD d)) (.type "str") = some (isStr d) := by
  cases d with
  | none => exact kit_ty (a := "NoneType") (b := "str") (r := false) (by decide +kernel)
  | bool b => exact kit_ty (a := "bool") (b := "str") (r := false) (by decide +kernel)
  | int i => exact kit_ty (a := "int") (b := "str") (r := false) (by decide +kernel)
  | str x => exact kit_ty (a := "str") (b := "str") (r := true) (by decide +kernel)
  | list l => exact kit_ty (a := "list") (b := "str") (r := false) (by decide +kernel)
  | tuple l => exact kit_ty (a := "tuple") (b := "str") (r := false) (by decide +kernel)
  | dict l => exact kit_ty (a := "dict") (b := "str") (r := false) (by decide +kernel)
theorem kit_tuple (K : PySem.W.Frag) (d : PyData) : PySem.W.kitOne K (.type (tyD d)) (.type "tuple") = some (isTup d) := by
  cases d with
  | none => exact kit_ty (a := "NoneType") (b := "tuple") (r := false) (by decide +kernel)
  | bool b => exact kit_ty (a := "bool") (b := "tuple") (r := false) (by decide +kernel)
  | int i => exact kit_ty (a := "int") (b := "tuple") (r := false) (by decide +kernel)
  | str x => exact kit_ty (a := "str") (b := "tuple") (r := false) (by decide +kernel)
  | list l => exact kit_ty (a := "list") (b := "tuple") (r := false) (by decide +kernel)
  | tuple l => exact kit_ty (a := "tuple") (b := "tuple") (r := true) (by decide +kernel)
  | dict l => exact kit_ty (a := "dict") (b := "tuple") (r := false) (by decide +kernel)
/-! ### promises -/
/-- a predicate of one value; no tracked object changes -/
def spP (f : PyData → Bool) : Sp := fun vs H Q _ => ∃ (v : V) (d : PyData), vs = [v] ∧ Dat H v d ∧ ∀ H', Same H H' → Q (.bl (f d)) H'
def spBtw : Sp := fun vs H Q _ => ∃ (v : V) (d : PyData) (lo hi : Int), vs = [v, .int lo, .int hi] ∧ Dat H v d ∧ ∀ H', Same H H' → Q (.bl (btw lo hi d)) H'
/-- a tuple of lo to hi items -/
def tupOf (lo hi : Int) : PyData → Bool
  | .tuple ds => decide (lo ≤ (ds.length : Int)) && decide ((ds.length : Int) ≤ hi)
  | _ => false
def spTup : Sp := fun vs H Q _ => ∃ (v : V) (d : PyData) (lo hi : Int), vs = [v, .int lo, .int hi] ∧ Dat H v d ∧ ∀ H', Same H H' → Q (.bl (tupOf lo hi d)) H'
/-- what the module says of built-in names -/
structure Nm (mg : Str → Option Value) : Prop where
  isinstance : mg "isinstance" = none
  int : mg "int" = none
  bool : mg "bool" = none
  str : mg "str" = none
  tuple : mg "tuple" = none
  len : mg "len" = none
  all : mg "all" = none
  zip : mg "zip" = none
  sum : mg "sum" = none
  set : mg "set" = none
  range : mg "range" = none
/-- a def of the module -/
structure DefOk (K : PySem.W.Frag) (mg : Str → Option Value) (x : Str) (st : Stmt) (ps : List Str) (f : Addr) (fd : FuncData) : Prop where
  F : Fun K x x st f fd
  b : L2.Binds K fd ps []
  g : mg x = some (.ref f)
section
variable {P : Program} {w : World} {K : PySem.W.Frag} {mg : Str → Option Value} {base : Heap}
end
end K6
set_option maxRecDepth 100000
set_option maxHeartbeats 4000000
namespace K6
open PySem PySem.Spec PyProof.Rows L2
theorem same_new {H : Hp} {p : Addr} {o : HO} (h : H p = none) : Same H (upd H p o) := fun b u e => by rw [upd_ne (ne_of_none e h)]; exact e
theorem if_t {c : Bool} {A B : Prop} (hc : c = true) (h : A) : if c = true then A else B := by
  rw [if_pos hc]
  exact h
theorem if_f {c : Bool} {A B : Prop} (hc : c = false) (h : B) : if c = true then A else B := by
  rw [hc, if_neg Bool.false_ne_true]
  exact h
/-- a list that grows at D while what was tracked before D stands -/
theorem grow {H Hx : Hp} {D : Addr} {xs : List V} {y : V} (nD : H D = none) (S : Same H Hx) : Same H (upd Hx D (.lst (xs ++ [y]))) := fun b o e => by
  have bD : b ≠ D := fun z => by
    rw [z, nD] at e
    cases e
  rw [upd_ne bD]
  exact S _ _ e
/-! ### names -/
/-- one sign from a to z -/
def azB (c : Nat) : Bool := !decide ([c] < ("a" : Str).cps.toList) && !decide (("z" : Str).cps.toList < [c])
def nameS (s : Str) : Bool := decide (1 ≤ (s.length : Int)) && decide ((s.length : Int) ≤ 6) && s.cps.toList.all azB
def nameB : PyData → Bool
  | .str s => nameS s
  | _ => false
section
variable {P : Program} {w : World} {K : PySem.W.Frag} {mg : Str → Option Value} {base : Heap}
end
end K6
set_option maxRecDepth 100000
set_option maxHeartbeats 4000000
namespace K6
open PySem PySem.Spec PyProof.Rows L2
/-! ### such values as the machine reads them -/
section
variable {P : Program} {w : World} {H : Hp} {h : Heap}
mutual
theorem Dat.reads (ok : HOk P w H h) : ∀ {v : V} {d : PyData} {u : Value}, Dat H v d → RelV v u → ∃ as, Reads h u d as
  | _, _, _, .non, r => ⟨[], by cases r; exact .none⟩
  | _, _, _, .bl b, r => ⟨[], by cases r; exact .bool b⟩
  | _, _, _, .int i, r => ⟨[], by obtain ⟨t, rfl⟩ := r; exact .int i t⟩
  | _, _, _, .str x _, r => ⟨[], by obtain ⟨t, rfl⟩ := r; exact .str x t⟩
  | _, _, _, .lst (a := a) (xs := xs) e t, r => by
    cases r
    obtain ⟨_, its, n, rv, ho⟩ := (show ObjOk P w H h a (.lst xs) from ok a _ e)
    obtain ⟨as, ra⟩ := DatAll.reads ok t rv
    exact ⟨_, .list ho rfl rfl ra⟩
  | _, _, _, .tup (a := a) (xs := xs) e t, r => by
    cases r
    obtain ⟨_, its, rv, o, ho, hc, m, hd⟩ := (show ObjOk P w H h a (.tup xs) from ok a _ e)
    obtain ⟨as, ra⟩ := DatAll.reads ok t rv
    exact ⟨_, .tuple ho hc hd ra⟩
  | _, _, _, .d0 (a := a) e, r => by
    cases r
    obtain ⟨_, ns, vs, kv, o, es, ep, ho, hx, hd, hk, hp, _⟩ := (show ObjOk P w H h a (.dK []) from ok a _ e)
    cases kv
    have e0 : es.toList = [] := by
      generalize es.toList = l at hp
      cases hp
      rfl
    exact ⟨a :: [] ++ [], .dict (kvs := []) ho hx.1 hd (by rw [e0]; exact .nil) (by rw [e0]; exact .nil)⟩
theorem DatAll.reads (ok : HOk P w H h) : ∀ {vs : List V} {ds : List PyData} {us : List Value}, DatAll H vs ds → Vals vs us → ∃ as, ReadsAll h us ds as
  | _, _, _, .nil, .nil => ⟨[], .nil⟩
  | _, _, _, .cons t ts, .cons r rs => by
    obtain ⟨as, ra⟩ := Dat.reads ok t r
    obtain ⟨bs, rb⟩ := DatAll.reads ok ts rs
    exact ⟨as ++ bs, .cons ra rb⟩
end
end
/-! ### < of two values of one form -/
section
variable {X : Cx}
def rLtDat : R2 := fun x y H Q => ∃ d e, Dat H x d ∧ Dat H y e ∧ PySem.W.alike d e = true ∧ d ≠ .none ∧ d.depth ≤ 60 ∧ Q (.bl (PySem.W.dataLt d e)) H
theorem op_ltDat (hu : X.A.units + 64 < cLine) : OpR X (compareOp .Lt) rLtDat := by
  intro pins s σ H x y v u Q I rx ry h
  obtain ⟨d, e, hd, he, ha, hn, hz, q⟩ := h
  obtain ⟨as, r1⟩ := hd.reads I.hok rx
  obtain ⟨bs, r2⟩ := he.reads I.hok ry
  exact PySem.W.lt_data r1 r2 ha hn (by omega) ⟨.bl _, H, I, rfl, q⟩
end
/-! ### strictly ascending -/
/-- neighbours that can be compared -/
def AscOk (ds : List PyData) : Prop := ∀ i, i + 1 < ds.length → PySem.W.alike (ds.getD i .none) (ds.getD (i + 1) .none) = true ∧ ds.getD i .none ≠ .none ∧ (ds.getD i .none).depth ≤ 60
def ascB (ds : List PyData) : Bool := (List.range (ds.length - 1)).all fun i => PySem.W.dataLt (ds.getD i .none) (ds.getD (i + 1) .none)
def spAsc : Sp := fun vs H Q _ => ∃ (a : Addr) (xs : List V) (ds : List PyData), vs = [.ref a] ∧ (H a = some (.lst xs) ∨ H a = some (.tup xs)) ∧ DatAll H xs ds ∧ AscOk ds ∧ ∀ H', Same H H' → Q (.bl (ascB ds)) H'
theorem cut1 (xs : List V) : cutV xs (some 1) none = xs.drop 1 := by
  unfold cutV
  have e1 : HT.sIx xs.length 0 (some 1) = min 1 xs.length := HT.sIx_nat xs.length 0 1
  have e2 : HT.sIx xs.length xs.length none = xs.length := HT.sIx_none _ _
  rw [e1, e2]
  cases xs with
  | nil => rfl
  | cons x l =>
    have e3 : min 1 (x :: l).length = 1 := by
      rw [List.length_cons]
      omega
    rw [e3]
    exact List.take_of_length_le (by simp)
/-- t[1:] -/
theorem slA_of {K : PySem.W.Frag} {H : Hp} {a : Addr} {xs : List V} {Q : VK} (ha : H a = some (.tup xs)) (hq : ∀ (b : Addr) (Hb : Hp), Same H Hb → Hb b = some (.tup (xs.drop 1)) → Q (.ref b) Hb) : rSlA K (.ref a) (some 1) none H Q := by
  refine ⟨a, xs, rfl, SqT.of ha, fun z => ?_, fun _ p np => ?_⟩
  · have e1 : HT.sIx xs.length 0 (some 1) = min 1 xs.length := HT.sIx_nat xs.length 0 1
    have e2 : min 1 xs.length = 0 := e1.symm.trans z.1
    cases xs with
    | nil => exact hq a H (fun _ _ e => e) ha
    | cons x l =>
      rw [List.length_cons] at e2
      omega
  · rw [cut1]
    exact hq p _ (same_new np) upd_same
section
variable {K : PySem.W.Frag} {a b : Addr} {xs ys : List V}
theorem walk_zip2 {n : Nat} (hn : n = min xs.length ys.length) : Walk (RZ.ItzT K a b) n (fun H => SqT K H a xs ∧ SqT K H b ys) (YPair (fun i => xs[i]?) (fun i => ys[i]?)) := by
  subst hn
  constructor
  · intro i _ hi q
    exact ⟨xs, ys, xs[i]'(by omega), ys[i]'(by omega), q.1, q.2, List.getElem?_eq_getElem (by omega), List.getElem?_eq_getElem (by omega)⟩
  · intro _ q
    exact ⟨xs, ys, q.1, q.2, by omega⟩
  · intro i H v H' _ q y
    obtain ⟨T, x, z, e1, e2, e3, e4, e5⟩ := y
    exact ⟨T, x, z, e1, e2, e3, e4 _ q.1, e5 _ q.2⟩
end
section
variable {P : Program} {w : World} {K : PySem.W.Frag} {mg : Str → Option Value} {base : Heap}
/-- one turn of the list of comparisons -/
theorem asc_turn {H Hx : Hp} {D : Addr} {xs : List V} {ds : List PyData} {j : Nat} {x y : V} {U : Addr} (nD : H D = none) (S : Same H Hx) (hD : Hx D = some (.lst ((List.range j).map fun i => V.bl (PySem.W.dataLt (ds.getD i .none) (ds.getD (i + 1) .none)))))
    (hx : DatAll H xs ds) (ok : AscOk ds) (h1 : xs[j]? = some x) (h2 : (xs.drop 1)[j]? = some y) (hj : j < 1000000) (nU : Hx U = none) :
    rLtDat x y (upd Hx U (.tup [x, y])) (fun z H4 => ∃ acc, H4 D = some (.lst acc) ∧ acc.length < sizeLine ∧ Same H (upd H4 D (.lst (acc ++ [z]))) ∧ upd H4 D (.lst (acc ++ [z])) D = some (.lst ((List.range (j + 1)).map fun i => V.bl (PySem.W.dataLt (ds.getD i .none) (ds.getD (i + 1) .none))))) := by
  have S1 := S.trans (same_new (o := HO.tup [x, y]) nU)
  obtain ⟨d, hd, td⟩ := hx.get h1
  have h2' : xs[j + 1]? = some y := by
    rw [List.getElem?_drop] at h2
    rw [Nat.add_comm]
    exact h2
  obtain ⟨e, he, te⟩ := hx.get h2'
  have g1 : ds.getD j .none = d := by rw [List.getD_eq_getElem?_getD, hd]; rfl
  have g2 : ds.getD (j + 1) .none = e := by rw [List.getD_eq_getElem?_getD, he]; rfl
  have hlt : j + 1 < ds.length := by
    have z := (List.getElem?_eq_some_iff.mp he).1
    exact z
  obtain ⟨o1, o2, o3⟩ := ok j hlt
  rw [g1, g2] at o1
  rw [g1] at o2 o3
  refine ⟨d, e, td.same S1, te.same S1, o1, o2, o3, _, same_new nU _ _ hD, ?_, grow nD S1, ?_⟩
  · rw [List.length_map, List.length_range, sizeLine_eq]
    omega
  · rw [upd_same, List.range_succ, List.map_append]
    show _ = some (HO.lst (_ ++ [V.bl (PySem.W.dataLt (ds.getD j .none) (ds.getD (j + 1) .none))]))
    rw [g1, g2]
end
end K6
set_option maxRecDepth 100000
set_option maxHeartbeats 4000000
namespace K6
open PySem PySem.Spec PyProof.Rows L2
/-! ### [p(x) for x in a tuple] -/
theorem lc_all {K : PySem.W.Frag} {H : Hp} {a : Addr} {xs : List V} {ds : List PyData} {g : TG} {te : TE} {vs : List Nat} {σ : L2.St} {D : Addr} {Qd : Hp → Prop} (p : PyData → Bool) (ha : H a = some (.tup xs)) (hx : DatAll H xs ds) (hz : xs.length ≤ 1000000) (nD : H D = none)
    (hs : ∀ (i : Nat) (x : V) (d : PyData) (Hx : Hp), xs[i]? = some x → ds[i]? = some d → Dat Hx x d → Same H Hx → ∀ R : VK, (∀ H', Same Hx H' → R (.bl (p d)) H') → g x (wipe σ vs) Hx fun σ2 H2 => wipe σ2 vs = wipe σ vs ∧ te σ2 H2 R)
    (mono : ∀ (x : V) (Hx : Hp) (A B : L2.St → Hp → Prop), (∀ σ2 H2, A σ2 H2 → B σ2 H2) → g x (wipe σ vs) Hx A → g x (wipe σ vs) Hx B)
    (hd : ∀ Hx, Same H Hx → Hx D = some (.lst ((ds.map p).map V.bl)) → Qd Hx) :
    ∃ W : Nat → Nat → Hp → Prop, (∃ m, W 0 m (upd H D (.lst []))) ∧ ∀ i m H, W i m H →
      ((Itt K a).stop i H ∧ Qd H) ∨ ((Itt K a).go i H ∧ ∃ Nx : Hp → Prop, (∀ H', Nx H' → ∃ m', m' < m ∧ W (i + 1) m' H') ∧ ∀ x H', (Itt K a).yld i H x H' → g x (wipe σ vs) H' fun σ2 H2 => wipe σ2 vs = wipe σ vs ∧ tYes σ2 H2 fun b H3 =>
        if b = true then te σ2 H3 fun y H4 => ∃ acc, H4 D = some (.lst acc) ∧ acc.length < sizeLine ∧ Nx (upd H4 D (.lst (acc ++ [y]))) else Nx H3) := by
  refine lc_tup (K := K) (a := a) (xs := xs) (fun j Hx => Same H Hx ∧ Hx D = some (.lst (((ds.take j).map p).map V.bl))) ⟨same_new nD, upd_same⟩ (fun j Hx _ ⟨S, _⟩ => SqT.of (S _ _ ha)) ?_ ?_
  · rintro i x Hx hi ⟨S, hD⟩
    obtain ⟨d, hdi, td⟩ := hx.get hi
    refine mono x Hx _ _ (fun σ2 H2 h => ⟨h.1, ?_⟩) (hs i x d Hx hi hdi (td.same S) S (fun y H4 => ∃ acc, H4 D = some (.lst acc) ∧ acc.length < sizeLine ∧ Same H (upd H4 D (.lst (acc ++ [y]))) ∧ upd H4 D (.lst (acc ++ [y])) D = some (.lst (((ds.take (i + 1)).map p).map V.bl))) fun H' S' => ?_)
    · dsimp only [tYes]
      first
        | exact if_t rfl h.2
        | exact h.2
    · have hi' : i < xs.length := (List.getElem?_eq_some_iff.mp hi).1
      refine ⟨_, S' _ _ hD, ?_, grow nD (S.trans S'), ?_⟩
      · rw [List.length_map, List.length_map, List.length_take, sizeLine_eq]
        omega
      · rw [upd_same, List.take_add_one, hdi]
        simp
  · rintro Hx ⟨S, hD⟩
    refine hd Hx S ?_
    rw [hD, hx.len, List.take_of_length_le (Nat.le_refl _)]
theorem mono_name {i : Nat} {σ : L2.St} {vs : List Nat} : ∀ (x : V) (Hx : Hp) (A B : L2.St → Hp → Prop), (∀ σ2 H2, A σ2 H2 → B σ2 H2) → gName i x (wipe σ vs) Hx A → gName i x (wipe σ vs) Hx B := fun _ _ _ _ h a => h _ _ a
theorem all_bools {K : PySem.W.Frag} {H : Hp} {D : Addr} {bs : List Bool} {Q : VK} (h : H D = some (.lst (bs.map V.bl))) (q : Q (.bl (bs.all id)) H) : rAll K [.ref D] H Q := ⟨D, bs, rfl, SqL.of h, q⟩
/-! ### promises of the leaves' checks: the whole tuple is handed over -/
def spT (m : Nat) (p : List PyData → Bool) : Sp := fun vs H Q _ => ∃ (a : Addr) (xs : List V) (ds : List PyData), vs = [.ref a] ∧ H a = some (.tup xs) ∧ DatAll H xs ds ∧ ds.length = m ∧ ∀ H', Same H H' → Q (.bl (p ds)) H'
/-- the module's constants -/
structure Cst (mg : Str → Option Value) : Prop where
  places : ∃ t, mg "MOST_PLACES" = some (.int 400 t)
  steps : ∃ t, mg "MOST_STEPS" = some (.int 60 t)
  pairs : ∃ t, mg "MOST_PAIRS" = some (.int 200 t)
  highest : ∃ t, mg "HIGHEST" = some (.int 60 t)
  letters : ∃ t, mg "MOST_LETTERS" = some (.int 6 t)
  moves : ∃ t, mg "MOST_MOVES" = some (.int 48 t)
  last : ∃ t, mg "LAST_STATE" = some (.int 7 t)
  nested : ∃ t, mg "MOST_NESTED" = some (.int 6 t)
  deepest : ∃ t, mg "DEEPEST" = some (.int 6 t)
  parts : ∃ t, mg "MOST_PARTS" = some (.int 40 t)
  name : ∃ t, mg "LONGEST_NAME" = some (.int 6 t)
  digits : ∃ t, mg "DIGITS" = some (.int 4000 t)
  leaves : ∃ t, mg "LEAVES" = some (.int 2000 t)
def at0 (ds : List PyData) (i : Nat) : PyData := ds.getD i .none
theorem at_of {ds : List PyData} {i : Nat} {d : PyData} (h : ds[i]? = some d) : at0 ds i = d := by
  unfold at0
  rw [List.getD_eq_getElem?_getD, h]
  rfl
def pCycle (ds : List PyData) : Bool := btw 1 400 (at0 ds 1)
def pMatching (ds : List PyData) : Bool := btw 0 200 (at0 ds 1)
def pPower (ds : List PyData) : Bool := btw 0 400 (at0 ds 1)
def pRow (ds : List PyData) : Bool := tupOf 1 6 (at0 ds 1)
def intOf : PyData → Int
  | .int i => i
  | _ => 0
def pSubset (ds : List PyData) : Bool := btw 0 400 (at0 ds 1) && btw 0 (intOf (at0 ds 1)) (at0 ds 2)
theorem btw_int {lo hi : Int} {d : PyData} (h : btw lo hi d = true) : ∃ i, d = .int i ∧ lo ≤ i ∧ i ≤ hi := by
  cases d with
  | int i =>
    have h' : (decide (lo ≤ i) && decide (i ≤ hi)) = true := h
    rw [Bool.and_eq_true] at h'
    exact ⟨i, rfl, of_decide_eq_true h'.1, of_decide_eq_true h'.2⟩
  | _ => cases h
section
variable {P : Program} {w : World} {K : PySem.W.Frag} {mg : Str → Option Value} {base : Heap}
end
end K6
set_option maxRecDepth 100000
set_option maxHeartbeats 4000000
namespace K6
open PySem PySem.Spec PyProof.Rows L2
theorem cutK (k : Nat) (xs : List V) : cutV xs (some (k : Int)) none = xs.drop k := by
  unfold cutV
  have e1 : HT.sIx xs.length 0 (some (k : Int)) = min k xs.length := HT.sIx_nat xs.length 0 k
  have e2 : HT.sIx xs.length xs.length none = xs.length := HT.sIx_none _ _
  rw [e1, e2]
  by_cases h : k ≤ xs.length
  · rw [show min k xs.length = k by omega]
    exact List.take_of_length_le (by rw [List.length_drop]; omega)
  · rw [show min k xs.length = xs.length by omega, List.drop_of_length_le (Nat.le_refl xs.length), List.drop_of_length_le (by omega)]
    exact List.take_nil
/-- t[k:] -/
theorem slK_of {K : PySem.W.Frag} {H : Hp} {a : Addr} {xs : List V} {Q : VK} (k : Nat) (ha : H a = some (.tup xs)) (hq : ∀ (b : Addr) (Hb : Hp), Same H Hb → Hb b = some (.tup (xs.drop k)) → Q (.ref b) Hb) : rSlA K (.ref a) (some (k : Int)) none H Q := by
  refine ⟨a, xs, rfl, SqT.of ha, fun z => ?_, fun _ p np => ?_⟩
  · have e1 : HT.sIx xs.length 0 (some (k : Int)) = min k xs.length := HT.sIx_nat xs.length 0 k
    have e2 : min k xs.length = 0 := e1.symm.trans z.1
    refine hq a H (fun _ _ e => e) ?_
    by_cases h0 : k = 0
    · rw [h0]
      exact ha
    · have e3 : xs = [] := List.eq_nil_of_length_eq_zero (by omega)
      rw [e3] at ha ⊢
      rw [List.drop_nil]
      exact ha
  · rw [cutK]
    exact hq p _ (same_new np) upd_same
theorem DatAll.drop {H : Hp} : ∀ (k : Nat) {xs : List V} {ds : List PyData}, DatAll H xs ds → DatAll H (xs.drop k) (ds.drop k)
  | 0, _, _, h => h
  | _ + 1, _, _, .nil => .nil
  | k + 1, _, _, .cons _ t => DatAll.drop k t
/-! ints can be compared -/
theorem asc_ints {ds : List PyData} (h : ∀ d ∈ ds, ∃ i, d = .int i) : AscOk ds := fun i hi => by
  have g : ∀ j, j < ds.length → ∃ z, ds.getD j .none = .int z := fun j hj => by
    obtain ⟨z, e⟩ := h ds[j] (List.getElem_mem hj)
    exact ⟨z, by rw [List.getD_eq_getElem?_getD, List.getElem?_eq_getElem hj]; exact e⟩
  obtain ⟨x, ex⟩ := g i (by omega)
  obtain ⟨y, ey⟩ := g (i + 1) hi
  rw [ex, ey]
  exact ⟨by simp [PySem.W.alike], by simp, by simp [PyData.depth]⟩
theorem asc_strs {ds : List PyData} (h : ∀ d ∈ ds, ∃ s, d = .str s) : AscOk ds := fun i hi => by
  have g : ∀ j, j < ds.length → ∃ z, ds.getD j .none = .str z := fun j hj => by
    obtain ⟨z, e⟩ := h ds[j] (List.getElem_mem hj)
    exact ⟨z, by rw [List.getD_eq_getElem?_getD, List.getElem?_eq_getElem hj]; exact e⟩
  obtain ⟨x, ex⟩ := g i (by omega)
  obtain ⟨y, ey⟩ := g (i + 1) hi
  rw [ex, ey]
  exact ⟨by simp [PySem.W.alike], by simp, by simp [PyData.depth]⟩
theorem all_btw {lo hi : Int} {ds : List PyData} (h : ds.all (btw lo hi) = true) : ∀ d ∈ ds, ∃ i, d = .int i := fun d hd => by
  obtain ⟨i, e, _⟩ := btw_int (List.all_eq_true.mp h d hd)
  exact ⟨i, e⟩
def pTree (ds : List PyData) : Bool := btw 1 400 (at0 ds 1)
def tupItems : PyData → List PyData
  | .tuple ds => ds
  | _ => []
def pWalk (ds : List PyData) : Bool := (ds.drop 2).all (btw (-60) 60) && (btw 0 60 (at0 ds 1) && (decide (intOf (at0 ds 4) ≤ intOf (at0 ds 2)) && decide (intOf (at0 ds 2) ≤ intOf (at0 ds 5)) && (decide (intOf (at0 ds 4) ≤ intOf (at0 ds 3)) && decide (intOf (at0 ds 3) ≤ intOf (at0 ds 5)))))
def pPerm (ds : List PyData) : Bool := btw 0 60 (at0 ds 1) && tupOf 0 (intOf (at0 ds 1)) (at0 ds 2) && ((tupItems (at0 ds 2)).all (btw 0 (intOf (at0 ds 1) - 1)) && ascB (tupItems (at0 ds 2)))
def statesB (d : PyData) : Bool := tupOf 0 8 d && ((tupItems d).all (btw 0 7) && ascB (tupItems d))
def countB (d : PyData) : Bool := tupOf 2 2 d && (nameB (at0 (tupItems d) 0) && btw 1 400 (at0 (tupItems d) 1))
def moveB (d : PyData) : Bool := tupOf 3 3 d && (btw 0 7 (at0 (tupItems d) 0) && (nameB (at0 (tupItems d) 1) && btw 0 7 (at0 (tupItems d) 2)))
theorem tupOf_len {lo hi : Int} {d : PyData} (h : tupOf lo hi d = true) : ∃ ds, d = .tuple ds ∧ lo ≤ (ds.length : Int) ∧ (ds.length : Int) ≤ hi := by
  cases d with
  | tuple ds =>
    have h' : (decide (lo ≤ (ds.length : Int)) && decide ((ds.length : Int) ≤ hi)) = true := h
    rw [Bool.and_eq_true] at h'
    exact ⟨ds, rfl, of_decide_eq_true h'.1, of_decide_eq_true h'.2⟩
  | _ => cases h
section
variable {P : Program} {w : World} {K : PySem.W.Frag} {mg : Str → Option Value} {base : Heap}
theorem dat_int {H : Hp} {v : V} {i : Int} (h : Dat H v (.int i)) : v = .int i := by
  cases h
  rfl
end
end K6
set_option maxRecDepth 100000
set_option maxHeartbeats 4000000
namespace K6
open PySem PySem.Spec PyProof.Rows L2
section
variable {P : Program} {w : World} {K : PySem.W.Frag} {mg : Str → Option Value} {base : Heap}
/-- as for Pre.GA: a tuple that is short -/
theorem asc_tup {H : Hp} {a : Addr} {xs : List V} {ds : List PyData} {Q : VK} {E : XK} (ha : H a = some (.tup xs)) (hx : DatAll H xs ds) (hz : xs.length < 1000000) (ok : AscOk ds) (q : ∀ H', Same H H' → Q (.bl (ascB ds)) H') :
    spAsc [.ref a] H Q E ∧ ∀ b ys, (H b = some (.lst ys) ∨ H b = some (.tup ys)) → ([V.ref a] : List V) = [.ref b] → ys.length < 1000000 := by
  refine ⟨⟨a, xs, ds, rfl, .inr ha, hx, ok, q⟩, fun b ys h e => ?_⟩
  injection e with e _
  injection e with e
  subst e
  rw [ha] at h
  rcases h with h | h
  · cases h
  · cases h
    exact hz
theorem asc_lst {H : Hp} {a : Addr} {xs : List V} {ds : List PyData} {Q : VK} {E : XK} (ha : H a = some (.lst xs)) (hx : DatAll H xs ds) (hz : xs.length < 1000000) (ok : AscOk ds) (q : ∀ H', Same H H' → Q (.bl (ascB ds)) H') :
    spAsc [.ref a] H Q E ∧ ∀ b ys, (H b = some (.lst ys) ∨ H b = some (.tup ys)) → ([V.ref a] : List V) = [.ref b] → ys.length < 1000000 := by
  refine ⟨⟨a, xs, ds, rfl, .inl ha, hx, ok, q⟩, fun b ys h e => ?_⟩
  injection e with e _
  injection e with e
  subst e
  rw [ha] at h
  rcases h with h | h
  · cases h
    exact hz
  · cases h
end
end K6
set_option maxRecDepth 100000
set_option maxHeartbeats 4000000
namespace K6
open PySem PySem.Spec PyProof.Rows
open PySem.AutoSeq1 (wpAny_loadPart')
/-! ### a dict beside a text -/
theorem sub_str_dict : isSubtype (.type "str") (.type "dict") = pure false := by
  rw [isSubtype_type]
  kernel_rfl
theorem sub_dict_str : isSubtype (.type "dict") (.type "str") = pure false := by
  rw [isSubtype_type]
  kernel_rfl
theorem dict_no_str (l : Addr) (dd : Option Addr) (es : Array DictEntry) (ep : Nat) (sl : Array (Option Value)) (b : Str) (u : Tok) :
    Meets (Builtin.«dict.__eq__» ⟨[.ref l, .str b u], []⟩) (fun _ R s => s.heap.get? l = some { cls := .type "dict", dict := dd, data := .dict es ep, slots := sl } ∧ R (.ok (.ret .notImplemented)) s) :=
  .of_wp fun prog w A R s h => by
    obtain ⟨hp, g, d, tk, os⟩ := s
    obtain ⟨hl, h⟩ := h
    have f1 := sub_str_dict
    wp_walk using wpAny_loadPart' hl
    exact ⟨_, rfl, h⟩
theorem str_no_dict (l : Addr) (dd : Option Addr) (es : Array DictEntry) (ep : Nat) (sl : Array (Option Value)) (b : Str) (u : Tok) :
    Meets (Builtin.«str.__eq__» ⟨[.str b u, .ref l], []⟩) (fun _ R s => s.heap.get? l = some { cls := .type "dict", dict := dd, data := .dict es ep, slots := sl } ∧ R (.ok (.ret .notImplemented)) s) :=
  .of_wp fun prog w A R s h => by
    obtain ⟨hp, g, d, tk, os⟩ := s
    obtain ⟨hl, h⟩ := h
    wp_walk using wpAny_loadPart' hl, wpAny_load hl
    exact ⟨_, rfl, h⟩
end K6
namespace PySem.SeqAt
open PySem PyProof.Rows
theorem k2_dict_str {A : Around} {s : Shared} {l : Addr} {dd : Option Addr} {es : Array DictEntry} {ep : Nat} {sl : Array (Option Value)} (b : Str) (u : Tok) (hl : s.heap.get? l = some { cls := .type "dict", dict := dd, data := .dict es ep, slots := sl }) (hu : A.units < cLine) :
    RcAt A s (.ref l) (.str b u) false := fun prog w E Q h =>
  rc_eq_decline_or (k := false) ⟨_, hl, rfl⟩ (typeIs_str s b u) (by decide) K6.sub_str_dict PySem.F.slot_dict_eq F.slot_str_eq_refl
    (fun _ hq => call_meets PySem.F.slot_dict_eq ⟨_, hl, rfl⟩ PySem.F.entry_dict_eq (PySem.F.args_dict_eq_2 _ _) (K6.dict_no_str l dd es ep sl b u) ⟨hl, hq⟩)
    (fun _ hq => call_meets F.slot_str_eq_refl (typeIs_str s b u) F.entry_str_eq (F.args_str_eq_2 _ _) (K6.str_no_dict l dd es ep sl b u) ⟨hl, hq⟩)
    (fun _ hq => wpAny_of_eq (rfl : isSame (.ref l) (.str b u) = pure false) hq) (.inr hu) h
end PySem.SeqAt
namespace K6
open PySem PySem.Spec PyProof.Rows L2
/-- any value beside a text -/
def eqStr (z : Str) : PyData → Bool
  | .str x => x == z
  | _ => false
def rEqStr : R2 := fun x y H Q => ∃ d z, Dat H x d ∧ y = .str z ∧ Q (.bl (eqStr z d)) H
section
variable {X : Cx}
theorem op_eqStr (hu : X.A.units < cLine) : OpR X (compareOp .Eq) rEqStr := by
  intro pins s σ H x y v u Q I rx ry h
  obtain ⟨d, z, hd, rfl, q⟩ := h
  obtain ⟨t, rfl⟩ := ry
  have fin : ∀ k : Bool, k = eqStr z d → EP X pins σ Q (.bool k) s := fun k e => ⟨.bl k, H, I, rfl, by rw [e]; exact q⟩
  cases hd with
  | non =>
    cases rx
    exact PySem.SeqAt.RcAt.none_str z t _ _ _ _ (fin _ rfl)
  | bl b =>
    cases rx
    exact PySem.SeqAt.RcAt.bool_str b z t _ _ _ _ (fin _ rfl)
  | int i =>
    obtain ⟨t2, rfl⟩ := rx
    exact PySem.SeqAt.RcAt.int_str i t2 z t _ _ _ _ (fin _ rfl)
  | str x hx =>
    obtain ⟨t2, rfl⟩ := rx
    exact PySem.SeqAt.RcAt.str_str x t2 z t _ _ _ _ (fin _ rfl)
  | @lst a xs ds ha hx =>
    cases rx
    obtain ⟨its, rv, p, _⟩ := I.list (SqL.of ha)
    exact PySem.SeqAt.RcAt.list_str z t p.isList hu _ _ _ _ (fin _ rfl)
  | @tup a xs ds ha hx =>
    cases rx
    obtain ⟨its, rv, p, _⟩ := I.tuple (SqT.of ha)
    exact PySem.SeqAt.RcAt.tuple_str z t p hu _ _ _ _ (fin _ rfl)
  | @d0 a ha =>
    cases rx
    obtain ⟨_, ns, vs, kv, o, es, ep, ho, hx, hd, hk, hp, _⟩ := (show ObjOk X.prog X.w H s.heap a (.dK []) from I.hok a _ ha)
    obtain ⟨oc, od, dt, sl⟩ := o
    have e1 : oc = .type "dict" := hx.1
    have e2 : dt = .dict es ep := hd
    subst e1 e2
    exact PySem.SeqAt.k2_dict_str z t ho hu _ _ _ _ (fin _ rfl)
end
end K6
set_option maxRecDepth 100000
set_option maxHeartbeats 4000000
namespace PySem.SeqAt
open PySem PyProof.Rows
theorem k2_str_dict {A : Around} {s : Shared} {l : Addr} {dd : Option Addr} {es : Array DictEntry} {ep : Nat} {sl : Array (Option Value)} (b : Str) (u : Tok) (hl : s.heap.get? l = some { cls := .type "dict", dict := dd, data := .dict es ep, slots := sl }) (hu : A.units < cLine) :
    EqAt A s (.str b u) (.ref l) false := fun prog w E Q h => by
  unfold eqBool
  refine wpAny_holding (wpAny_ite_split (fun hab => absurd (eq_of_beq hab) nofun) fun _ => wpAny_bind ?_)
  exact rc_eq_decline_or (k := false) (typeIs_str s b u) ⟨_, hl, rfl⟩ (by decide) K6.sub_dict_str F.slot_str_eq PySem.F.slot_dict_eq_refl
    (fun _ hq => call_meets F.slot_str_eq (typeIs_str s b u) F.entry_str_eq (F.args_str_eq_2 _ _) (K6.str_no_dict l dd es ep sl b u) ⟨hl, hq⟩)
    (fun _ hq => call_meets PySem.F.slot_dict_eq_refl ⟨_, hl, rfl⟩ PySem.F.entry_dict_eq (PySem.F.args_dict_eq_2 _ _) (K6.dict_no_str l dd es ep sl b u) ⟨hl, hq⟩)
    (fun _ hq => wpAny_of_eq (rfl : isSame (.str b u) (.ref l) = pure false) hq) (.inr hu) (wpAny_truthy_bool h)
end PySem.SeqAt
namespace K6
open PySem PySem.Spec PyProof.Rows L2
section
variable {X : Cx}
/-- a text among the items, held against any value -/
theorem str_eqAt {pins : List (Addr × Obj)} {σ : L2.St} {H : Hp} {s : Shared} {x : V} {v : Value} {d : PyData} (I : Inv X pins σ H s) (hd : Dat H x d) (rx : RelV x v) {A : Around} (hu : A.units < cLine) (z : Str) (t : Tok) : SeqAt.EqAt A s (.str z t) v (eqStr z d) := by
  cases hd with
  | non =>
    cases rx
    exact SeqAt.EqAt.str_none z t
  | bl b =>
    cases rx
    exact SeqAt.EqAt.str_bool z t b
  | int i =>
    obtain ⟨t2, rfl⟩ := rx
    exact SeqAt.EqAt.str_int z t i t2
  | str y hy =>
    obtain ⟨t2, rfl⟩ := rx
    have e : eqStr z (.str y) = (z == y) := by
      show (y == z) = (z == y)
      by_cases h : y = z
      · rw [h]
      · rw [beq_eq_false_iff_ne.mpr h, beq_eq_false_iff_ne.mpr (Ne.symm h)]
    rw [e]
    exact SeqAt.EqAt.str_str z t y t2
  | @lst a xs ds ha hx =>
    cases rx
    obtain ⟨its, rv, p, _⟩ := I.list (SqL.of ha)
    exact SeqAt.EqAt.str_list z t p.isList hu
  | @tup a xs ds ha hx =>
    cases rx
    obtain ⟨its, rv, p, _⟩ := I.tuple (SqT.of ha)
    exact SeqAt.EqAt.str_tuple z t p hu
  | @d0 a ha =>
    cases rx
    obtain ⟨_, ns, vs, kv, o, es, ep, ho, hx, hd, hk, hp, _⟩ := (show ObjOk X.prog X.w H s.heap a (.dK []) from I.hok a _ ha)
    obtain ⟨oc, od, dt, sl⟩ := o
    have e1 : oc = .type "dict" := hx.1
    have e2 : dt = .dict es ep := hd
    subst e1 e2
    exact SeqAt.k2_str_dict z t ho hu
/-- x in (texts), x not in (texts) -/
def rInStrs (neg : Bool) : R2 := fun x y H Q => ∃ (d : PyData) (p : Addr) (zs : List Str), Dat H x d ∧ y = .ref p ∧ H p = some (.tup (zs.map V.str)) ∧ Q (.bl (if neg then !zs.any fun z => eqStr z d else zs.any fun z => eqStr z d)) H
def eStr (d : PyData) : Value → Bool
  | .str z _ => eqStr z d
  | _ => false
theorem any_strs {d : PyData} : ∀ {zs : List Str} {its : List Value}, Vals (zs.map V.str) its → its.any (eStr d) = zs.any fun z => eqStr z d
  | [], _, .nil => rfl
  | z :: zs, _, .cons r rs => by
    obtain ⟨t, rfl⟩ := r
    rw [List.any_cons, List.any_cons, any_strs rs]
    rfl
theorem mem_strs {zs : List Str} {its : List Value} (r : Vals (zs.map V.str) its) : ∀ y ∈ its, ∃ z t, y = .str z t := by
  intro y hy
  obtain ⟨i, hi⟩ := List.mem_iff_getElem?.mp hy
  have hl := r.length
  have hlt := (List.getElem?_eq_some_iff.mp hi).1
  obtain ⟨x, hx⟩ : ∃ x, (zs.map V.str)[i]? = some x := ⟨_, List.getElem?_eq_getElem (by omega)⟩
  obtain ⟨u, hu, ru⟩ := r.get hx
  rw [hi] at hu
  cases hu
  rw [List.getElem?_map] at hx
  cases e : zs[i]? with
  | none =>
    rw [e] at hx
    cases hx
  | some z =>
    rw [e] at hx
    cases hx
    obtain ⟨t, rfl⟩ := ru
    exact ⟨z, t, rfl⟩
theorem op_notInStrs (hu : X.A.units + 1 < cLine) : OpR X (compareOp .NotIn) (rInStrs true) := by
  intro pins s σ H x y v u Q I rx ry h
  obtain ⟨d, p, zs, hd, rfl, hp, q⟩ := h
  cases ry
  obtain ⟨its, r, pl, _⟩ := I.tuple (SqT.of hp)
  refine SeqAt.notIn_tupleAt (eStr d) pl (fun w hw => ?_) ⟨.bl _, H, I, rfl, ?_⟩
  · obtain ⟨z, t, rfl⟩ := mem_strs r w (by simpa using hw)
    exact str_eqAt I hd rx hu z t
  · rw [show its.toArray.any (eStr d) = its.any (eStr d) by simp, any_strs r]
    exact q
theorem op_inStrs (hu : X.A.units + 1 < cLine) : OpR X (compareOp .In) (rInStrs false) := by
  intro pins s σ H x y v u Q I rx ry h
  obtain ⟨d, p, zs, hd, rfl, hp, q⟩ := h
  cases ry
  obtain ⟨its, r, pl, _⟩ := I.tuple (SqT.of hp)
  refine SeqAt.in_tupleAt (eStr d) pl (fun w hw => ?_) ⟨.bl _, H, I, rfl, ?_⟩
  · obtain ⟨z, t, rfl⟩ := mem_strs r w (by simpa using hw)
    exact str_eqAt I hd rx hu z t
  · rw [show its.toArray.any (eStr d) = its.any (eStr d) by simp, any_strs r]
    exact q
end
end K6
set_option maxRecDepth 100000
set_option maxHeartbeats 4000000
namespace K6
open PySem PySem.Spec PyProof.Rows L2
/-! ### orders -/
def orderB : Nat → PyData → Bool
  | 0, _ => false
  | n + 1, d => tupOf 2 2 d && (if eqStr "item" (at0 (tupItems d) 0) = true then nameB (at0 (tupItems d) 1)
      else ((eqStr "series" (at0 (tupItems d) 0) || eqStr "parallel" (at0 (tupItems d) 0)) && (tupOf 2 6 (at0 (tupItems d) 1) && (tupItems (at0 (tupItems d) 1)).all (orderB n))))
def spOrd (n : Nat) : Sp := fun vs H Q _ => ∃ (v : V) (d : PyData), vs = [v, .int n] ∧ Dat H v d ∧ ∀ H', Same H H' → Q (.bl (orderB n d)) H'
section
variable {P : Program} {w : World} {K : PySem.W.Frag} {mg : Str → Option Value} {base : Heap}
theorem fn_none {k : Nat} {f : Addr} {fd : FuncData} {ps : List Str} : FnOk P w K mg base CX0 k f fd ps (fun _ _ _ _ => False) := ⟨fun _ _ _ _ h => h.elim, fun _ _ _ _ _ _ _ _ _ _ _ _ _ h => h.elim⟩
end
end K6
set_option maxRecDepth 100000
set_option maxHeartbeats 4000000
/-! A set made of a list of texts, of any length below the model's line: how many texts it holds. -/
namespace S2
open PySem PySem.Spec PyProof.Rows
/-- the distinct texts among the first i -/
def cnt (xs : List Str) : Nat → Nat
  | 0 => 0
  | i + 1 => if (xs.take i).any (· == xs.getD i Str.empty) = true then cnt xs i else cnt xs i + 1
theorem cnt_le (xs : List Str) : ∀ i, cnt xs i ≤ i
  | 0 => Nat.le_refl _
  | i + 1 => by
    have h := cnt_le xs i
    unfold cnt
    split <;> omega
theorem any_next {xs : List Str} {i : Nat} (hi : i < xs.length) (k : Str) : ((xs.take i).any (· == k) || decide (k = xs.getD i Str.empty)) = (xs.take (i + 1)).any (· == k) := by
  have g : xs.getD i Str.empty = xs[i] := by rw [List.getD_eq_getElem?_getD, List.getElem?_eq_getElem hi]; rfl
  rw [List.take_add_one, List.getElem?_eq_getElem hi, List.any_append, g]
  congr 1
  show decide (k = xs[i]) = ([xs[i]].any (· == k))
  rw [List.any_cons, List.any_nil, Bool.or_false]
  by_cases e : k = xs[i]
  · rw [decide_eq_true e, e, beq_self_eq_true]
  · rw [decide_eq_false e, beq_eq_false_iff_ne.mpr (Ne.symm e)]
section
variable {prog : Program} {w : World} {A : Around} {R : Result → Shared → Prop} {I S : Addr} {fp wr : List Addr} {G : Array GenState → Array GenState → Prop} {n : Nat} {V : Nat → Value → Prop} {St : Nat → Shared → Prop}
/-- the state of the set behind i texts -/
def Has (prog : Program) (w : World) (S : Addr) (xs : List Str) (i : Nat) (h : Heap) : Prop := h.SetOf (PySem.strKind prog w) S (fun k => (xs.take i).any (· == k)) (cnt xs i)
theorem Has.moved {xs : List Str} {i : Nat} {s s' : Shared} (hm : Moved wr G s s') (hw : S ∉ wr) (h : Has prog w S xs i s.heap) : Has prog w S xs i s'.heap := by
  obtain ⟨o, es, ep, t, ho, more⟩ := h
  exact ⟨o, es, ep, t, hm.heap S _ hw ho, more⟩
theorem loop (W : WalksS prog w A.in1 I fp wr G n V St) (hf : S ∉ fp) {xs : List Str} (hl : xs.length = n) (hb : n + 1 < scanBound) (hv : ∀ i v, V i v → ∃ t, v = .str (xs.getD i Str.empty) t) :
    ∀ (k i : Nat) (s : Shared), k + i = n → St i s → Has prog w S xs i s.heap → (∀ s', Moved (S :: wr) G s s' → Has prog w S xs n s'.heap → R (.ok (.ret .none)) s') →
      codeAny (model prog w) A (.builtin "set.update.loop" ⟨[.ref S, .ref I], []⟩) R s := by
  have hw : S ∉ wr := fun z => hf (W.sub _ z)
  have up : ∀ b ∈ wr, b ∈ S :: wr := fun b z => List.mem_cons_of_mem _ z
  intro k
  induction k with
  | zero =>
    intro i s e st hS hR
    obtain rfl : i = n := by omega
    refine codeAny_builtin F.entry_set_update_loop ?_
    rw [Around.under_plainId F.plain_set_update_loop _]
    exact wpAny_bind (W.done s _ _ st fun s' hm => wpAny_pure (hR s' (hm.mono up) (hS.moved hm hw)))
  | succ k ih =>
    intro i s e st hS hR
    have hi : i < n := by omega
    refine codeAny_builtin F.entry_set_update_loop ?_
    rw [Around.under_plainId F.plain_set_update_loop _]
    refine wpAny_bind (W.item i s _ _ hi st fun v s' hP st' hm => ?_)
    obtain ⟨t, rfl⟩ := hv i v hP
    have hS' := hS.moved hm hw
    refine wpAny_bind (wpAny_holding ?_)
    unfold setAdd
    refine wpAny_holding (wpAny_bind ((PySem.strKind prog w).pyHash (k := xs.getD i Str.empty) (strKind_is _ _ _ _) ?_))
    refine wpAny_setAddHashed_of (knd := PySem.strKind prog w) (s := { s' with toks := s'.toks + 1 }) (strKind_is _ _ _ _) rfl hS' (by have := cnt_le xs i; omega) fun h' sb hN => ?_
    have hS2 : Has prog w S xs (i + 1) h' := SetOf_congr hN (fun c => any_next (by omega) c) rfl
    refine wpAny_pure ⟨plainId_quiet F.plain_set_update_loop _, ih (i + 1) _ (by omega) (W.frame _ s' _ _ st' (Nat.le_succ _) fun b z o q => ?_) hS2 fun s2 hm2 hS3 => ?_⟩
    · rw [sb.2 b fun y => hf (by rw [← y]; exact z)]
      exact q
    · refine hR s2 (Moved.trans W.gtrans ((hm.mono up).then_heap (Nat.le_succ _) fun b o z q => ?_) hm2) hS3
      rw [sb.2 b fun y => z (by rw [y]; exact List.mem_cons_self)]
      exact q
end
section
variable {prog : Program} {w : World} {A : Around} {E : Value → Shared → Prop} {s : Shared}
/-- the fresh set's object -/
abbrev raw (led : Bool) : Obj := { cls := .type "set", dict := none, data := .set #[] 0 (.fresh 0 0 led) }
/-- what a made set is worth -/
def Good (prog : Program) (w : World) (s : Shared) (xs : List Str) (h' : Heap) : Prop := Has prog w s.heap.objs.size xs xs.length h' ∧ ∀ b o, b < s.heap.objs.size → s.heap.get? b = some o → h'.get? b = some o
theorem init_run {l : Addr} {items : Array Value} {xs : List Str} {led : Bool} (hh : A.handled = none) (hl : s.heap.IsList l items) (hi : StrsAre items.toList xs) (hb : xs.length + 1 < scanBound) :
    codeAny (model prog w) A (.builtin "set.__init__" ⟨[.ref s.heap.objs.size, .ref l], []⟩) (wants (fun r s2 => r = .none ∧ ∃ h' tk, s2 = { s with heap := h', toks := tk } ∧ Good prog w s xs h') E) { s with heap := s.heap.push (raw led) } := by
  obtain ⟨⟨cl, dc, dt, sl⟩, ho, hc, nl, hd⟩ := hl
  simp only at hc hd
  subst hc hd
  have hp : (s.heap.push (raw led)).get? l = some { cls := .type "list", dict := dc, data := .seq items nl, slots := sl } := Heap.get?_push_of_some _ ho
  have hs : (s.heap.push (raw led)).get? s.heap.objs.size = some (raw led) := Heap.get?_push_size _ rfl
  have x1 := PySem.F.sub_list_set
  have x2 := PySem.F.sub_list_frozenset
  have x3 : (Value.type "list" == Value.type "dict") = false := by decide
  have isl : (s.heap.push (raw led)).IsList l items := ⟨_, hp, rfl, nl, rfl⟩
  have lS : l < s.heap.objs.size := Heap.lt_size ho
  have zz : (s.heap.push (raw led)).objs.size = s.heap.objs.size + 1 := Heap.size_push _ _
  have nl1 : l ≠ (s.heap.push (raw led)).objs.size := Nat.ne_of_lt (by rw [zz]; exact Nat.lt_succ_of_lt lS)
  have eL : xs.length = items.size := by rw [← StrsAre.len_eq hi, Array.length_toList]
  have fp : s.heap.objs.size ∉ [(s.heap.push (raw led)).objs.size, l] := fun z => by
    rcases List.mem_cons.mp z with z | z
    · rw [zz] at z
      exact Nat.ne_of_lt (Nat.lt_succ_self _) z
    · rcases List.mem_cons.mp z with z | z
      · exact Nat.ne_of_gt lS z
      · cases z
  refine codeAny_builtin PySem.F.entry_set_init ?_
  rw [Around.under_plainId PySem.F.called_set.init.plain _]
  unfold Builtin.«set.__init__» noKeywords Builtin.Frozenset.updateFrom
  generalize hI : pyIter = it
  wp_walk
  subst hI
  refine wpAny_pyIter_list isl (wpAny_bind (wpAny_runValue ?_))
  have at' : ∀ (i : Nat) (v : Value), items[i]? = some v → ∃ t, v = .str (xs.getD i Str.empty) t := fun i v hv => SS.strs_at hi i v (by rw [Array.getElem?_toList]; exact hv)
  have hid : ∀ B : Around, B.handled = A.handled → B.handled = none := fun B e => e.trans hh
  refine loop (W := (Walks.list (A := A.in1.in1) (hid A.in1.in1 rfl) _ l nl1 items).toS) fp eL (by rw [← eL]; exact hb) at' items.size 0 _ (by omega) ⟨⟨_, Heap.get?_push_size _ rfl, rfl, rfl⟩, isl.push _⟩ ?_ fun s' hm hN => ?_
  · have g : ((s.heap.push (raw led)).push { cls := .type "list_iterator", data := .fields #[.ref l, .int 0 0] }).get? s.heap.objs.size = some (raw led) := Heap.get?_push_of_some _ hs
    exact SetOf_congr ((setObjOf_fresh (knd := PySem.strKind prog w) led).setOf g (by unfold scanBound; omega)) (fun _ => rfl) rfl
  · obtain ⟨h', g', d', tk', os'⟩ := s'
    obtain rfl : g' = s.gens := hm.gens
    obtain rfl : d' = s.drawn := hm.drawn
    obtain rfl : os' = s.os := hm.os
    refine wpAny_pure (wpAny_pure ⟨rfl, h', tk', rfl, by rw [eL]; exact hN, fun b o hlt e => ?_⟩)
    refine hm.heap b o (fun z => ?_) (Heap.get?_push_of_some _ (Heap.get?_push_of_some _ e))
    rcases List.mem_cons.mp z with z | z
    · exact Nat.ne_of_lt hlt z
    · rcases List.mem_cons.mp z with z | z
      · rw [zz] at z
        exact Nat.ne_of_lt (Nat.lt_succ_of_lt hlt) z
      · cases z
set_option maxHeartbeats 8000000 in
/-- set(l), l a list of texts -/
theorem call_strs {l : Addr} {items : Array Value} {xs : List Str} {Q : Value → Shared → Prop} (hh : A.handled = none) (hl : s.heap.IsList l items) (hi : StrsAre items.toList xs) (hb : xs.length + 1 < scanBound)
    (q : ∀ (h' : Heap) (tk : Nat), Good prog w s xs h' → Q (.ref s.heap.objs.size) { s with heap := h', toks := tk }) : wpAny (model prog w) A (call (.type "set") [.ref l]) Q E s := by
  obtain ⟨c, tl, x0⟩ := PySem.F.called_set.mro
  have x1 := PySem.F.called_set.made
  have x2 := PySem.F.called_set.sub
  refine wpAny_call (codeAny_of_tree (wpAny_pure ⟨Code.quiet_builtin _ (by decide +kernel), codeAny_builtin PySem.F.entry_type_call ?_⟩))
  rw [Around.under_plain (weight_type_call_type "set" [.ref l] []) rfl]
  have x3 := PySem.F.called_set.notType
  have x4 := PySem.F.called_set.canCreate
  have x5 := F.typeCall_set_1 (.ref l)
  repeat (any_goals (first | assumption | wp_step))
  refine codeAny_mono (code_set_new_1 (.ref l) (E := E) (Q₁ := fun v s1 => ∃ led : Bool, v = .ref s.heap.objs.size ∧ s1 = { s with heap := s.heap.push (raw led) }) fun led => ⟨led, rfl, rfl⟩) fun r s1 hr => ?_
  cases r with
  | error e => exact hr
  | ok fl =>
    cases fl with
    | next => exact hr.elim
    | brk => exact hr.elim
    | cont => exact hr.elim
    | ret v =>
      obtain ⟨led, rfl, rfl⟩ := hr
      have y0 : (s.heap.push (raw led)).get? s.heap.objs.size = some (raw led) := Heap.get?_push_size _ rfl
      have y1 : Shared.TypeIs { s with heap := s.heap.push (raw led) } (.ref s.heap.objs.size) "set" := ⟨_, y0, rfl⟩
      have y2 := PySem.F.called_set.init.lookup
      have y3 := PySem.F.called_set.init.bind (.ref s.heap.objs.size)
      repeat (any_goals (first | assumption | wp_step))
      refine codeAny_mono (codeAny_call_builtin_code (R := wants (fun r s2 => r = .none ∧ ∃ h' tk, s2 = { s with heap := h', toks := tk } ∧ Good prog w s xs h') E) (Code.quiet_builtin _ (by decide +kernel)) (check_set_init_1 y1 (init_run (by exact hh) hl hi hb))) fun r2 s2 z => ?_
      cases r2 with
      | error e => exact z
      | ok f2 =>
        cases f2 with
        | next => exact z.elim
        | brk => exact z.elim
        | cont => exact z.elim
        | ret u =>
          obtain ⟨rfl, h', tk, rfl, hg⟩ := z
          repeat (any_goals (first | assumption | wp_step))
          exact q _ _ hg
end
end S2
namespace L2
open PySem PySem.Spec PyProof.Rows
section
variable {X : Cx}
/-- len(set(l)), l a list of texts -/
def tCnt (K : PySem.W.Frag) (ta : TE) : TE := fun σ H Q => ta σ H fun x H1 => ∃ (l : Addr) (zs : List Str), x = .ref l ∧ SqL K H1 l (zs.map V.str) ∧ zs.length ≤ 4000 ∧ Q (.int (S2.cnt zs zs.length : Nat)) H1
theorem pe_cnt {e : Expr} {te : TE} {p p2 pos2 pos : Pos} (hc : X.calm = true) (l1 : Gl X "len") (m1 : X.mg "len" = none) (l2 : Gl X "set") (m2 : X.mg "set" = none) (he : PE X e te)
    (hs : starEach [e] X.env = (false, eval e X.env) :: starEach [] X.env := by rfl) : PE X (.Call (.Name "len" p) [.Call (.Name "set" p2) [e] [] pos2] [] pos) (tCnt X.K te) := by
  constructor
  intro pins s σ H Q I h
  refine Call_ (ld_blt I l1 m1 PySem.boot_len (callWith_builtin1 (args_cons (Call_ (ld_blt I l2 m2 PyProof.Rows.boot_set ?_)) rfl) rfl rfl))
  refine callWith_type1 (args_cons (thn (he.run pins s σ H _ I h) fun v s1 z => args_nil ?_) hs) hs rfl
  obtain ⟨x, H1, I1, rx, l, zs, rfl, hq, hz, q⟩ := z
  cases rx
  obtain ⟨its, rv, pl, _⟩ := I1.list hq
  refine S2.call_strs (I1.ok.hd hc) pl.isList (xs := zs) (by simpa using strsAre_of rv) (by unfold scanBound; omega) fun h' tk hg => args_nil ?_
  obtain ⟨⟨o, es, ep, t, ho, hex, hd, _, _, _, hf, hn⟩, keep⟩ := hg
  have I2 : Inv X pins σ H1 { s1 with heap := h', toks := tk } := I1.kept fun b o e => keep b o (Heap.lt_size e) e
  have small : es.size < 4001 := by
    have z := S2.cnt_le zs zs.length
    omega
  exact call_len_set ho hex hd hf (by omega) ⟨.int (S2.cnt zs zs.length : Nat), H1, I2.tok _, ⟨_, by rw [hn]⟩, q⟩
end
end L2
set_option maxRecDepth 100000
set_option maxHeartbeats 4000000
namespace K6
open PySem PySem.Spec PyProof.Rows L2
/-! ### the names of an order -/
def strOf : PyData → Str
  | .str s => s
  | _ => Str.empty
def namesN : Nat → PyData → List Str
  | 0, _ => []
  | n + 1, d => if eqStr "item" (at0 (tupItems d) 0) = true then [strOf (at0 (tupItems d) 1)] else (tupItems (at0 (tupItems d) 1)).flatMap (namesN n)
theorem flat_len {f : PyData → List Str} {m : Nat} : ∀ {l : List PyData}, (∀ d ∈ l, (f d).length ≤ m) → (l.flatMap f).length ≤ l.length * m
  | [], _ => by simp
  | a :: l, h => by
    have h1 := h a (by simp)
    have h2 := flat_len (l := l) fun d hd => h d (by simp [hd])
    rw [List.flatMap_cons, List.length_append, List.length_cons, Nat.succ_mul]
    omega
/-- what orderB says, one level -/
theorem order_cases {n : Nat} {d : PyData} (h : orderB (n + 1) d = true) : ∃ d0 d1, d = .tuple [d0, d1] ∧ ((eqStr "item" d0 = true ∧ nameB d1 = true) ∨
    (eqStr "item" d0 = false ∧ ∃ es, d1 = .tuple es ∧ 2 ≤ es.length ∧ es.length ≤ 6 ∧ ∀ e ∈ es, orderB n e = true)) := by
  rw [orderB, Bool.and_eq_true] at h
  obtain ⟨ds, rfl, l1, l2⟩ := tupOf_len h.1
  match ds, (show ds.length = 2 by omega) with
  | [d0, d1], _ =>
    refine ⟨d0, d1, rfl, ?_⟩
    have h2 : (if eqStr "item" d0 = true then nameB d1 else ((eqStr "series" d0 || eqStr "parallel" d0) && (tupOf 2 6 d1 && (tupItems d1).all (orderB n)))) = true := h.2
    cases h0 : eqStr "item" d0 with
    | true =>
      rw [h0] at h2
      exact .inl ⟨rfl, h2⟩
    | false =>
      rw [h0] at h2
      have h3 : ((eqStr "series" d0 || eqStr "parallel" d0) && (tupOf 2 6 d1 && (tupItems d1).all (orderB n))) = true := h2
      rw [Bool.and_eq_true, Bool.and_eq_true] at h3
      obtain ⟨es, rfl, l3, l4⟩ := tupOf_len h3.2.1
      exact .inr ⟨rfl, es, rfl, by omega, by omega, List.all_eq_true.mp h3.2.2⟩
theorem names_len : ∀ (n : Nat) (d : PyData), orderB n d = true → (namesN n d).length ≤ 6 ^ n
  | 0, _, _ => by simp [namesN]
  | n + 1, d, h => by
    obtain ⟨d0, d1, rfl, hh⟩ := order_cases h
    have e : namesN (n + 1) (.tuple [d0, d1]) = if eqStr "item" d0 = true then [strOf d1] else (tupItems d1).flatMap (namesN n) := by rw [namesN]; rfl
    have p : 0 < 6 ^ n := Nat.pos_of_ne_zero (by simp)
    rw [e, Nat.pow_succ]
    rcases hh with ⟨h0, _⟩ | ⟨h0, es, rfl, _, l6, hes⟩
    · rw [h0, if_pos rfl]
      show 1 ≤ _
      omega
    · rw [h0, if_neg Bool.false_ne_true]
      have z := flat_len (l := es) fun e he => names_len n e (hes e he)
      have z2 : es.length * 6 ^ n ≤ 6 * 6 ^ n := Nat.mul_le_mul_right _ l6
      show (es.flatMap (namesN n)).length ≤ _
      omega
theorem flat_pre {f : PyData → List Str} {es : List PyData} {i : Nat} {e : PyData} (h : es[i]? = some e) : (es.take (i + 1)).flatMap f = (es.take i).flatMap f ++ f e := by
  rw [List.take_add_one, h]
  simp
theorem flat_take {f : PyData → List Str} (es : List PyData) (i : Nat) : ((es.take i).flatMap f).length ≤ (es.flatMap f).length := by
  have z : es.flatMap f = (es.take i).flatMap f ++ (es.drop i).flatMap f := by rw [← List.flatMap_append, List.take_append_drop]
  rw [z, List.length_append]
  omega
/-- the inner walk of a comprehension -/
theorem in_it {J : It} {n : Nat} {G : Hp → Prop} {Y : Nat → Hp → V → Hp → Prop} (w : Walk J n G Y) {Nx : Hp → Prop} {step : Nat → V → Hp → (Hp → Prop) → Prop} {H4 : Hp} (Pv : Nat → Hp → Prop) (h0 : Pv 0 H4) (hG : ∀ j H, j ≤ n → Pv j H → G H)
    (hs : ∀ j x H H', j < n → Pv j H → Y j H x H' → step j x H' (Pv (j + 1))) (hd : ∀ H, Pv n H → Nx H) :
    ∃ W1 : Nat → Nat → Hp → Prop, (∃ m, W1 0 m H4) ∧ ∀ j k H, W1 j k H → (J.stop j H ∧ Nx H) ∨ (J.go j H ∧ ∃ N1 : Hp → Prop, (∀ H', N1 H' → ∃ k', k' < k ∧ W1 (j + 1) k' H') ∧ ∀ x H', J.yld j H x H' → step j x H' N1) := by
  refine ⟨fun j k H => k + j = n ∧ Pv j H, ⟨n, rfl, h0⟩, fun j k H ⟨e, p⟩ => ?_⟩
  have g := hG j H (by omega) p
  by_cases hj : j < n
  · refine .inr ⟨w.goes j H hj g, Pv (j + 1), fun H' p' => ⟨n - (j + 1), by omega, by omega, p'⟩, fun x H' y => hs j x H H' hj p (w.yields j H x H' hj g y)⟩
  · obtain rfl : j = n := by omega
    exact .inl ⟨w.stops H g, hd H p⟩
def spNames (n : Nat) : Sp := fun vs H Q _ => ∃ (v : V) (d : PyData), vs = [v] ∧ n ≤ 6 ∧ Dat H v d ∧ orderB n d = true ∧ ∀ p H', Same H H' → H p = none → H' p = some (.lst ((namesN n d).map V.str)) → Q (.ref p) H'
abbrev sNames : Stmt := top 10
theorem dat_name {H : Hp} {v : V} {d : PyData} (h : Dat H v d) (hn : nameB d = true) : v = .str (strOf d) := by
  cases h with
  | str x _ => rfl
  | _ => cases hn
section
variable {P : Program} {w : World} {K : PySem.W.Frag} {mg : Str → Option Value} {base : Heap}
theorem scNames : FnScope ["order", "word", "rest", "inner", "name"] ["order"] (defScope sNames) := ⟨rfl, rfl, rfl, by decide +kernel, rfl, by decide +kernel, by decide +kernel⟩
theorem names_body {f : Addr} {fd : FuncData} {k : Nat} {sp : Sp} (F : Fun K "names_of" "names_of" sNames f fd) (b : L2.Binds K fd ["order"] []) (g : mg "names_of" = some (.ref f)) (G : FnOk P w K mg base CX0 k f fd ["order"] sp) (n : Nat)
    (hn : ∀ m, n = m + 1 → n ≤ 6 → ∀ (x : V) (d : PyData) (H : Hp) (R : VK), Dat H x d → orderB m d = true → (∀ p H', Same H H' → H p = none → H' p = some (.lst ((namesN m d).map V.str)) → R (.ref p) H') → sp [x] H R E0) : FnOk P w K mg base CX0 (k + 1) f fd ["order"] (spNames n) := by
  refine F.ok scNames (fun vs H Q E h => ?_) (fun cdv A outer s H vs Q E hr h => ?_)
  · obtain ⟨v, d, rfl, _⟩ := h
    rfl
  · obtain ⟨v, d, rfl, h6, hd, ho, q⟩ := h
    have hu0 := hr.units0
    refine ⟨_, pss_cons (ps_asg (pv 0) (pg_tup rfl (pgs_cons (pg_name (i := 1) scNames.nd rfl (Or.inl rfl)) (pgs_cons (pg_name (i := 2) scNames.nd rfl (Or.inl rfl)) pgs_nil))))
      (pss_cons (ps_if (pt_cmpR (op_eqStr hu0) (pv 1) pe_str (nomark _)) (pss_one (ps_ret (pe_lst (pa_cons (pv 2) pa_nil)))) pss_nil)
      (pss_one (ps_ret (pe_lc2 (own := [("inner", 3), ("name", 4)]) (vs1 := [4]) (g := gName 3) (tt := tYes) (wi1 := iList K (tCall sp [] E0 (tCons (tVar 3) tNil))) (g1 := gName 4) (tt1 := tYes) rfl scNames.nd (pi_tup (pv 2)) (blkOk_by (N := ["order", "word", "rest", "inner", "name"]) (sc := defScope sNames) (by decide +kernel)) (by decide)
          (fun _ _ _ _ _ => pg_name (i := 3) scNames.nd rfl (Or.inl rfl)) (fun _ _ _ _ _ => pts_nil) (fun _ _ _ _ _ => pi_list (pe_call G hr rfl g F.kp b .nil pass0 (pa_cons (pv 3) pa_nil)))
          (fun _ _ _ _ _ => pg_name (i := 4) scNames.nd rfl (Or.inl rfl)) (fun _ _ _ _ _ => pts_nil) (fun _ _ _ _ _ => pv 4))))), ?_⟩
    cases n with
    | zero => exact Bool.noConfusion ((show false = true from ho) : false = true)
    | succ m =>
      have hlen := names_len _ _ ho
      have h66 : 6 ^ (m + 1) ≤ 46656 := by
        have z : 6 ^ (m + 1) ≤ 6 ^ 6 := Nat.pow_le_pow_right (by decide) h6
        exact z
      obtain ⟨d0, d1, rfl, hh⟩ := order_cases ho
      have eN : namesN (m + 1) (.tuple [d0, d1]) = if eqStr "item" d0 = true then [strOf d1] else (tupItems d1).flatMap (namesN m) := by rw [namesN]; rfl
      rw [eN] at q hlen
      cases hd with
      | @tup a xs _ ha hx =>
        cases hx with
        | @cons x0 _ _ _ c0 t0 =>
          cases t0 with
          | @cons x1 _ _ _ c1 t1 =>
            cases t1
            refine ⟨_, rfl, a, _, rfl, SqT.of ha, rfl, _, _, rfl, _, _, rfl, rfl, _, rfl, d0, "item", c0, rfl, _, rfl, ?_⟩
            rcases hh with ⟨h0, hn1⟩ | ⟨h0, es, rfl, l2, l6, hes⟩
            · rw [h0] at q ⊢
              refine if_t rfl ⟨_, rfl, (by show 1 ≤ sizeLine; decide), fun p np => q p _ (same_new np) np ?_⟩
              rw [upd_same, dat_name c1 hn1]
              rfl
            · rw [h0] at q hlen ⊢
              have q1 : ∀ p H', Same H H' → H p = none → H' p = some (.lst ((es.flatMap (namesN m)).map V.str)) → Q (.ref p) H' := q
              have hlen1 : (es.flatMap (namesN m)).length ≤ 6 ^ (m + 1) := hlen
              cases c1 with
              | @tup a2 ys _ ha2 hx2 =>
                have hl2 := hx2.len
                refine if_f rfl ⟨_, rfl, a2, rfl, ⟨_, SqT.of ha2⟩, fun D nD => in_it (walk_tup (K := K) (a := a2) (xs := ys)) (fun i Hx => Same H Hx ∧ Hx D = some (.lst (((es.take i).flatMap (namesN m)).map V.str))) ⟨same_new nD, by rw [upd_same]; rfl⟩ (fun i Hx _ ⟨S, _⟩ => SqT.of (S _ _ ha2)) ?_ ?_⟩
                · rintro i x Hx Hy hi ⟨S, hD⟩ ⟨rfl, hxi⟩
                  obtain ⟨e, hei, te⟩ := hx2.get hxi
                  refine ⟨rfl, _, rfl, hn m rfl h6 x e Hy _ (te.same S) (hes e (List.mem_of_getElem? hei)) fun p H1 S1 np hp => ?_⟩
                  have pD : p ≠ D := fun z => by
                    rw [z, hD] at np
                    cases np
                  refine ⟨p, rfl, ⟨_, SqL.of hp⟩, in_it (walk_list (K := K) (a := p) (xs := (namesN m e).map V.str)) (fun j Hz => Same H Hz ∧ Hz p = some (.lst ((namesN m e).map V.str)) ∧ Hz D = some (.lst (((es.take i).flatMap (namesN m) ++ (namesN m e).take j).map V.str)))
                    ⟨S.trans S1, hp, by rw [List.take_zero, List.append_nil]; exact S1 _ _ hD⟩ (fun j Hz _ ⟨_, h, _⟩ => SqL.of h) ?_ ?_⟩
                  · rintro j y Hz Hz' hj ⟨S2, hp2, hD2⟩ ⟨rfl, hy⟩
                    rw [List.getElem?_map] at hy
                    obtain ⟨nm, hnm, rfl⟩ : ∃ nm, (namesN m e)[j]? = some nm ∧ y = V.str nm := by
                      cases hz : (namesN m e)[j]? with
                      | none =>
                        rw [hz] at hy
                        cases hy
                      | some nm =>
                        rw [hz] at hy
                        exact ⟨nm, rfl, (Option.some.inj hy).symm⟩
                    have hjl : j < (namesN m e).length := (List.getElem?_eq_some_iff.mp hnm).1
                    have tot := flat_take (f := namesN m) es (i + 1)
                    rw [flat_pre hei, List.length_append] at tot
                    refine ⟨rfl, _, rfl, _, hD2, ?_, grow nD S2, ?_, ?_⟩
                    · rw [List.length_map, List.length_append, List.length_take, sizeLine_eq]
                      omega
                    · rw [upd_ne pD]
                      exact hp2
                    · rw [upd_same, List.take_add_one, hnm]
                      simp
                  · rintro Hz ⟨S2, hp2, hD2⟩
                    refine ⟨S2, ?_⟩
                    rw [hD2, List.length_map, List.take_length, flat_pre hei]
                · rintro Hx ⟨S, hD⟩
                  refine q1 D Hx S nD ?_
                  rw [hD, hl2, List.take_length]
/-- names_of(d), d an order of at most n levels -/
theorem ok_names {f : Addr} {fd : FuncData} (F : Fun K "names_of" "names_of" sNames f fd) (b : L2.Binds K fd ["order"] []) (g : mg "names_of" = some (.ref f)) : ∀ n : Nat, FnOk P w K mg base CX0 (1 + n) f fd ["order"] (spNames n)
  | 0 => by
    have z := names_body (P := P) (w := w) (base := base) (k := 0) (sp := fun _ _ _ _ => False) F b g fn_none 0 fun m e => by cases e
    exact z
  | n + 1 => by
    have G := ok_names F b g n
    have z := names_body F b g G (n + 1) fun m e l6 x d H R hd ho hR => by
      obtain rfl : n = m := Nat.succ.inj e
      exact ⟨x, d, rfl, by omega, hd, ho, hR⟩
    rw [show 1 + (n + 1) = 1 + n + 1 by omega]
    exact z
end
end K6
set_option maxRecDepth 100000
set_option maxHeartbeats 4000000
namespace K6
open PySem PySem.Spec PyProof.Rows L2
def orderOk (d : PyData) : Bool := orderB 6 d && (decide (((namesN 6 d).length : Int) ≤ 400) && decide ((S2.cnt (namesN 6 d) (namesN 6 d).length : Int) = ((namesN 6 d).length : Int)))
def pArr (ds : List PyData) : Bool := orderOk (at0 ds 1)
def countOf (d : PyData) : Int := intOf (at0 (tupItems d) 1)
def letterOf (d : PyData) : PyData := at0 (tupItems d) 0
def countsB (d : PyData) : Bool := tupOf 1 6 d && (tupItems d).all countB && (decide (((tupItems d).map countOf).sum ≤ 400) && ascB ((tupItems d).map letterOf))
def pWord (ds : List PyData) : Bool := countsB (at0 ds 1)
/-- [e(x) for x in a tuple], the values known -/
theorem lc_vals {K : PySem.W.Frag} {H : Hp} {a : Addr} {xs : List V} {g : TG} {te : TE} {vs : List Nat} {σ : L2.St} {D : Addr} {Qd : Hp → Prop} (out : Nat → V) (ha : H a = some (.tup xs)) (hz : xs.length ≤ 1000000) (nD : H D = none)
    (hs : ∀ (i : Nat) (x : V) (Hx : Hp), xs[i]? = some x → Same H Hx → ∀ R : VK, (∀ H', Same Hx H' → R (out i) H') → g x (wipe σ vs) Hx fun σ2 H2 => wipe σ2 vs = wipe σ vs ∧ te σ2 H2 R)
    (mono : ∀ (x : V) (Hx : Hp) (A B : L2.St → Hp → Prop), (∀ σ2 H2, A σ2 H2 → B σ2 H2) → g x (wipe σ vs) Hx A → g x (wipe σ vs) Hx B)
    (hd : ∀ Hx, Same H Hx → Hx D = some (.lst ((List.range xs.length).map out)) → Qd Hx) :
    ∃ W : Nat → Nat → Hp → Prop, (∃ m, W 0 m (upd H D (.lst []))) ∧ ∀ i m H, W i m H →
      ((Itt K a).stop i H ∧ Qd H) ∨ ((Itt K a).go i H ∧ ∃ Nx : Hp → Prop, (∀ H', Nx H' → ∃ m', m' < m ∧ W (i + 1) m' H') ∧ ∀ x H', (Itt K a).yld i H x H' → g x (wipe σ vs) H' fun σ2 H2 => wipe σ2 vs = wipe σ vs ∧ tYes σ2 H2 fun b H3 =>
        if b = true then te σ2 H3 fun y H4 => ∃ acc, H4 D = some (.lst acc) ∧ acc.length < sizeLine ∧ Nx (upd H4 D (.lst (acc ++ [y]))) else Nx H3) := by
  refine lc_tup (K := K) (a := a) (xs := xs) (fun j Hx => Same H Hx ∧ Hx D = some (.lst ((List.range j).map out))) ⟨same_new nD, upd_same⟩ (fun j Hx _ ⟨S, _⟩ => SqT.of (S _ _ ha)) ?_ fun Hx ⟨S, hD⟩ => hd Hx S hD
  rintro i x Hx hi ⟨S, hD⟩
  refine mono x Hx _ _ (fun σ2 H2 h => ⟨h.1, ?_⟩) (hs i x Hx hi S (fun y H4 => ∃ acc, H4 D = some (.lst acc) ∧ acc.length < sizeLine ∧ Same H (upd H4 D (.lst (acc ++ [y]))) ∧ upd H4 D (.lst (acc ++ [y])) D = some (.lst ((List.range (i + 1)).map out))) fun H' S' => ?_)
  · dsimp only [tYes]
    first
      | exact if_t rfl h.2
      | exact h.2
  · have hi' : i < xs.length := (List.getElem?_eq_some_iff.mp hi).1
    refine ⟨_, S' _ _ hD, ?_, grow nD (S.trans S'), ?_⟩
    · rw [List.length_map, List.length_range, sizeLine_eq]
      omega
    · rw [upd_same, List.range_succ, List.map_append]
      rfl
theorem range_map {α : Type} (ds : List PyData) (f : PyData → α) (g : Nat → α) (h : ∀ i d, ds[i]? = some d → g i = f d) : (List.range ds.length).map g = ds.map f := by
  apply List.ext_getElem?
  intro i
  rw [List.getElem?_map, List.getElem?_map]
  by_cases hi : i < ds.length
  · rw [List.getElem?_range hi, List.getElem?_eq_getElem hi]
    show some (g i) = some (f ds[i])
    rw [h i ds[i] (List.getElem?_eq_getElem hi)]
  · rw [List.getElem?_eq_none (by rw [List.length_range]; omega), List.getElem?_eq_none (by omega)]
    rfl
section
variable {P : Program} {w : World} {K : PySem.W.Frag} {mg : Str → Option Value} {base : Heap}
theorem dec_int (i j : Int) : decide (V.int i = V.int j) = decide (i = j) := by
  by_cases h : i = j
  · rw [h, decide_eq_true rfl, decide_eq_true rfl]
  · rw [decide_eq_false h]
    exact decide_eq_false fun z => h (by injection z)
/-- what countB says -/
theorem count_cases {d : PyData} (h : countB d = true) : ∃ d0 i, d = .tuple [d0, .int i] ∧ nameB d0 = true ∧ 1 ≤ i ∧ i ≤ 400 := by
  unfold countB at h
  rw [Bool.and_eq_true, Bool.and_eq_true] at h
  obtain ⟨ds, rfl, l1, l2⟩ := tupOf_len h.1
  match ds, (show ds.length = 2 by omega), h with
  | [d0, d1], _, h =>
    obtain ⟨i, e, i1, i2⟩ := btw_int (show btw 1 400 d1 = true from h.2.2)
    subst e
    exact ⟨d0, i, rfl, h.2.1, i1, i2⟩
theorem name_str {d : PyData} (h : nameB d = true) : ∃ s, d = .str s ∧ s.length ≤ 6 := by
  cases d with
  | str s =>
    have h' : (decide (1 ≤ (s.length : Int)) && decide ((s.length : Int) ≤ 6) && s.cps.toList.all azB) = true := h
    rw [Bool.and_eq_true, Bool.and_eq_true] at h'
    have z := of_decide_eq_true h'.1.2
    exact ⟨s, rfl, by omega⟩
  | _ => cases h
theorem datAll_strs {H : Hp} : ∀ {ds : List PyData}, (∀ d ∈ ds, ∃ s, d = .str s ∧ s.length ≤ 6) → DatAll H (ds.map fun d => V.str (strOf d)) ds
  | [], _ => .nil
  | d :: ds, h => by
    obtain ⟨s, rfl, hs⟩ := h d (by simp)
    exact .cons (.str s (by omega)) (datAll_strs fun e he => h e (by simp [he]))
end
end K6
set_option maxRecDepth 100000
set_option maxHeartbeats 4000000
namespace K6
open PySem PySem.Spec PyProof.Rows L2
def startOf (d : PyData) : PyData := .tuple [at0 (tupItems d) 0, at0 (tupItems d) 1]
def lettersOf (d : PyData) : List Str := (tupItems d).map fun m => strOf (at0 (tupItems m) 1)
def movesB (d : PyData) : Bool := tupOf 0 48 d && (tupItems d).all moveB && (ascB ((tupItems d).map startOf) && decide ((S2.cnt (lettersOf d) (lettersOf d).length : Int) ≤ 6))
def autoB (d : PyData) : Bool := tupOf 2 2 d && (movesB (at0 (tupItems d) 0) && statesB (at0 (tupItems d) 1))
def pString (ds : List PyData) : Bool := btw 0 60 (at0 ds 2) && autoB (at0 ds 1)
theorem move_cases {d : PyData} (h : moveB d = true) : ∃ (s : Int) (l : Str) (r : Int), d = .tuple [.int s, .str l, .int r] ∧ 0 ≤ s ∧ s ≤ 7 ∧ 0 ≤ r ∧ r ≤ 7 ∧ nameB (.str l) = true ∧ l.length ≤ 6 := by
  unfold moveB at h
  rw [Bool.and_eq_true, Bool.and_eq_true, Bool.and_eq_true] at h
  obtain ⟨ds, rfl, l1, l2⟩ := tupOf_len h.1
  match ds, (show ds.length = 3 by omega), h with
  | [d0, d1, d2], _, h =>
    obtain ⟨s, e0, s0, s7⟩ := btw_int (show btw 0 7 d0 = true from h.2.1)
    obtain ⟨r, e2, r0, r7⟩ := btw_int (show btw 0 7 d2 = true from h.2.2.2)
    have hn : nameB d1 = true := h.2.2.1
    obtain ⟨l, e1, hl⟩ := name_str hn
    subst e0 e1 e2
    exact ⟨s, l, r, rfl, s0, s7, r0, r7, hn, hl⟩
theorem datAll_of {H : Hp} : ∀ {ts : List V} {es : List PyData}, ts.length = es.length → (∀ (k : Nat) (y : V), ts[k]? = some y → ∃ d : PyData, es[k]? = some d ∧ Dat H y d) → DatAll H ts es
  | [], [], _, _ => .nil
  | y :: ts, e :: es, hl, h => by
    obtain ⟨d, hd, td⟩ := h 0 y rfl
    have hd' : e = d := Option.some.inj hd
    subst hd'
    exact .cons td (datAll_of (by simpa using hl) fun k z hz => h (k + 1) z hz)
theorem asc_starts {ds : List PyData} (h : ∀ d ∈ ds, moveB d = true) : AscOk (ds.map startOf) := fun i hi => by
  rw [List.length_map] at hi
  have g : ∀ j, j < ds.length → ∃ s l, (ds.map startOf).getD j .none = .tuple [.int s, .str l] := fun j hj => by
    obtain ⟨s, l, r, e, _⟩ := move_cases (h ds[j] (List.getElem_mem hj))
    refine ⟨s, l, ?_⟩
    rw [List.getD_eq_getElem?_getD, List.getElem?_map, List.getElem?_eq_getElem hj, e]
    rfl
  obtain ⟨s1, l1, e1⟩ := g i (by omega)
  obtain ⟨s2, l2, e2⟩ := g (i + 1) hi
  rw [e1, e2]
  exact ⟨by simp [PySem.W.alike, PySem.W.alikeAll], by simp, by simp [PyData.depth, PyData.depthAll]⟩
section
variable {P : Program} {w : World} {K : PySem.W.Frag} {mg : Str → Option Value} {base : Heap}
end
end K6
set_option maxRecDepth 100000
set_option maxHeartbeats 4000000
namespace L2
open PySem PySem.Spec PyProof.Rows
section
variable {X : Cx} {d : Addr} {es : Array DictEntry} {n : Nat}
/-- d[key], d a written dict of the module -/
def rIxKd (K : PySem.W.Frag) (d : Addr) : R2 := fun x y H Q => ∃ (z : Str) (u0 : Value) (v0 : V), x = .ref d ∧ y = .str z ∧ PySem.W.nsIn K d z = some (some u0) ∧ RelV v0 u0 ∧ Q v0 H
theorem ix_kd (D : KDict X.K X.w d es n) : IxR X (rIxKd X.K d) := by
  intro value slice pins s σ H x y v u Q I rx ry h hs
  have h2 := op_item_kd D pins s σ H x y v u Q I rx ry h
  obtain ⟨z, u0, v0, rfl, _⟩ := h
  cases rx
  exact tail_any (kd_type D I) PySem.F.slot_dict_getitem.lookup h2 hs
def rNotInKd (K : PySem.W.Frag) (d : Addr) : R2 := fun x y H Q => ∃ (z : Str) (r : Option Value), x = .str z ∧ y = .ref d ∧ PySem.W.nsIn K d z = some r ∧ Q (.bl (!r.isSome)) H
theorem op_notInKd (D : KDict X.K X.w d es n) : OpR X (compareOp .NotIn) (rNotInKd X.K d) := op_notIn_kd D
end
end L2
namespace K6
open PySem PySem.Spec PyProof.Rows L2
/-- one kind of space: its length, its check -/
structure Kind where
  len : Nat
  f : Addr
  p : List PyData → Bool
def kindP (T : Str → Option Kind) : PyData → Bool
  | .tuple (.str z :: ds) => match T z with
    | some c => decide (ds.length + 1 = c.len) && c.p (.str z :: ds)
    | none => false
  | _ => false
section
variable {P : Program} {w : World} {K : PySem.W.Frag} {mg : Str → Option Value} {base : Heap}
/-- what is known of the two dicts: S tells the promise of the def at an address -/
structure Kinds (P : Program) (w : World) (K : PySem.W.Frag) (mg : Str → Option Value) (base : Heap) (T : Str → Option Kind) (dL dC : Addr) (S : Addr → Option Sp) : Prop where
  gL : mg "LENGTHS" = some (.ref dL)
  gC : mg "CHECKS" = some (.ref dC)
  kL : ∃ es n, KDict K w dL es n
  kC : ∃ es n, KDict K w dC es n
  L0 : ∀ z, T z = none → PySem.W.nsIn K dL z = some none
  L1 : ∀ z c, T z = some c → ∃ t, PySem.W.nsIn K dL z = some (some (.int c.len t))
  C1 : ∀ z c, T z = some c → PySem.W.nsIn K dC z = some (some (.ref c.f))
  held : ∀ f sp, S f = some sp → Held P w K mg base 10 f sp
  at_ : ∀ z c, T z = some c → ∃ sp, S c.f = some sp ∧ ∀ (H : Hp) (a : Addr) (xs : List V) (ds : List PyData) (Q : VK), H a = some (.tup xs) → DatAll H xs ds → ds.length = c.len → ds.head? = some (.str z) → (∀ H', Same H H' → Q (.bl (c.p ds)) H') → sp [.ref a] H Q E0
end
end K6
set_option maxRecDepth 100000
set_option maxHeartbeats 4000000
namespace K6
open PySem PySem.Spec PyProof.Rows L2
/-! ### decorated spaces; the kinds by their words; what stands in a space -/
def pDeco (ds : List PyData) : Bool := countsB (at0 ds 1) && tupOf ((tupItems (at0 ds 1)).length : Int) ((tupItems (at0 ds 1)).length : Int) (at0 ds 2)
def kinds : List (Str × Nat × (List PyData → Bool)) := [("subset", 3, pSubset), ("word", 2, pWord), ("arrangement", 2, pArr), ("walk", 6, pWalk), ("cycle", 2, pCycle), ("matching", 2, pMatching), ("permutation", 3, pPerm), ("tree", 2, pTree), ("string", 3, pString),
  ("product", 2, pRow), ("choice", 2, pRow), ("power", 3, pPower), ("decorated", 3, pDeco)]
/-- a part, whatever the nested spaces in it are -/
def partB : PyData → Bool
  | .tuple (.str z :: ds) => match kinds.lookup z with
    | some c => decide (ds.length + 1 = c.1) && c.2 (.str z :: ds)
    | none => false
  | _ => false
def nestedD (d : PyData) : List PyData :=
  if eqStr "product" (at0 (tupItems d) 0) = true then tupItems (at0 (tupItems d) 1) else if eqStr "choice" (at0 (tupItems d) 0) = true then tupItems (at0 (tupItems d) 1)
  else if eqStr "power" (at0 (tupItems d) 0) = true then [at0 (tupItems d) 2] else if eqStr "decorated" (at0 (tupItems d) 0) = true then tupItems (at0 (tupItems d) 2) else []
abbrev sNested : Stmt := top 13
def spNested : Sp := fun vs H Q _ => ∃ (v : V) (d : PyData) (G : Hp), vs = [v] ∧ Same G H ∧ Dat G v d ∧ partB d = true ∧ ∀ (p : Addr) (ys : List V) (H' : Hp), Same H H' → H' p = some (.tup ys) → DatAll G ys (nestedD d) → Q (.ref p) H'
/-- the shape of a part by its word -/
theorem part_cases {d : PyData} (h : partB d = true) : ∃ (z : Str) (ds : List PyData), d = .tuple (.str z :: ds) ∧ (z = "product" → ∃ es, ds = [.tuple es] ∧ es.length ≤ 6) ∧ (z = "choice" → ∃ es, ds = [.tuple es] ∧ es.length ≤ 6) ∧ (z = "power" → ∃ n e, ds = [n, e]) ∧ (z = "decorated" → ∃ c es, ds = [c, .tuple es] ∧ es.length ≤ 6) := by
  match d, h with
  | .tuple (.str z :: ds), h =>
    have h' : (match kinds.lookup z with
      | some c => decide (ds.length + 1 = c.1) && c.2 (.str z :: ds)
      | none => false) = true := h
    refine ⟨z, ds, rfl, fun e => ?_, fun e => ?_, fun e => ?_, fun e => ?_⟩
    · subst e
      have e2 : kinds.lookup ("product" : Str) = some (2, pRow) := by rfl
      rw [e2, Bool.and_eq_true] at h'
      match ds, of_decide_eq_true h'.1, h'.2 with
      | [d1], _, h2 =>
        obtain ⟨es, e, _, h6⟩ := tupOf_len (show tupOf 1 6 d1 = true from h2)
        exact ⟨es, by rw [e], by omega⟩
    · subst e
      have e2 : kinds.lookup ("choice" : Str) = some (2, pRow) := by rfl
      rw [e2, Bool.and_eq_true] at h'
      match ds, of_decide_eq_true h'.1, h'.2 with
      | [d1], _, h2 =>
        obtain ⟨es, e, _, h6⟩ := tupOf_len (show tupOf 1 6 d1 = true from h2)
        exact ⟨es, by rw [e], by omega⟩
    · subst e
      have e2 : kinds.lookup ("power" : Str) = some (3, pPower) := by rfl
      rw [e2, Bool.and_eq_true] at h'
      match ds, of_decide_eq_true h'.1 with
      | [d1, d2], _ => exact ⟨d1, d2, rfl⟩
    · subst e
      have e2 : kinds.lookup ("decorated" : Str) = some (3, pDeco) := by rfl
      rw [e2, Bool.and_eq_true] at h'
      match ds, of_decide_eq_true h'.1, h'.2 with
      | [d1, d2], _, h2 =>
        have h3 : (countsB d1 && tupOf ((tupItems d1).length : Int) ((tupItems d1).length : Int) d2) = true := h2
        rw [Bool.and_eq_true] at h3
        obtain ⟨es, e, _, hn⟩ := tupOf_len h3.2
        have hc := h3.1
        unfold countsB at hc
        rw [Bool.and_eq_true, Bool.and_eq_true] at hc
        obtain ⟨cs, ec, _, h6⟩ := tupOf_len hc.1.1
        have el : (tupItems d1).length = cs.length := by rw [ec]; rfl
        exact ⟨d1, es, by rw [e], by omega⟩
section
variable {P : Program} {w : World} {K : PySem.W.Frag} {mg : Str → Option Value} {base : Heap}
theorem scNested : FnScope ["space", "kind"] ["space"] (defScope sNested) := ⟨rfl, rfl, rfl, by decide +kernel, rfl, by decide +kernel, by decide +kernel⟩
theorem ok_nested {f : Addr} {fd : FuncData} (F : Fun K "nested_spaces" "nested_spaces" sNested f fd) : FnOk P w K mg base CX0 1 f fd ["space"] spNested := by
  refine F.ok scNested (fun vs H Q E h => ?_) (fun cdv A outer s H vs Q E hr h => ?_)
  · obtain ⟨v, d, G, rfl, _⟩ := h
    rfl
  · obtain ⟨v, d, G, rfl, S0, hd, hp, q⟩ := h
    have hu0 := hr.units0
    have hu1 := hu_of hr
    refine ⟨_, pss_cons (ps_set (i := 1) scNested.nd rfl (Or.inl rfl) (pe_ix ix_tup (pv 0) pe_int (fun _ _ => rfl)))
      (pss_cons (ps_if (pt_cmpR (op_inStrs hu1) (pv 1) (pe_tup (pa_cons pe_str (pa_cons pe_str pa_nil))) rfl) (pss_one (ps_ret (pe_ix ix_tup (pv 0) pe_int (fun _ _ => rfl)))) pss_nil)
      (pss_cons (ps_if (pt_cmpR (op_eqStr hu0) (pv 1) pe_str (nomark _)) (pss_one (ps_ret (pe_tup (pa_cons (pe_ix ix_tup (pv 0) pe_int (fun _ _ => rfl)) pa_nil)))) pss_nil)
      (pss_cons (ps_if (pt_cmpR (op_eqStr hu0) (pv 1) pe_str (nomark _)) (pss_one (ps_ret (pe_ix ix_tup (pv 0) pe_int (fun _ _ => rfl)))) pss_nil)
      (pss_one (ps_ret (pe_tup pa_nil)))))), ?_⟩
    obtain ⟨z, ds, rfl, k1, k2, k3, k4⟩ := part_cases hp
    cases hd with
    | @tup a xs _ ha hx =>
      cases hx with
      | @cons x0 xs' _ _ c0 cs =>
        cases c0 with
        | str _ hz =>
          refine ⟨_, rfl, a, _, _, _, rfl, rfl, SqT.of (S0 _ _ ha), atI_nat (j := 0) rfl, _, rfl, (by show 2 ≤ sizeLine; decide), fun p np => ?_⟩
          have Sp := same_new (o := HO.tup [.str "product", .str "choice"]) np
          have hpp : upd H p (.tup [.str "product", .str "choice"]) p = some (.tup [.str "product", .str "choice"]) := upd_same
          generalize upd H p (.tup [.str "product", .str "choice"]) = H1 at Sp hpp ⊢
          refine ⟨.str z, p, ["product", "choice"], .str z hz, rfl, hpp, _, rfl, ?_⟩
          have eAny : (["product", "choice"] : List Str).any (fun y => eqStr y (.str z)) = ((z == "product") || (z == "choice")) := by
            rw [List.any_cons, List.any_cons, List.any_nil, Bool.or_false]
            rfl
          show (if (["product", "choice"] : List Str).any (fun y => eqStr y (.str z)) = true then _ else _)
          rw [eAny]
          have q1 : ∀ (p : Addr) (ys : List V) (H' : Hp), Same H H' → H' p = some (.tup ys) → DatAll G ys (if (z == "product") = true then tupItems (at0 (.str z :: ds) 1) else if (z == "choice") = true then tupItems (at0 (.str z :: ds) 1)
              else if (z == "power") = true then [at0 (.str z :: ds) 2] else if (z == "decorated") = true then tupItems (at0 (.str z :: ds) 2) else []) → Q (.ref p) H' := q
          cases b1 : (z == "product") with
          | true =>
            rw [b1] at q1
            obtain ⟨es, rfl, _⟩ := k1 (beq_iff_eq.mp b1)
            cases cs with
            | cons c1 c2 =>
              cases c2
              cases c1 with
              | @tup a1 ys _ ha1 hy =>
                exact if_t rfl ⟨_, rfl, a, _, _, _, rfl, rfl, SqT.of (Sp _ _ (S0 _ _ ha)), atI_nat (j := 1) rfl, q1 a1 ys H1 Sp (Sp _ _ (S0 _ _ ha1)) hy⟩
          | false =>
            rw [b1] at q1
            cases b2 : (z == "choice") with
            | true =>
              rw [b2] at q1
              obtain ⟨es, rfl, _⟩ := k2 (beq_iff_eq.mp b2)
              cases cs with
              | cons c1 c2 =>
                cases c2
                cases c1 with
                | @tup a1 ys _ ha1 hy =>
                  exact if_t rfl ⟨_, rfl, a, _, _, _, rfl, rfl, SqT.of (Sp _ _ (S0 _ _ ha)), atI_nat (j := 1) rfl, q1 a1 ys H1 Sp (Sp _ _ (S0 _ _ ha1)) hy⟩
            | false =>
              rw [b2] at q1
              refine if_f rfl ⟨_, rfl, .str z, "power", .str z hz, rfl, _, rfl, ?_⟩
              show (if (z == "power") = true then _ else _)
              cases b3 : (z == "power") with
              | true =>
                rw [b3] at q1
                obtain ⟨n, e, rfl⟩ := k3 (beq_iff_eq.mp b3)
                cases cs with
                | @cons y1 _ _ _ c1 c2 =>
                  cases c2 with
                  | @cons y2 _ _ _ c3 c4 =>
                    cases c4
                    refine if_t rfl ⟨_, rfl, a, _, _, _, rfl, rfl, SqT.of (Sp _ _ (S0 _ _ ha)), atI_nat (j := 2) rfl, (by show 1 ≤ sizeLine; decide), fun p2 np2 => ?_⟩
                    have S2 := Sp.trans (same_new (o := HO.tup [y2]) np2)
                    exact q1 p2 [y2] _ S2 upd_same (.cons c3 .nil)
              | false =>
                rw [b3] at q1
                refine if_f rfl ⟨_, rfl, .str z, "decorated", .str z hz, rfl, _, rfl, ?_⟩
                show (if (z == "decorated") = true then _ else _)
                cases b4 : (z == "decorated") with
                | true =>
                  rw [b4] at q1
                  obtain ⟨c, es, rfl, _⟩ := k4 (beq_iff_eq.mp b4)
                  cases cs with
                  | @cons y1 _ _ _ c1 c2 =>
                    cases c2 with
                    | @cons y2 _ _ _ c3 c4 =>
                      cases c4
                      cases c3 with
                      | @tup a1 ys _ ha1 hy =>
                        exact if_t rfl ⟨_, rfl, a, _, _, _, rfl, rfl, SqT.of (Sp _ _ (S0 _ _ ha)), atI_nat (j := 2) rfl, q1 a1 ys H1 Sp (Sp _ _ (S0 _ _ ha1)) hy⟩
                | false =>
                  rw [b4] at q1
                  refine if_f rfl ⟨(by show 0 ≤ sizeLine; decide), fun p2 np2 => ?_⟩
                  exact q1 p2 [] _ (Sp.trans (same_new np2)) upd_same .nil
end
end K6
set_option maxRecDepth 100000
set_option maxHeartbeats 8000000
namespace K6
open PySem PySem.Spec PyProof.Rows L2
theorem nested_len {d : PyData} (h : partB d = true) : (nestedD d).length ≤ 6 := by
  obtain ⟨z, ds, rfl, k1, k2, k3, k4⟩ := part_cases h
  show (if (z == "product") = true then tupItems (at0 (.str z :: ds) 1) else if (z == "choice") = true then tupItems (at0 (.str z :: ds) 1)
    else if (z == "power") = true then [at0 (.str z :: ds) 2] else if (z == "decorated") = true then tupItems (at0 (.str z :: ds) 2) else []).length ≤ 6
  split
  · rename_i e
    obtain ⟨es, rfl, h6⟩ := k1 (beq_iff_eq.mp e)
    exact h6
  · split
    · rename_i e
      obtain ⟨es, rfl, h6⟩ := k2 (beq_iff_eq.mp e)
      exact h6
    · split
      · show 1 ≤ 6
        decide
      · split
        · rename_i e
          obtain ⟨c, es, rfl, h6⟩ := k4 (beq_iff_eq.mp e)
          exact h6
        · show 0 ≤ 6
          decide
/-- level by level -/
def wfB : Nat → Nat → List PyData → Bool
  | 0, _, l => l.isEmpty
  | k + 1, p, l => if p + l.length > 40 then false else if l.all partB = false then false else wfB k (p + l.length) (l.flatMap nestedD)
def isWf (d : PyData) : Bool := wfB 6 0 [d]
/-- [p(x) for x in a list] -/
theorem lc_allL {K : PySem.W.Frag} {H : Hp} {a : Addr} {xs : List V} {ds : List PyData} {g : TG} {te : TE} {vs : List Nat} {σ : L2.St} {D : Addr} {Qd : Hp → Prop} (p : PyData → Bool) (ha : H a = some (.lst xs)) (hx : DatAll H xs ds) (hz : xs.length ≤ 1000000) (nD : H D = none)
    (hs : ∀ (i : Nat) (x : V) (d : PyData) (Hx : Hp), xs[i]? = some x → ds[i]? = some d → Dat Hx x d → Same H Hx → ∀ R : VK, (∀ H', Same Hx H' → R (.bl (p d)) H') → g x (wipe σ vs) Hx fun σ2 H2 => wipe σ2 vs = wipe σ vs ∧ te σ2 H2 R)
    (mono : ∀ (x : V) (Hx : Hp) (A B : L2.St → Hp → Prop), (∀ σ2 H2, A σ2 H2 → B σ2 H2) → g x (wipe σ vs) Hx A → g x (wipe σ vs) Hx B)
    (hd : ∀ Hx, Same H Hx → Hx D = some (.lst ((ds.map p).map V.bl)) → Qd Hx) :
    ∃ W : Nat → Nat → Hp → Prop, (∃ m, W 0 m (upd H D (.lst []))) ∧ ∀ i m H, W i m H →
      ((Itl K a).stop i H ∧ Qd H) ∨ ((Itl K a).go i H ∧ ∃ Nx : Hp → Prop, (∀ H', Nx H' → ∃ m', m' < m ∧ W (i + 1) m' H') ∧ ∀ x H', (Itl K a).yld i H x H' → g x (wipe σ vs) H' fun σ2 H2 => wipe σ2 vs = wipe σ vs ∧ tYes σ2 H2 fun b H3 =>
        if b = true then te σ2 H3 fun y H4 => ∃ acc, H4 D = some (.lst acc) ∧ acc.length < sizeLine ∧ Nx (upd H4 D (.lst (acc ++ [y]))) else Nx H3) := by
  refine lc_list (K := K) (a := a) (xs := xs) (fun j Hx => Same H Hx ∧ Hx D = some (.lst (((ds.take j).map p).map V.bl))) ⟨same_new nD, upd_same⟩ (fun j Hx _ ⟨S, _⟩ => SqL.of (S _ _ ha)) ?_ ?_
  · rintro i x Hx hi ⟨S, hD⟩
    obtain ⟨d, hdi, td⟩ := hx.get hi
    refine mono x Hx _ _ (fun σ2 H2 h => ⟨h.1, ?_⟩) (hs i x d Hx hi hdi (td.same S) S (fun y H4 => ∃ acc, H4 D = some (.lst acc) ∧ acc.length < sizeLine ∧ Same H (upd H4 D (.lst (acc ++ [y]))) ∧ upd H4 D (.lst (acc ++ [y])) D = some (.lst (((ds.take (i + 1)).map p).map V.bl))) fun H' S' => ?_)
    · dsimp only [tYes]
      first
        | exact if_t rfl h.2
        | exact h.2
    · have hi' : i < xs.length := (List.getElem?_eq_some_iff.mp hi).1
      refine ⟨_, S' _ _ hD, ?_, grow nD (S.trans S'), ?_⟩
      · rw [List.length_map, List.length_map, List.length_take, sizeLine_eq]
        omega
      · rw [upd_same, List.take_add_one, hdi]
        simp
  · rintro Hx ⟨S, hD⟩
    refine hd Hx S ?_
    rw [hD, hx.len, List.take_of_length_le (Nat.le_refl _)]
theorem flatD_len {m : Nat} {f : PyData → List PyData} : ∀ {l : List PyData}, (∀ d ∈ l, (f d).length ≤ m) → (l.flatMap f).length ≤ l.length * m
  | [], _ => by simp
  | a :: l, h => by
    have h1 := h a (by simp)
    have h2 := flatD_len (l := l) fun d hd => h d (by simp [hd])
    rw [List.flatMap_cons, List.length_append, List.length_cons, Nat.succ_mul]
    omega
theorem datAll_append {H : Hp} : ∀ {xs ys : List V} {ds es : List PyData}, DatAll H xs ds → DatAll H ys es → DatAll H (xs ++ ys) (ds ++ es)
  | _, _, _, _, .nil, t => t
  | _, _, _, _, .cons h t, u => .cons h (datAll_append t u)
section
variable {P : Program} {w : World} {K : PySem.W.Frag} {mg : Str → Option Value} {base : Heap}
end
end K6
set_option maxRecDepth 100000
set_option maxHeartbeats 4000000
namespace K6
open PySem PySem.Spec PyProof.Rows L2
/-! ### powers, by squares: a base up to 400, an exponent up to 4,000 -/
abbrev sRaise : Stmt := top 3
theorem pow_small {b k : Nat} (hb : b ≤ 400) (h : k ≤ 4096) : ((b : Int) ^ k).natAbs < 2 ^ 36865 := by
  have e : ((b : Int) ^ k).natAbs = b ^ k := by rw [Int.natAbs_pow]; rfl
  rw [e]
  have h1 : b ^ k ≤ 512 ^ k := Nat.pow_le_pow_left (by omega) k
  have h2 : 512 ^ k = 2 ^ (9 * k) := by rw [Nat.pow_mul]
  have h3 : 2 ^ (9 * k) < 2 ^ 36865 := Nat.pow_lt_pow_right (by decide) (by omega)
  exact Nat.lt_of_le_of_lt h1 (by rw [h2]; exact h3)
def spRaise : Sp := fun vs H Q _ => ∃ b e : Nat, vs = [.int b, .int e] ∧ b ≤ 400 ∧ e ≤ 4000 ∧ Q (.int ((b ^ e : Nat) : Int)) H
section
variable {P : Program} {w : World} {K : PySem.W.Frag} {mg : Str → Option Value} {base : Heap}
theorem scRaise : FnScope ["base", "exponent", "result", "square", "rest"] ["base", "exponent"] (defScope sRaise) := ⟨rfl, rfl, rfl, by decide +kernel, rfl, by decide +kernel, by decide +kernel⟩
theorem ok_raise {f : Addr} {fd : FuncData} (F : Fun K "raise_to" "raise_to" sRaise f fd) : FnOk P w K mg base CX0 1 f fd ["base", "exponent"] spRaise := by
  refine F.ok scRaise (fun vs H Q E h => ?_) (fun cdv A outer s H vs Q E hr h => ?_)
  · obtain ⟨b, e, rfl, _⟩ := h
    rfl
  · obtain ⟨b, e, rfl, hb, he, q⟩ := h
    refine ⟨_, pss_cons (ps_set (i := 2) scRaise.nd rfl (Or.inl rfl) pe_int)
      (pss_cons (ps_set (i := 3) scRaise.nd rfl (Or.inl rfl) (pv 0))
      (pss_cons (ps_set (i := 4) scRaise.nd rfl (Or.inl rfl) (pv 1))
      (pss_cons (ps_while PassesOwn.never (pt_cmpR op_gt (pv 4) pe_int (nomark _))
        (pss_cons (ps_if (pt_cmpR op_eq (pe_op op_odd (pv 4) pe_int) pe_int (nomark _)) (pss_one (ps_set (i := 2) scRaise.nd rfl (Or.inl rfl) (pe_op op_mulW (pv 2) (pv 3)))) pss_nil)
        (pss_cons (ps_set (i := 3) scRaise.nd rfl (Or.inl rfl) (pe_op op_mulW (pv 3) (pv 3)))
        (pss_one (ps_set (i := 4) scRaise.nd rfl (Or.inl rfl) (pe_op op_fdiv (pv 4) pe_int))))))
      (pss_one (ps_ret (pv 2)))))), ?_⟩
    have start : [some (V.int b), some (V.int e), some (V.int 1), some (V.int b), some (V.int e)] = [some (V.int b), some (V.int e), some (V.int ((b : Int) ^ (e % 2 ^ 0))), some (V.int ((b : Int) ^ 2 ^ 0)), some (V.int ((e / 2 ^ 0 : Nat) : Int))] := by
      rw [Nat.pow_zero, Nat.mod_one, Nat.div_one, Int.pow_zero, Int.pow_succ, Int.pow_zero, Int.one_mul]
    refine ⟨_, rfl, _, rfl, while_by (fun σ Hx => ∃ i : Nat, i ≤ 12 ∧ Hx = H ∧ σ = [some (.int b), some (.int e), some (.int ((b : Int) ^ (e % 2 ^ i))), some (.int ((b : Int) ^ 2 ^ i)), some (.int ((e / 2 ^ i : Nat) : Int))])
      (fun σ _ => match σ with | [_, _, _, _, some (.int n)] => n.toNat | _ => 0) ⟨0, by decide, rfl, start⟩ ?_ ?_⟩
    · rintro σ Hx ⟨i, hi, rfl, rfl⟩
      refine ⟨_, rfl, _, _, rfl, rfl, _, rfl, ?_⟩
      by_cases pos : 0 < e / 2 ^ i
      · have hpw : 0 < 2 ^ i := Nat.pow_pos (by decide)
        have a4 : 2 ^ i ≤ e := by
          rcases Nat.lt_or_ge e (2 ^ i) with z | z
          · rw [Nat.div_eq_of_lt z] at pos
            omega
          · exact z
        have i12 : i < 12 := by
          rcases Nat.lt_or_ge i 12 with z | z
          · exact z
          · have y : 2 ^ 12 ≤ 2 ^ i := Nat.pow_le_pow_right (by decide) z
            omega
        have a5 : e % 2 ^ i ≤ 4000 := Nat.le_trans (Nat.mod_le _ _) he
        have am : e % 2 ^ (i + 1) = e % 2 ^ i + 2 ^ i * (e / 2 ^ i % 2) := Nat.mod_pow_succ
        have a3 : e / 2 ^ i / 2 = e / 2 ^ (i + 1) := by rw [Nat.div_div_eq_div_mul, Nat.pow_succ]
        have e2 : ((b : Int) ^ 2 ^ i * (b : Int) ^ 2 ^ i) = (b : Int) ^ 2 ^ (i + 1) := by rw [← Int.pow_add, Nat.pow_succ, Nat.mul_two]
        have e3 : ((e / 2 ^ i : Nat) : Int) / 2 = ((e / 2 ^ (i + 1) : Nat) : Int) := by
          rw [← a3]
          rfl
        have sq : CMulW ((b : Int) ^ 2 ^ i) ((b : Int) ^ 2 ^ i) := wide_mul (pow_small hb (by omega)) (pow_small hb (by omega)) (by decide) (by decide) (by decide)
        have mu : ∀ x : Int, x = ((e / 2 ^ (i + 1) : Nat) : Int) → x.toNat < ((e / 2 ^ i : Nat) : Int).toNat := fun x hx => by
          rw [hx, ← a3, Int.toNat_natCast, Int.toNat_natCast]
          omega
        refine if_t (decide_eq_true (by omega)) ⟨_, rfl, e / 2 ^ i, rfl, rfl, rfl, _, rfl, ?_⟩
        by_cases odd : e / 2 ^ i % 2 = 1
        · have e1 : ((b : Int) ^ (e % 2 ^ i) * (b : Int) ^ 2 ^ i) = (b : Int) ^ (e % 2 ^ (i + 1)) := by rw [← Int.pow_add, am, odd, Nat.mul_one]
          refine if_t (decide_eq_true (by rw [odd]; rfl)) ⟨_, rfl, _, rfl, _, _, rfl, rfl, wide_mul (pow_small hb (by omega)) (pow_small hb (by omega)) (by decide) (by decide) (by decide), ?_⟩
          refine ⟨_, rfl, _, rfl, _, _, rfl, rfl, sq, _, rfl, _, _, rfl, rfl, ⟨by decide, by decide⟩, ⟨i + 1, by omega, rfl, ?_⟩, mu _ e3⟩
          show [some (V.int b), some (V.int e), some (V.int ((b : Int) ^ (e % 2 ^ i) * (b : Int) ^ 2 ^ i)), some (V.int ((b : Int) ^ 2 ^ i * (b : Int) ^ 2 ^ i)), some (V.int (((e / 2 ^ i : Nat) : Int) / 2))] = _
          rw [e1, e2, e3]
        · have even : e / 2 ^ i % 2 = 0 := by omega
          have e1 : e % 2 ^ (i + 1) = e % 2 ^ i := by rw [am, even, Nat.mul_zero, Nat.add_zero]
          refine if_f (decide_eq_false fun z => odd ?_) ?_
          · injection z with z
            omega
          refine ⟨_, rfl, _, rfl, _, _, rfl, rfl, sq, _, rfl, _, _, rfl, rfl, ⟨by decide, by decide⟩, ⟨i + 1, by omega, rfl, ?_⟩, mu _ e3⟩
          show [some (V.int b), some (V.int e), some (V.int ((b : Int) ^ (e % 2 ^ i))), some (V.int ((b : Int) ^ 2 ^ i * (b : Int) ^ 2 ^ i)), some (V.int (((e / 2 ^ i : Nat) : Int) / 2))] = _
          rw [e1, e2, e3]
      · have z0 : e / 2 ^ i = 0 := Nat.le_zero.mp (Nat.not_lt.mp pos)
        have small : e % 2 ^ i = e := by
          rcases Nat.lt_or_ge e (2 ^ i) with z | z
          · exact Nat.mod_eq_of_lt z
          · exact absurd (Nat.div_pos z (Nat.pow_pos (by decide))) pos
        refine if_f (decide_eq_false (by rw [z0]; decide)) ⟨_, rfl, ?_⟩
        rw [small]
        have ee : ((b ^ e : Nat) : Int) = (b : Int) ^ e := Int.natCast_pow b e
        rw [ee] at q
        exact q
    · rintro σ Hx Q1 Q2 h ⟨v, hv, i, j, e1, e2, k, ek, hq⟩
      exact ⟨v, hv, i, j, e1, e2, k, ek, h _ _ hq⟩
end
end K6
set_option maxRecDepth 100000
set_option maxHeartbeats 4000000
namespace L2
open PySem PySem.Spec PyProof.Rows
section
variable {X : Cx}
/-- comb(a, b) -/
def rComb : List V → Hp → VK → Prop := fun xs H Q => ∃ a b : Nat, xs = [.int a, .int b] ∧ a ≤ 18000 ∧ Q (.int (PySem.W.mcComb a b)) H
theorem cr_comb : CallR X (.builtin "math.comb") rComb := by
  intro pins s σ H xs us Q I r h
  obtain ⟨a, b, rfl, ha, q⟩ := h
  obtain ⟨u1, u2, rfl, ⟨t1, rfl⟩, ⟨t2, rfl⟩⟩ := vals2 r
  exact call_function_meets PySem.W.MGF.kind_comb PySem.W.MGF.plain_comb PySem.W.MGF.entry_comb (PySem.W.MGF.args_comb _ _) (PySem.W.mc_gives_comb t1 t2 (by omega) (by omega) (by omega) (.inr (by omega))).meets ⟨.int (PySem.W.mcComb a b), H, I.tok _, ⟨_, rfl⟩, q⟩
/-- factorial(n) -/
def rFact : List V → Hp → VK → Prop := fun xs H Q => ∃ n : Nat, xs = [.int n] ∧ n ≤ 400 ∧ Q (.int (Builtin.Math.factorialNat n : Nat)) H
theorem fact_le : ∀ n : Nat, n ≤ 400 → Builtin.Math.factorialNat n ≤ 2 ^ (9 * n)
  | 0, _ => by decide
  | n + 1, h => by
    rw [PySem.W.mc_fac_succ]
    have z := fact_le n (by omega)
    have e : 2 ^ (9 * (n + 1)) = 2 ^ (9 * n) * 512 := by rw [Nat.mul_succ, Nat.pow_add]
    rw [e]
    exact Nat.mul_le_mul z (by omega)
theorem cr_fact : CallR X (.builtin "math.factorial") rFact := by
  intro pins s σ H xs us Q I r h
  obtain ⟨n, rfl, hn, q⟩ := h
  obtain ⟨u, rfl, ⟨t, rfl⟩⟩ := vals1 r
  have hs : (((Builtin.Math.factorialNat ((n : Nat) : Int).toNat : Nat) : Int)).natAbs.log2 < bitsLine := by
    rw [Int.toNat_natCast, Int.natAbs_natCast]
    have z : Builtin.Math.factorialNat n < 2 ^ 3601 := Nat.lt_of_le_of_lt (fact_le n hn) (Nat.pow_lt_pow_right (by decide) (by omega))
    have y : (Builtin.Math.factorialNat n).log2 < 3601 := PySem.Flt.log2_lt_of (by decide) z
    exact Nat.lt_of_lt_of_le y (by decide)
  refine PySem.W.mg_factorial (by show ¬ (n : Int) > 2 ^ 63 - 1; omega) (by omega) (by show ¬ (n : Int) > 20000; omega) hs ⟨.int (Builtin.Math.factorialNat n : Nat), H, I.tok _, ⟨_, by rw [Int.toNat_natCast]⟩, q⟩
end
end L2
namespace K6
open PySem PySem.Spec PyProof.Rows L2
/-! ### sizes of leaves without tables -/
/-- the size of a leaf that is well formed -/
def spSize (m : Nat) (p : List PyData → Bool) (sz : List PyData → Int) : Sp := fun vs H Q _ => ∃ (a : Addr) (xs : List V) (ds : List PyData), vs = [.ref a] ∧ H a = some (.tup xs) ∧ DatAll H xs ds ∧ ds.length = m ∧ p ds = true ∧ ∀ H', Same H H' → Q (.int (sz ds)) H'
abbrev sSubSize : Stmt := top 17
abbrev sCycSize : Stmt := top 22
abbrev sTreeSize : Stmt := top 25
def zSubset (ds : List PyData) : Int := PySem.W.mcComb (intOf (at0 ds 1)) (intOf (at0 ds 2))
def zCycle (ds : List PyData) : Int := (Builtin.Math.factorialNat (intOf (at0 ds 1) - 1).toNat : Nat)
def zTree (ds : List PyData) : Int := (((intOf (at0 ds 1)).toNat ^ ((intOf (at0 ds 1)).toNat - 2) : Nat) : Int)
section
variable {P : Program} {w : World} {K : PySem.W.Frag} {mg : Str → Option Value} {base : Heap}
theorem scSubSize : FnScope ["space", "n", "k"] ["space"] (defScope sSubSize) := ⟨rfl, rfl, rfl, by decide +kernel, rfl, by decide +kernel, by decide +kernel⟩
theorem scCycSize : FnScope ["space"] ["space"] (defScope sCycSize) := ⟨rfl, rfl, rfl, by decide +kernel, rfl, by decide +kernel, by decide +kernel⟩
theorem scTreeSize : FnScope ["space", "n"] ["space"] (defScope sTreeSize) := ⟨rfl, rfl, rfl, by decide +kernel, rfl, by decide +kernel, by decide +kernel⟩
theorem ok_subsize {f : Addr} {fd : FuncData} (F : Fun K "subset_size" "subset_size" sSubSize f fd) (c : mg "comb" = some (.builtin "math.comb")) : FnOk P w K mg base CX0 1 f fd ["space"] (spSize 3 pSubset zSubset) := by
  refine F.ok scSubSize (fun vs H Q E h => ?_) (fun cdv A outer s H vs Q E hr h => ?_)
  · obtain ⟨a, xs, ds, rfl, _⟩ := h
    rfl
  · obtain ⟨a, xs, ds, rfl, ha, hx, hl, hp, q⟩ := h
    match ds, hl, hx with
    | [d0, d1, d2], _, .cons (v := x0) t0 (.cons (v := x1) t1 (.cons (v := x2) t2 .nil)) =>
      have hp' : (btw 0 400 d1 && btw 0 (intOf d1) d2) = true := hp
      rw [Bool.and_eq_true] at hp'
      obtain ⟨n, rfl, n0, n4⟩ := btw_int hp'.1
      obtain ⟨k, rfl, k0, kn⟩ := btw_int hp'.2
      obtain rfl := dat_int t1
      obtain rfl := dat_int t2
      obtain ⟨n', rfl⟩ : ∃ m : Nat, n = m := ⟨n.toNat, by omega⟩
      obtain ⟨k', rfl⟩ : ∃ m : Nat, k = m := ⟨k.toNat, by omega⟩
      refine ⟨_, pss_cons (ps_asg (pe_slice sl_tupA (pv 0) (po_some pe_int) po_none) (pg_tup rfl (pgs_cons (pg_name (i := 1) scSubSize.nd rfl (Or.inl rfl)) (pgs_cons (pg_name (i := 2) scSubSize.nd rfl (Or.inl rfl)) pgs_nil))))
        (pss_one (ps_ret (pe_callBfun cr_comb rfl c (pa_cons (pv 1) (pa_cons (pv 2) pa_nil))))), ?_⟩
      refine ⟨_, rfl, 1, rfl, ?_⟩
      dsimp only [tNoPart]
      refine slK_of 1 ha fun b Hb Sb hb => ?_
      exact ⟨b, [.int n', .int k'], rfl, SqT.of hb, rfl, _, _, rfl, _, _, rfl, rfl, _, rfl, _, rfl, n', k', rfl, by omega, q Hb Sb⟩
theorem ok_cycsize {f : Addr} {fd : FuncData} (F : Fun K "cycle_size" "cycle_size" sCycSize f fd) (c : mg "factorial" = some (.builtin "math.factorial")) : FnOk P w K mg base CX0 1 f fd ["space"] (spSize 2 pCycle zCycle) := by
  refine F.ok scCycSize (fun vs H Q E h => ?_) (fun cdv A outer s H vs Q E hr h => ?_)
  · obtain ⟨a, xs, ds, rfl, _⟩ := h
    rfl
  · obtain ⟨a, xs, ds, rfl, ha, hx, hl, hp, q⟩ := h
    match ds, hl, hx with
    | [d0, d1], _, .cons (v := x0) t0 (.cons (v := x1) t1 .nil) =>
      obtain ⟨n, rfl, n0, n4⟩ := btw_int (show btw 1 400 d1 = true from hp)
      obtain rfl := dat_int t1
      obtain ⟨n', hn'⟩ : ∃ m : Nat, n - 1 = m := ⟨(n - 1).toNat, by omega⟩
      refine ⟨_, pss_one (ps_ret (pe_callBfun cr_fact rfl c (pa_cons (pe_op op_sub (pe_ix ix_tup (pv 0) pe_int (fun _ _ => rfl)) pe_int) pa_nil))), ?_⟩
      have q0 := q H fun _ _ e => e
      have ez : zCycle [d0, .int n] = (Builtin.Math.factorialNat n' : Nat) := by
        show ((Builtin.Math.factorialNat (n - 1).toNat : Nat) : Int) = _
        rw [hn', Int.toNat_natCast]
      rw [ez] at q0
      exact ⟨_, rfl, a, _, _, _, rfl, rfl, SqT.of ha, atI_nat (j := 1) rfl, _, _, rfl, rfl, n', (by show [V.int (n - 1)] = _; rw [hn']), by omega, q0⟩
theorem ok_treesize {f fR : Addr} {fd fdR : FuncData} (F : Fun K "tree_size" "tree_size" sTreeSize f fd) (m : mg "max" = none) (R : DefOk K mg "raise_to" sRaise ["base", "exponent"] fR fdR) : FnOk P w K mg base CX0 2 f fd ["space"] (spSize 2 pTree zTree) := by
  have GR : FnOk P w K mg base CX0 1 fR fdR ["base", "exponent"] spRaise := ok_raise R.F
  refine F.ok scTreeSize (fun vs H Q E h => ?_) (fun cdv A outer s H vs Q E hr h => ?_)
  · obtain ⟨a, xs, ds, rfl, _⟩ := h
    rfl
  · obtain ⟨a, xs, ds, rfl, ha, hx, hl, hp, q⟩ := h
    match ds, hl, hx with
    | [d0, d1], _, .cons (v := x0) t0 (.cons (v := x1) t1 .nil) =>
      obtain ⟨n, rfl, n0, n4⟩ := btw_int (show btw 1 400 d1 = true from hp)
      obtain rfl := dat_int t1
      obtain ⟨n', rfl⟩ : ∃ m : Nat, n = m := ⟨n.toNat, by omega⟩
      refine ⟨_, pss_cons (ps_set (i := 1) scTreeSize.nd rfl (Or.inl rfl) (pe_ix ix_tup (pv 0) pe_int (fun _ _ => rfl)))
        (pss_one (ps_ret (pe_call GR hr rfl R.g R.F.kp R.b .nil pass0 (pa_cons (pv 1) (pa_cons (pe_callB (call_max2 rfl) (by rfl) m (by decide +kernel) (pa_cons (pe_op op_sub (pv 1) pe_int) (pa_cons pe_int pa_nil))) pa_nil))))), ?_⟩
      have q0 := q H fun _ _ e => e
      have e1 : (if (0 : Int) > (n' : Int) - 2 then 0 else (n' : Int) - 2) = ((n' - 2 : Nat) : Int) := by
        split <;> omega
      have ez : zTree [d0, .int n'] = ((n' ^ (n' - 2) : Nat) : Int) := rfl
      rw [ez] at q0
      refine ⟨_, rfl, a, _, _, _, rfl, rfl, SqT.of ha, atI_nat (j := 1) rfl, _, rfl, _, rfl, _, _, rfl, rfl, _, _, rfl, n', n' - 2, ?_, by omega, by omega, q0⟩
      show [V.int (n' : Int), V.int (if (0 : Int) > (n' : Int) - 2 then 0 else (n' : Int) - 2)] = _
      rw [e1]
end
end K6
set_option maxRecDepth 100000
set_option maxHeartbeats 4000000
namespace K6
open PySem PySem.Spec PyProof.Rows L2
/-! ### multinomial: total and ways so far -/
def multN : Nat → Int → List Nat → Int
  | _, w, [] => w
  | t, w, c :: r => multN (t + c) (w * PySem.W.mcComb ((t + c : Nat) : Int) (c : Int)) r
theorem fp_le {n : Nat} : ∀ k : Nat, k ≤ n → Builtin.Math.fallingProduct (n : Int) k ≤ ((n ^ k : Nat) : Int)
  | 0, _ => by
    rw [PySem.W.mc_fp_zero]
    exact Int.le_refl _
  | k + 1, h => by
    have z := fp_le (n := n) k (by omega)
    have p := PySem.W.mc_fp_pos (n := (n : Int)) k (by omega)
    rw [PySem.W.mc_fp_succ, Nat.pow_succ, Int.natCast_mul]
    exact Int.mul_le_mul z (by omega) (by omega) (by omega)
theorem comb_le {a b : Nat} (hb : b ≤ a) : 1 ≤ PySem.W.mcComb (a : Int) (b : Int) ∧ PySem.W.mcComb (a : Int) (b : Int) ≤ ((a ^ b : Nat) : Int) := by
  refine ⟨PySem.W.mcComb_pos (by omega) (by omega), ?_⟩
  rcases Nat.eq_zero_or_pos a with h0 | h0
  · have hb0 : b = 0 := by omega
    subst h0 hb0
    have e : PySem.W.mcComb ((0 : Nat) : Int) ((0 : Nat) : Int) = 1 := PySem.W.mcComb_ends (a := 0) (b := 0) (by decide) (by decide) (.inl rfl)
    rw [e]
    decide
  · rw [PySem.W.mcComb_at (a := (a : Int)) (b := (b : Int)) (by omega) (by omega) rfl]
    obtain ⟨m, hm⟩ : ∃ m : Nat, min (b : Int) ((a : Int) - (b : Int)) = m := ⟨(min (b : Int) ((a : Int) - (b : Int))).toNat, by omega⟩
    rw [hm, Int.toNat_natCast]
    have h1 := PySem.W.mc_fp_pos (n := (a : Int)) m (by omega)
    have h2 := Int.ediv_le_self (a := Builtin.Math.fallingProduct (a : Int) m) (Builtin.Math.fallingProduct (m : Int) m) (by omega)
    have h3 := fp_le (n := a) m (by omega)
    have h4 : a ^ m ≤ a ^ b := Nat.pow_le_pow_right h0 (by omega)
    omega
def spMulti : Sp := fun vs H Q _ => ∃ (a : Addr) (ns : List Nat), vs = [.ref a] ∧ H a = some (.lst (ns.map fun n : Nat => V.int (n : Int))) ∧ ns.sum ≤ 400 ∧ (1 ≤ multN 0 1 ns → multN 0 1 ns ≤ ((400 ^ 400 : Nat) : Int) → Q (.int (multN 0 1 ns)) H)
abbrev sMulti : Stmt := top 4
section
variable {P : Program} {w : World} {K : PySem.W.Frag} {mg : Str → Option Value} {base : Heap}
theorem scMulti : FnScope ["counts", "ways", "total", "count"] ["counts"] (defScope sMulti) := ⟨rfl, rfl, rfl, by decide +kernel, rfl, by decide +kernel, by decide +kernel⟩
theorem ok_multi {f : Addr} {fd : FuncData} (F : Fun K "multinomial" "multinomial" sMulti f fd) (c : mg "comb" = some (.builtin "math.comb")) : FnOk P w K mg base CX0 1 f fd ["counts"] spMulti := by
  refine F.ok scMulti (fun vs H Q E h => ?_) (fun cdv A outer s H vs Q E hr h => ?_)
  · obtain ⟨a, ns, rfl, _⟩ := h
    rfl
  · obtain ⟨a, ns, rfl, ha, hs, q⟩ := h
    refine ⟨_, pss_cons (ps_set (i := 1) scMulti.nd rfl (Or.inl rfl) pe_int)
      (pss_cons (ps_set (i := 2) scMulti.nd rfl (Or.inl rfl) pe_int)
      (pss_cons (ps_for PassesOwn.never rfl (pi_list (pv 0)) (pg_name (i := 3) scMulti.nd rfl (Or.inl rfl))
        (pss_cons (ps_set (i := 2) scMulti.nd rfl (Or.inl rfl) (pe_op op_add (pv 2) (pv 3)))
        (pss_one (ps_set (i := 1) scMulti.nd rfl (Or.inl rfl) (pe_op op_mulW (pv 1) (pe_callBfun cr_comb rfl c (pa_cons (pv 2) (pa_cons (pv 3) pa_nil))))))))
      (pss_one (ps_ret (pv 1))))), ?_⟩
    refine ⟨_, rfl, a, rfl, ⟨_, SqL.of ha⟩, for_list (K := K) (a := a) (xs := ns.map fun n : Nat => V.int (n : Int)) (fun i σ Hx => ∃ (x3 : Option V) (t : Nat) (z : Int), σ = [some (.ref a), some (.int z), some (.int (t : Int)), x3] ∧ Hx = H ∧ t = (ns.take i).sum ∧ 1 ≤ z ∧ z ≤ ((400 ^ t : Nat) : Int) ∧ multN t z (ns.drop i) = multN 0 1 ns)
      ⟨none, 0, 1, rfl, rfl, rfl, by decide, by decide, rfl⟩ (fun i σ Hx _ ⟨_, _, _, _, e, _⟩ => by rw [e]; exact SqL.of ha) ?_ ?_⟩
    · rintro i y σ Hx hi ⟨x3, t, z, rfl, rfl, ht, z1, z2, hm⟩
      rw [List.getElem?_map] at hi
      obtain ⟨n, hn, rfl⟩ : ∃ n, ns[i]? = some n ∧ y = V.int (n : Int) := by
        cases h : ns[i]? with
        | none =>
          rw [h] at hi
          cases hi
        | some n =>
          rw [h] at hi
          exact ⟨n, rfl, (Option.some.inj hi).symm⟩
      have hil : i < ns.length := (List.getElem?_eq_some_iff.mp hn).1
      have et : (ns.take (i + 1)).sum = t + n := by
        rw [List.take_add_one, hn, List.sum_append, ht]
        simp
      have le : t + n ≤ 400 := by
        have e : ns.sum = (ns.take (i + 1)).sum + (ns.drop (i + 1)).sum := by rw [← List.sum_append, List.take_append_drop]
        omega
      have ed : ns.drop i = n :: ns.drop (i + 1) := by
        rw [List.drop_eq_getElem_cons hil]
        congr 1
        exact (List.getElem?_eq_some_iff.mp hn).2
      rw [ed, multN] at hm
      obtain ⟨c1, c2⟩ := comb_le (a := t + n) (b := n) (by omega)
      have c3 : (t + n) ^ n ≤ 400 ^ n := Nat.pow_le_pow_left le n
      have big : ∀ k : Nat, k ≤ 400 → (400 ^ k : Nat) < 2 ^ 3601 := fun k hk => by
        have a1 : 400 ^ k ≤ 512 ^ k := Nat.pow_le_pow_left (by decide) k
        have a2 : 512 ^ k = 2 ^ (9 * k) := by rw [Nat.pow_mul]
        have a3 : 2 ^ (9 * k) < 2 ^ 3601 := Nat.pow_lt_pow_right (by decide) (by omega)
        exact Nat.lt_of_le_of_lt a1 (by rw [a2]; exact a3)
      have b1 : z.natAbs < 2 ^ 3601 := Nat.lt_of_le_of_lt (by omega) (big t (by omega))
      have b2 : (PySem.W.mcComb ((t + n : Nat) : Int) (n : Int)).natAbs < 2 ^ 3601 := Nat.lt_of_le_of_lt (by omega) (big n (by omega))
      refine ⟨_, rfl, _, rfl, _, _, rfl, rfl, _, rfl, _, rfl, _, rfl, t + n, n, rfl, by omega, _, _, rfl, rfl, wide_mul b1 b2 (by decide) (by decide) (by decide), ?_⟩
      refine ⟨_, t + n, z * PySem.W.mcComb ((t + n : Nat) : Int) (n : Int), rfl, rfl, et.symm, ?_, ?_, hm⟩
      · have m1 := Int.mul_le_mul z1 c1 (by decide) (by omega)
        omega
      · have m2 := Int.mul_le_mul z2 (Int.le_trans c2 (Int.ofNat_le.mpr c3)) (by omega) (by omega)
        rw [Nat.pow_add, Int.natCast_mul]
        exact m2
    · rintro σ Hx ⟨x3, t, z, rfl, rfl, ht, z1, z2, hm⟩
      rw [List.length_map, List.drop_length, multN] at hm
      rw [List.length_map, List.take_length] at ht
      subst hm
      have up : (400 ^ t : Nat) ≤ 400 ^ 400 := Nat.pow_le_pow_right (by decide) (by omega)
      exact ⟨_, rfl, q z1 (Int.le_trans z2 (Int.ofNat_le.mpr up))⟩
end
end K6
set_option maxRecDepth 100000
set_option maxHeartbeats 4000000
namespace K6
open PySem PySem.Spec PyProof.Rows L2
/-! ### the size of a word; of a matching's and a permutation's neighbours later -/
def countsN (d : PyData) : List Nat := (tupItems d).map fun e => (countOf e).toNat
def zWord (ds : List PyData) : Int := multN 0 1 (countsN (at0 ds 1))
abbrev sWordSize : Stmt := top 18
/-- the counts of a word or a decorated space -/
def spWordSize : Sp := fun vs H Q _ => ∃ (a : Addr) (xs : List V) (ds : List PyData), vs = [.ref a] ∧ H a = some (.tup xs) ∧ DatAll H xs ds ∧ 2 ≤ ds.length ∧ countsB (at0 ds 1) = true ∧ ∀ H', Same H H' → 1 ≤ zWord ds → zWord ds ≤ ((400 ^ 400 : Nat) : Int) → Q (.int (zWord ds)) H'
theorem sum_nat : ∀ {ds : List PyData}, (∀ d ∈ ds, countB d = true) → ((ds.map fun e => (countOf e).toNat).sum : Int) = (ds.map countOf).sum
  | [], _ => rfl
  | d :: ds, h => by
    have z := sum_nat (ds := ds) fun e he => h e (by simp [he])
    obtain ⟨d0, n, rfl, _, n1, _⟩ := count_cases (h d (by simp))
    have e : countOf (.tuple [d0, .int n]) = n := rfl
    rw [List.map_cons, List.map_cons, List.sum_cons, List.sum_cons, e]
    omega
section
variable {P : Program} {w : World} {K : PySem.W.Frag} {mg : Str → Option Value} {base : Heap}
theorem scWordSize : FnScope ["space", "pair"] ["space"] (defScope sWordSize) := ⟨rfl, rfl, rfl, by decide +kernel, rfl, by decide +kernel, by decide +kernel⟩
theorem ok_wordsize {f fM : Addr} {fd fdM : FuncData} (F : Fun K "word_size" "word_size" sWordSize f fd) (M : DefOk K mg "multinomial" sMulti ["counts"] fM fdM) (c : mg "comb" = some (.builtin "math.comb")) : FnOk P w K mg base CX0 2 f fd ["space"] spWordSize := by
  have GM : FnOk P w K mg base CX0 1 fM fdM ["counts"] spMulti := ok_multi M.F c
  refine F.ok scWordSize (fun vs H Q E h => ?_) (fun cdv A outer s H vs Q E hr h => ?_)
  · obtain ⟨a, xs, ds, rfl, _⟩ := h
    rfl
  · obtain ⟨a, xs, ds, rfl, ha, hx, hl, hc, q⟩ := h
    refine ⟨_, pss_one (ps_ret (pe_call GM hr rfl M.g M.F.kp M.b .nil pass0 (pa_cons (pe_lc (own := [("pair", 1)]) (g := gName 1) (tt := tYes) (te := tOp (rIxT K) (tVar 1) (tC (.int 1))) rfl scWordSize.nd (pi_tup (pe_ix ix_tup (pv 0) pe_int (fun _ _ => rfl))) (blkOk_by (N := ["space", "pair"]) (sc := defScope sWordSize) (by decide +kernel))
            (fun _ _ _ _ _ => pg_name (i := 1) scWordSize.nd rfl (Or.inl rfl)) (fun _ _ _ _ _ => pts_nil) (fun _ _ _ _ _ => pe_ix ix_tup (pv 1) pe_int (fun _ _ => rfl))) pa_nil))), ?_⟩
    obtain ⟨x1, g1, td⟩ := hx.at (j := 1) (List.getElem?_eq_getElem (by omega))
    have e1 : at0 ds 1 = ds[1] := at_of (List.getElem?_eq_getElem (by omega))
    have hc1 : countsB ds[1] = true := by rw [← e1]; exact hc
    have hc2 := hc1
    unfold countsB at hc2
    rw [Bool.and_eq_true, Bool.and_eq_true, Bool.and_eq_true] at hc2
    obtain ⟨es, ees, _, h6⟩ := tupOf_len hc2.1.1
    rw [ees] at td hc2
    have hall := List.all_eq_true.mp (show es.all countB = true from hc2.1.2)
    have hsum : (es.map countOf).sum ≤ 400 := of_decide_eq_true hc2.2.1
    have eN : countsN (at0 ds 1) = es.map fun e => (countOf e).toNat := by
      rw [e1, ees]
      rfl
    cases td with
    | @tup b ys _ hb hy =>
      have hyl := hy.len
      refine ⟨_, rfl, a, _, _, _, rfl, rfl, SqT.of ha, atI_nat (j := 1) g1, b, rfl, ⟨_, SqT.of hb⟩, fun D nD => lc_vals (K := K) (a := b) (xs := ys) (fun i => V.int (countOf (es.getD i .none))) hb (by omega) nD (fun i x Hx hi S R hR => ?_) mono_name fun Hx S hD => ?_⟩
      · obtain ⟨d, hdi, tdd⟩ := hy.get hi
        obtain ⟨d0, n, rfl, hn, n1, _⟩ := count_cases (hall d (List.mem_of_getElem? hdi))
        have g0 : countOf (es.getD i .none) = n := by rw [List.getD_eq_getElem?_getD, hdi]; rfl
        cases tdd with
        | @tup b2 zs _ hb2 hz =>
          cases hz with
          | cons z0 t0 =>
            cases t0 with
            | cons z1 t1 =>
              cases t1
              cases z1
              refine ⟨rfl, _, rfl, b2, _, _, _, rfl, rfl, SqT.of (S _ _ hb2), atI_nat (j := 1) rfl, ?_⟩
              have z := hR Hx fun _ _ e => e
              rw [g0] at z
              exact z
      · have eL : (List.range ys.length).map (fun i => V.int (countOf (es.getD i .none))) = (es.map fun e => (countOf e).toNat).map fun n : Nat => V.int (n : Int) := by
          rw [hyl, List.map_map]
          refine range_map es _ _ fun i d hdi => ?_
          obtain ⟨d0, n, rfl, _, n1, _⟩ := count_cases (hall d (List.mem_of_getElem? hdi))
          have g0 : es.getD i .none = .tuple [d0, .int n] := by rw [List.getD_eq_getElem?_getD, hdi]; rfl
          show V.int (countOf (es.getD i .none)) = V.int (((countOf (.tuple [d0, .int n])).toNat : Nat) : Int)
          rw [g0]
          have e : countOf (.tuple [d0, .int n]) = n := rfl
          rw [e]
          congr 1
          omega
        rw [eL] at hD
        have sm := sum_nat hall
        refine ⟨D, es.map fun e => (countOf e).toNat, rfl, hD, by omega, fun z1 z2 => ?_⟩
        have q' := q Hx S
        unfold zWord at q'
        rw [eN] at q'
        exact q' z1 z2
end
end K6
set_option maxRecDepth 100000
set_option maxHeartbeats 4000000
namespace K6
open PySem PySem.Spec PyProof.Rows L2
/-! ### permutations by the positions that are held -/
def sgn : Nat → Int
  | 0 => 1
  | h + 1 => -sgn h
def permN (n m : Nat) : Nat → Int
  | 0 => 0
  | h + 1 => permN n m h + sgn h * PySem.W.mcComb (m : Int) (h : Int) * ((Builtin.Math.factorialNat (n - h) : Nat) : Int)
def zPerm (ds : List PyData) : Int := permN (intOf (at0 ds 1)).toNat (tupItems (at0 ds 2)).length ((tupItems (at0 ds 2)).length + 1)
abbrev sPermSize : Stmt := top 24
abbrev sMoved : Stmt := top 5
/-- count_moved(n, m) -/
def spMoved : Sp := fun vs H Q _ => ∃ n m : Nat, vs = [.int n, .int m] ∧ m ≤ n ∧ n ≤ 60 ∧ Q (.int (permN n m (m + 1))) H
theorem sgn_abs : ∀ h, (sgn h).natAbs = 1
  | 0 => rfl
  | h + 1 => by
    show (-sgn h).natAbs = 1
    rw [Int.natAbs_neg, sgn_abs h]
theorem perm_term {n m h : Nat} (hm : h ≤ m) (h60 : m ≤ 60) (hn : n ≤ 60) : (PySem.W.mcComb (m : Int) (h : Int)).natAbs < 2 ^ 361 ∧ (((Builtin.Math.factorialNat (n - h) : Nat) : Int)).natAbs < 2 ^ 541 := by
  obtain ⟨c1, c2⟩ := comb_le hm
  have a1 : m ^ h ≤ 64 ^ h := Nat.pow_le_pow_left (by omega) h
  have a2 : 64 ^ h = 2 ^ (6 * h) := by rw [Nat.pow_mul]
  have a3 : 2 ^ (6 * h) < 2 ^ 361 := Nat.pow_lt_pow_right (by decide) (by omega)
  have b1 := fact_le (n - h) (by omega)
  have b2 : 2 ^ (9 * (n - h)) < 2 ^ 541 := Nat.pow_lt_pow_right (by decide) (by omega)
  refine ⟨Nat.lt_of_le_of_lt (show _ ≤ m ^ h by omega) (Nat.lt_of_le_of_lt a1 (by rw [a2]; exact a3)), ?_⟩
  rw [Int.natAbs_natCast]
  exact Nat.lt_of_le_of_lt b1 b2
theorem perm_abs {n m : Nat} (h60 : m ≤ 60) (hn : n ≤ 60) : ∀ h, h ≤ m + 1 → (permN n m h).natAbs ≤ h * 2 ^ 904
  | 0, _ => Nat.zero_le _
  | h + 1, hh => by
    have z := perm_abs h60 hn h (by omega)
    obtain ⟨t1, t2⟩ := perm_term (n := n) (m := m) (h := h) (by omega) h60 hn
    have s1 : (sgn h * PySem.W.mcComb (m : Int) (h : Int)).natAbs < 2 ^ (2 + 361) := wide_lt (by rw [sgn_abs]; decide) t1
    have s2 : (sgn h * PySem.W.mcComb (m : Int) (h : Int) * ((Builtin.Math.factorialNat (n - h) : Nat) : Int)).natAbs < 2 ^ (2 + 361 + 541) := wide_lt s1 t2
    have s3 : (permN n m (h + 1)).natAbs ≤ (permN n m h).natAbs + (sgn h * PySem.W.mcComb (m : Int) (h : Int) * ((Builtin.Math.factorialNat (n - h) : Nat) : Int)).natAbs := Int.natAbs_add_le _ _
    rw [Nat.succ_mul]
    have s4 : 2 ^ (2 + 361 + 541) = 2 ^ 904 := rfl
    rw [s4] at s2
    exact Nat.le_trans s3 (Nat.add_le_add z (Nat.le_of_lt s2))
section
variable {P : Program} {w : World} {K : PySem.W.Frag} {mg : Str → Option Value} {base : Heap}
theorem scPermSize : FnScope ["space", "n", "moved"] ["space"] (defScope sPermSize) := ⟨rfl, rfl, rfl, by decide +kernel, rfl, by decide +kernel, by decide +kernel⟩
theorem scMoved : FnScope ["n", "moved", "total", "sign", "kept"] ["n", "moved"] (defScope sMoved) := ⟨rfl, rfl, rfl, by decide +kernel, rfl, by decide +kernel, by decide +kernel⟩
theorem ok_moved {f : Addr} {fd : FuncData} (F : Fun K "count_moved" "count_moved" sMoved f fd) (T : Nm mg) (c : mg "comb" = some (.builtin "math.comb")) (c2 : mg "factorial" = some (.builtin "math.factorial")) : FnOk P w K mg base CX0 1 f fd ["n", "moved"] spMoved := by
  refine F.ok scMoved (fun vs H Q E h => ?_) (fun cdv A outer s H vs Q E hr h => ?_)
  · obtain ⟨n, m, rfl, _⟩ := h
    rfl
  · obtain ⟨n', m', rfl, len', n60, q⟩ := h
    refine ⟨_, pss_cons (ps_set (i := 2) scMoved.nd rfl (Or.inl rfl) pe_int)
      (pss_cons (ps_set (i := 3) scMoved.nd rfl (Or.inl rfl) pe_int)
      (pss_cons (ps_for PassesOwn.never rfl (pi_range1 rfl T.range (pa_cons (pe_op op_add (pv 1) pe_int) pa_nil)) (pg_name (i := 4) scMoved.nd rfl (Or.inl rfl))
        (pss_cons (ps_set (i := 2) scMoved.nd rfl (Or.inl rfl) (pe_op op_add (pv 2) (pe_op op_mulW (pe_op op_mulW (pv 3) (pe_callBfun cr_comb rfl c (pa_cons (pv 1) (pa_cons (pv 4) pa_nil))))
            (pe_callBfun cr_fact rfl c2 (pa_cons (pe_op op_sub (pv 0) (pv 4)) pa_nil)))))
        (pss_one (ps_set (i := 3) scMoved.nd rfl (Or.inl rfl) (pe_un un_neg (pv 3))))))
      (pss_one (ps_ret (pv 2))))), ?_⟩
    refine ⟨_, rfl, _, _, rfl, rfl, (m' : Int) + 1, rfl, by omega, by omega, ?_⟩
    rw [show ((m' : Int) + 1).toNat = m' + 1 by omega]
    refine for_range (n := m' + 1) (fun i σ Hx => ∃ x5 : Option V, σ = [some (.int n'), some (.int m'), some (.int (permN n' m' i)), some (.int (sgn i)), x5] ∧ Hx = H) ⟨none, rfl, rfl⟩ ?_ ?_
    · rintro i σ Hx hi ⟨x5, rfl, rfl⟩
      obtain ⟨c1, c3⟩ := perm_term (n := n') (m := m') (h := i) (by omega) (by omega) (by omega)
      have w1 : CMulW (sgn i) (PySem.W.mcComb (m' : Int) (i : Int)) := wide_mul (a := 2) (by rw [sgn_abs]; decide) c1 (by decide) (by decide) (by decide)
      have s1 : (sgn i * PySem.W.mcComb (m' : Int) (i : Int)).natAbs < 2 ^ (2 + 361) := wide_lt (by rw [sgn_abs]; decide) c1
      have w2 : CMulW (sgn i * PySem.W.mcComb (m' : Int) (i : Int)) ((Builtin.Math.factorialNat (n' - i) : Nat) : Int) := wide_mul s1 c3 (by decide) (by decide) (by decide)
      refine ⟨_, rfl, _, rfl, _, rfl, _, rfl, m', i, ?_, by omega, _, _, rfl, rfl, w1, _, rfl, _, rfl, _, _, rfl, rfl, n' - i, ?_, by omega, _, _, rfl, rfl, w2, _, _, rfl, rfl, ?_⟩
      · show [V.int (m' : Int), V.int (0 + (i : Int))] = _
        rw [Int.zero_add]
      · show [V.int ((n' : Int) - (0 + (i : Int)))] = _
        rw [show (n' : Int) - (0 + (i : Int)) = ((n' - i : Nat) : Int) by omega]
      · exact ⟨_, rfl, _, rfl, _, rfl, rfl⟩
    · rintro σ Hx ⟨x5, rfl, rfl⟩
      exact ⟨_, rfl, q⟩
theorem ok_permsize {f fM : Addr} {fd fdM : FuncData} (F : Fun K "permutation_size" "permutation_size" sPermSize f fd) (T : Nm mg) (M : DefOk K mg "count_moved" sMoved ["n", "moved"] fM fdM) (c : mg "comb" = some (.builtin "math.comb")) (c2 : mg "factorial" = some (.builtin "math.factorial")) : FnOk P w K mg base CX0 2 f fd ["space"] (spSize 3 pPerm zPerm) := by
  have GM : FnOk P w K mg base CX0 1 fM fdM ["n", "moved"] spMoved := ok_moved M.F T c c2
  refine F.ok scPermSize (fun vs H Q E h => ?_) (fun cdv A outer s H vs Q E hr h => ?_)
  · obtain ⟨a, xs, ds, rfl, _⟩ := h
    rfl
  · obtain ⟨a, xs, ds, rfl, ha, hx, hl, hp, q⟩ := h
    match ds, hl, hx with
    | [d0, d1, d2], _, .cons (v := x0) t0 (.cons (v := x1) t1 (.cons (v := x2) t2 .nil)) =>
      have hp' : (btw 0 60 d1 && tupOf 0 (intOf d1) d2 && ((tupItems d2).all (btw 0 (intOf d1 - 1)) && ascB (tupItems d2))) = true := hp
      rw [Bool.and_eq_true, Bool.and_eq_true] at hp'
      obtain ⟨n, rfl, n0, n60⟩ := btw_int hp'.1.1
      obtain ⟨es, rfl, _, len⟩ := tupOf_len hp'.1.2
      obtain rfl := dat_int t1
      obtain ⟨n', rfl⟩ : ∃ m : Nat, n = m := ⟨n.toNat, by omega⟩
      have len' : es.length ≤ n' := by
        have z : (es.length : Int) ≤ (n' : Int) := len
        omega
      cases t2 with
      | @tup b ys _ hb hy =>
        have hyl := hy.len
        refine ⟨_, pss_cons (ps_asg (pe_slice sl_tupA (pv 0) (po_some pe_int) po_none) (pg_tup rfl (pgs_cons (pg_name (i := 1) scPermSize.nd rfl (Or.inl rfl)) (pgs_cons (pg_name (i := 2) scPermSize.nd rfl (Or.inl rfl)) pgs_nil))))
          (pss_one (ps_ret (pe_call GM hr rfl M.g M.F.kp M.b .nil pass0 (pa_cons (pv 1) (pa_cons (pe_callB call_len_seq (by rfl) T.len PySem.boot_len (pa_cons (pv 2) pa_nil)) pa_nil))))), ?_⟩
        refine ⟨_, rfl, 1, rfl, ?_⟩
        dsimp only [tNoPart]
        refine slK_of 1 ha fun b1 Hb Sb hb1 => ?_
        refine ⟨b1, [.int n', .ref b], rfl, SqT.of hb1, rfl, _, _, rfl, _, _, rfl, rfl, ?_⟩
        have hbb := Sb _ _ hb
        refine ⟨_, rfl, _, rfl, b, ys, rfl, .inr (SqT.of hbb), n', es.length, ?_, len', by omega, q Hb Sb⟩
        show [V.int (n' : Int), V.int (ys.length : Int)] = _
        rw [hyl]
end
end K6
set_option maxRecDepth 100000
set_option maxHeartbeats 4000000
namespace K6
open PySem PySem.Spec PyProof.Rows L2
/-! ### products without a bound -/
abbrev sMul : Stmt := top 2
def vints (ns : List Nat) : List V := ns.map fun n : Nat => V.int (n : Int)
def prodN : List Nat → Nat
  | [] => 1
  | n :: r => n * prodN r
theorem prod_take {ns : List Nat} : ∀ {i : Nat} {n : Nat}, ns[i]? = some n → prodN (ns.take (i + 1)) = prodN (ns.take i) * n := by
  induction ns with
  | nil => intro i n h; simp at h
  | cons a l ih =>
    intro i n h
    cases i with
    | zero =>
      have e : a = n := by simpa using h
      subst e
      simp [prodN]
    | succ i =>
      have z := ih (i := i) (n := n) (by simpa using h)
      rw [List.take_succ_cons, List.take_succ_cons, prodN, prodN, z, Nat.mul_assoc]
theorem prod_pos {ns : List Nat} (h : ∀ n ∈ ns, 1 ≤ n) : 1 ≤ prodN ns := by
  induction ns with
  | nil => exact Nat.le_refl 1
  | cons a l ih =>
    have z := ih fun n hn => h n (by simp [hn])
    have y := h a (by simp)
    rw [prodN]
    exact Nat.mul_le_mul y z
theorem prod_le {ns : List Nat} (h : ∀ n ∈ ns, 1 ≤ n) (i : Nat) : prodN (ns.take i) ≤ prodN ns := by
  induction ns generalizing i with
  | nil => simp
  | cons a l ih =>
    have hl : ∀ n ∈ l, 1 ≤ n := fun n hn => h n (by simp [hn])
    have y := h a (by simp)
    cases i with
    | zero =>
      show 1 ≤ prodN (a :: l)
      exact prod_pos h
    | succ i =>
      rw [List.take_succ_cons, prodN, prodN]
      exact Nat.mul_le_mul_left a (ih hl i)
theorem in_zero : ∀ ns : List Nat, inV (.int 0) (vints ns) = ns.any (· == 0)
  | [] => rfl
  | n :: l => by
    have z := in_zero l
    show (eqV (.int (n : Int)) (.int 0) || inV (.int 0) (vints l)) = ((n == 0) || l.any (· == 0))
    rw [z]
    congr 1
    show ((n : Int) == 0) = (n == 0)
    cases n with
    | zero => rfl
    | succ n => rfl
theorem flat_ints : ∀ ns : List Nat, (vints ns).all flatV = true
  | [] => rfl
  | n :: l => by
    show (true && (vints l).all flatV) = true
    rw [flat_ints l]
    rfl
/-- multiply(list, None): the product, if it is not too great -/
def spMul : Sp := fun vs H Q _ => ∃ (a : Addr) (ns : List Nat), vs = [.ref a, .non] ∧ H a = some (.lst (vints ns)) ∧ ((∀ n ∈ ns, 1 ≤ n) → prodN ns < 2 ^ 400000) ∧ (∀ n ∈ ns, n < 2 ^ 400000) ∧ ((0 ∈ ns → Q (.int 0) H) ∧ ((∀ n ∈ ns, 1 ≤ n) → Q (.int (prodN ns : Nat)) H))
section
variable {P : Program} {w : World} {K : PySem.W.Frag} {mg : Str → Option Value} {base : Heap}
theorem scMul : FnScope ["factors", "bound", "result", "factor"] ["factors", "bound"] (defScope sMul) := ⟨rfl, rfl, rfl, by decide +kernel, rfl, by decide +kernel, by decide +kernel⟩
theorem ok_mul {f : Addr} {fd : FuncData} (F : FunD K "multiply" "multiply" (defArgs sMul) (defBody sMul) (defScope sMul) [.non] [] f fd) : FnOk P w K mg base CX0 1 f fd ["factors", "bound"] spMul := by
  refine F.ok scMul (fun vs H Q E h => ?_) (fun cdv A outer s H vs Q E hr h => ?_)
  · obtain ⟨a, ns, rfl, _⟩ := h
    rfl
  · obtain ⟨a, ns, rfl, ha, hb, hs, q0, q1⟩ := h
    refine ⟨_, PSs.nox (pss_cons (ps_if (pt_cmpR op_in_seq pe_int (pv 0) rfl) (pss_one (ps_ret pe_int)) pss_nil)
      (pss_cons (ps_set (i := 2) scMul.nd rfl (Or.inl rfl) pe_int)
      (pss_cons (ps_for PassesOwn.never rfl (pi_list (pv 0)) (pg_name (i := 3) scMul.nd rfl (Or.inl rfl))
        (pss_cons (ps_if (PW.pt (pw_and (pt_cmpR op_notN (pv 1) pe_non (nomark _)) (pw_and1 (pt_cmpR op_ge (pv 2) (pv 1) (nomark _))))) (pss_one (ps_ret (pv 2))) pss_nil)
        (pss_one (ps_set (i := 2) scMul.nd rfl (Or.inl rfl) (pe_op op_mulW (pv 2) (pv 3))))))
      (pss_one (ps_ret (pv 2)))))), ?_⟩
    refine ⟨_, rfl, a, vints ns, rfl, .inl (SqL.of ha), rfl, flat_ints ns, _, rfl, ?_⟩
    show (if inV (.int 0) (vints ns) = true then _ else _)
    rw [in_zero]
    by_cases hz : 0 ∈ ns
    · have e : ns.any (· == 0) = true := List.any_eq_true.mpr ⟨0, hz, rfl⟩
      exact if_t e (q0 hz)
    · have e : ns.any (· == 0) = false := by
        cases h : ns.any (· == 0) with
        | false => rfl
        | true =>
          obtain ⟨x, hx, ex⟩ := List.any_eq_true.mp h
          exact absurd (by rw [← beq_iff_eq.mp ex]; exact hx) hz
      have pos : ∀ n ∈ ns, 1 ≤ n := fun n hn => Nat.pos_of_ne_zero fun z => hz (by rw [← z]; exact hn)
      refine if_f e ⟨_, rfl, a, rfl, ⟨_, SqL.of ha⟩, for_list (K := K) (a := a) (xs := vints ns) (fun i σ Hx => ∃ x3 : Option V, σ = [some (.ref a), some .non, some (.int (prodN (ns.take i) : Nat)), x3] ∧ Hx = H) ⟨none, rfl, rfl⟩ (fun i σ Hx _ ⟨_, _, e⟩ => by rw [e]; exact SqL.of ha) ?_ ?_⟩
      · rintro i y σ Hx hi ⟨x3, rfl, rfl⟩
        have hi' : (ns.map fun n : Nat => V.int (n : Int))[i]? = some y := hi
        rw [List.getElem?_map] at hi'
        obtain ⟨n, hn, rfl⟩ : ∃ n, ns[i]? = some n ∧ y = V.int (n : Int) := by
          cases h : ns[i]? with
          | none =>
            rw [h] at hi'
            cases hi'
          | some n =>
            rw [h] at hi'
            exact ⟨n, rfl, (Option.some.inj hi').symm⟩
        have b1 : ((prodN (ns.take i) : Nat) : Int).natAbs < 2 ^ 400000 := by
          rw [Int.natAbs_natCast]
          exact Nat.lt_of_le_of_lt (prod_le pos i) (hb pos)
        have b2 : ((n : Nat) : Int).natAbs < 2 ^ 400000 := by
          rw [Int.natAbs_natCast]
          exact hs n (List.mem_of_getElem? hn)
        refine ⟨_, rfl, rfl, _, rfl, if_f rfl (if_f rfl ⟨_, rfl, _, rfl, _, _, rfl, rfl, wide_mul b1 b2 (by decide) (by decide) (by decide), some (.int (n : Int)), ?_, rfl⟩)⟩
        show [some (V.ref a), some .non, some (V.int (((prodN (ns.take i) : Nat) : Int) * (n : Int))), some (V.int (n : Int))] = _
        rw [prod_take hn, Int.natCast_mul]
      · rintro σ Hx ⟨x3, rfl, rfl⟩
        have q2 := q1 pos
        have el : ns.take (vints ns).length = ns := List.take_of_length_le (by unfold vints; rw [List.length_map]; exact Nat.le_refl _)
        rw [el]
        exact ⟨_, rfl, q2⟩
end
end K6
set_option maxRecDepth 100000
set_option maxHeartbeats 4000000
namespace L2
open PySem PySem.Spec PyProof.Rows
section
variable {X : Cx}
/-- the ints i, i + c, .. -/
def rgC (i c : Int) (n : Nat) : List V := (List.range n).map fun k => V.int (i + (k : Nat) * c)
theorem rgC_length (i c : Int) (n : Nat) : (rgC i c n).length = n := by unfold rgC; rw [List.length_map, List.length_range]
theorem vals_rgC {i c : Int} {n : Nat} {acc : Array Value} (h : ItemsOf (fun k v => ∃ t, v = .int (i + k * c) t) acc n) : Vals (rgC i c n) acc.toList := by
  have e : acc.toList.length = n := by rw [Array.length_toList]; exact h.1
  unfold rgC
  rw [← e]
  refine vals_of_get acc.toList _ fun j u hj => ?_
  obtain ⟨t, rfl⟩ := h.2 j u (by rw [← hj, Array.getElem?_toList])
  exact ⟨t, rfl⟩
def tLstRg3 (ta : TA) : TE := fun σ H Q => ta σ H fun vs H1 => ∃ (i j c : Int) (n : Nat), vs = [.int i, .int j, .int c] ∧ RgC i j c n ∧ n ≤ 2 ^ 24 ∧ ∀ q, H1 q = none → Q (.ref q) (upd H1 q (.lst (rgC i c n)))
/-- list(range(a, b, c)) -/
theorem pe_listRg3 {a b c : Expr} {ta : TA} {p pos p2 pos2 : Pos} (hc : X.calm = true) (hgl : Gl X "list") (hml : X.mg "list" = none) (hg : Gl X "range") (hm : X.mg "range" = none) (ha : PA X [a, b, c] ta)
    (hs : starEach [a, b, c] X.env = (false, eval a X.env) :: starEach [b, c] X.env := by rfl) (hpl : (backTo pos (starEach [b, c] X.env)).any (·.1) = false := by rfl)
    (na : starEach [.Call (.Name "range" p) [a, b, c] [] pos] X.env = (false, eval (.Call (.Name "range" p) [a, b, c] [] pos) X.env) :: starEach [] X.env := by rfl) :
    PE X (.Call (.Name "list" p2) [.Call (.Name "range" p) [a, b, c] [] pos] [] pos2) (tLstRg3 ta) := by
  refine ⟨fun pins s σ H Q I h => ?_⟩
  have mk : wpAny (model X.prog X.w) X.A (eval (.Call (.Name "range" p) [a, b, c] [] pos) X.env) (fun x s' => ∃ r i j k t u v n H', x = .ref r ∧ IsRange s'.heap r i j k t u v ∧ Inv X pins σ H' s' ∧ RgC i j k n ∧ n ≤ 2 ^ 24 ∧ ∀ q, H' q = none → Q (.ref q) (upd H' q (.lst (rgC i k n)))) X.xe s := by
    refine Call_ (ld_blt I hg hm boot_range (PyProof.Rows.callWith_type1 (thn (ha.run pos pins s σ H _ I h) fun us s1 ⟨vs, H1, I1, r1, q1⟩ => ?_) hs hpl))
    obtain ⟨i, j, k, n, e, rg, hn, q⟩ := q1
    subst e
    cases r1 with
    | cons r rr =>
      cases rr with
      | cons r' rr =>
        cases rr with
        | cons r'' rr =>
          cases rr
          obtain ⟨t, rfl⟩ := r
          obtain ⟨t', rfl⟩ := r'
          obtain ⟨t'', rfl⟩ := r''
          exact call_range_3 rg.1 ⟨_, i, j, k, _, _, _, n, H1, rfl, IsRange.new _ _ _ _ _ _ _, I1.kept fun b u e => Heap.get?_push_of_some _ e, rg, hn, q⟩ (.inl (PyProof.noPylong_small rg.2.1))
  refine Call_ (ld_blt I hgl hml boot_list (PyProof.Rows.callWith_type1 (args_cons (thn mk fun x s1 ⟨r, i, j, k, t, u, v, n, H1, ex, hr, I1, rg, hn, q⟩ => args_nil ?_) na) na))
  subst ex
  refine call_list_range (n := n) (I1.ok.hd hc) hr rg.2.2.1 rg.2.2.2 hn fun h' tk acc c' hk e' hi => ?_
  refine ⟨.ref s1.heap.objs.size, upd H1 s1.heap.objs.size (.lst (rgC i k n)), I1.laid hk (Nat.le_refl _) (show ObjOk X.prog X.w _ _ _ (.lst (rgC i k n)) from ⟨?_, acc.toList, c', vals_rgC hi, ?_⟩), rfl, q _ (I1.hok.fresh (Nat.le_refl _))⟩
  · rw [rgC_length, sizeLine_eq]; omega
  · rw [Array.toArray_toList]; exact e'
end
end L2
namespace K6
open PySem PySem.Spec PyProof.Rows L2
/-! ### the size of a matching -/
def odds (m : Nat) : List Nat := (List.range m).map fun k => 1 + k * 2
def zMatch (ds : List PyData) : Int := (prodN (odds (intOf (at0 ds 1)).toNat) : Nat)
abbrev sMatSize : Stmt := top 23
theorem odds_pos {m : Nat} : ∀ n ∈ odds m, 1 ≤ n := fun n hn => by
  obtain ⟨k, _, rfl⟩ := List.mem_map.mp hn
  omega
theorem odds_lt {m : Nat} (h : m ≤ 200) : ∀ n ∈ odds m, n < 400 := fun n hn => by
  obtain ⟨k, hk, rfl⟩ := List.mem_map.mp hn
  have z := List.mem_range.mp hk
  omega
theorem prodN_le {b : Nat} : ∀ {ns : List Nat}, (∀ n ∈ ns, n ≤ b) → prodN ns ≤ b ^ ns.length
  | [], _ => Nat.le_refl _
  | a :: l, h => by
    have z := prodN_le (ns := l) fun n hn => h n (by simp [hn])
    have y := h a (by simp)
    show a * prodN l ≤ b ^ (l.length + 1)
    rw [Nat.pow_succ, Nat.mul_comm]
    exact Nat.mul_le_mul z y
theorem match_le {m : Nat} (h : m ≤ 200) : prodN (odds m) ≤ 2 ^ 1800 := by
  have z := prodN_le (b := 512) (ns := odds m) fun n hn => by
    have := odds_lt h n hn
    omega
  have l : (odds m).length = m := by unfold odds; rw [List.length_map, List.length_range]
  rw [l] at z
  have e : 512 ^ m = 2 ^ (9 * m) := by rw [Nat.pow_mul]
  rw [e] at z
  exact Nat.le_trans z (Nat.pow_le_pow_right (by decide) (by omega))
theorem size_step2 (a b : Int) : Builtin.Range.rangeSize a b 2 = if a < b then (b - a - 1) / 2 + 1 else 0 := by
  unfold Builtin.Range.rangeSize
  simp only [show (2 : Int) > 0 by decide, if_true]
theorem small_step2 {a b : Int} (ha : -(2 ^ 62) ≤ a) (ha' : a < 2 ^ 62) (hb : -(2 ^ 62) ≤ b) (hb' : b < 2 ^ 62) : Builtin.Range.small a b 2 = true := by
  unfold Builtin.Range.small
  rw [size_step2]
  simp only [Builtin.Range.rangeFitsLong, Bool.and_eq_true, Bool.or_eq_true, decide_eq_true_eq, beq_iff_eq, show (2 : Int) > 0 by decide, if_true]
  split <;> omega
theorem step_two {m : Nat} (h : m ≤ 200) : RgC 1 (2 * (m : Int)) 2 m := by
  refine ⟨by decide, by decide, small_step2 (by omega) (by omega) (by omega) (by omega), ?_⟩
  rw [size_step2]
  split <;> omega
section
variable {P : Program} {w : World} {K : PySem.W.Frag} {mg : Str → Option Value} {base : Heap}
theorem scMatSize : FnScope ["space"] ["space"] (defScope sMatSize) := ⟨rfl, rfl, rfl, by decide +kernel, rfl, by decide +kernel, by decide +kernel⟩
theorem ok_matsize {f fM : Addr} {fd fdM : FuncData} (F : Fun K "matching_size" "matching_size" sMatSize f fd) (T : Nm mg) (ml : mg "list" = none) (mk : PySem.W.keepIn K (.ref fM) = true) (mb : L2.Binds K fdM ["factors", "bound"] [Value.none]) (mgm : mg "multiply" = some (.ref fM)) (GM : FnOk P w K mg base CX0 1 fM fdM ["factors", "bound"] spMul) : FnOk P w K mg base CX0 2 f fd ["space"] (spSize 2 pMatching zMatch) := by
  refine F.ok scMatSize (fun vs H Q E h => ?_) (fun cdv A outer s H vs Q E hr h => ?_)
  · obtain ⟨a, xs, ds, rfl, _⟩ := h
    rfl
  · obtain ⟨a, xs, ds, rfl, ha, hx, hl, hp, q⟩ := h
    match ds, hl, hx with
    | [d0, d1], _, .cons (v := x0) t0 (.cons (v := x1) t1 .nil) =>
      obtain ⟨n, rfl, n0, n2⟩ := btw_int (show btw 0 200 d1 = true from hp)
      obtain rfl := dat_int t1
      obtain ⟨m, rfl⟩ : ∃ m : Nat, n = m := ⟨n.toNat, by omega⟩
      have hm : m ≤ 200 := by omega
      refine ⟨_, pss_one (ps_ret (pe_call GM hr rfl mgm mk mb (Paired.cons (F := RelV) (a := .non) (b := Value.none) rfl .nil) pass0 (pa_cons (pe_listRg3 rfl (by rfl) ml (by rfl) T.range (pa_cons pe_int (pa_cons (pe_op op_mul pe_int (pe_ix ix_tup (pv 0) pe_int (fun _ _ => rfl))) (pa_cons pe_int pa_nil)))) pa_nil))), ?_⟩
      refine ⟨_, rfl, a, _, _, _, rfl, rfl, SqT.of ha, atI_nat (j := 1) rfl, _, _, rfl, rfl, .inl (by decide), 1, 2 * (m : Int), 2, m, rfl, step_two hm, by omega, fun p np => ?_⟩
      have S := same_new (o := HO.lst (rgC 1 2 m)) np
      have e : rgC 1 2 m = vints (odds m) := by
        unfold rgC vints odds
        rw [List.map_map]
        refine List.map_congr_left fun k _ => ?_
        show V.int (1 + (k : Int) * 2) = V.int (((1 + k * 2 : Nat) : Nat) : Int)
        congr 1
      have big : (2 : Nat) ^ 1800 < 2 ^ 400000 := Nat.pow_lt_pow_right (by decide) (by decide)
      refine ⟨p, odds m, rfl, by rw [upd_same, e], fun _ => Nat.lt_of_le_of_lt (match_le hm) big, fun n hn => ?_, fun z => ?_, fun _ => ?_⟩
      · have := odds_lt hm n hn
        exact Nat.lt_of_lt_of_le this (Nat.le_trans (show 400 ≤ 2 ^ 9 by decide) (Nat.pow_le_pow_right (by decide) (by decide)))
      · have := odds_pos 0 z
        omega
      · have q0 := q _ S
        exact q0
end
end K6
set_option maxRecDepth 100000
set_option maxHeartbeats 4000000
namespace K6
open PySem PySem.Spec PyProof.Rows L2
/-! ### numbers of ways, by ints -/
abbrev Ps := List (Int × Nat)
def dkOf (ps : Ps) : List (Key × V) := ps.map fun p => (Sum.inl p.1, V.int (p.2 : Nat))
def getP (ps : Ps) (k : Int) : Nat := ((ps.find? fun p => decide (p.1 = k)).map (·.2)).getD 0
def putP (ps : Ps) (k : Int) (v : Nat) : Ps := if (ps.any fun p => decide (p.1 = k)) = true then ps.map (fun p => if p.1 = k then (p.1, v) else p) else ps ++ [(k, v)]
def tot (ps : Ps) : Nat := (ps.map (·.2)).sum
theorem getP_pos {p : Int × Nat} {r : Ps} {k : Int} (e : p.1 = k) : getP (p :: r) k = p.2 := by simp [getP, List.find?_cons, e]
theorem getP_neg {p : Int × Nat} {r : Ps} {k : Int} (e : ¬ p.1 = k) : getP (p :: r) k = getP r k := by simp [getP, List.find?_cons, e]
theorem val_dk (k : Int) : ∀ ps : Ps, (valV (dkOf ps) (Sum.inl k)).getD (.int 0) = .int (getP ps k : Nat)
  | [] => rfl
  | p :: r => by
    by_cases e : p.1 = k
    · have z : valV (dkOf (p :: r)) (Sum.inl k) = some (V.int (p.2 : Nat)) := valV_pos (by show Sum.inl p.1 = Sum.inl k; rw [e])
      rw [z, getP_pos e]
      rfl
    · have z : valV (dkOf (p :: r)) (Sum.inl k) = valV (dkOf r) (Sum.inl k) := valV_neg fun z => e (Sum.inl.inj z)
      rw [z, getP_neg e]
      exact val_dk k r
theorem any_dk (k : Int) (ps : Ps) : ((dkOf ps).any fun kv => decide (kv.1 = Sum.inl k)) = ps.any fun p => decide (p.1 = k) := by
  unfold dkOf
  rw [List.any_map]
  congr 1
  funext p
  show decide (Sum.inl p.1 = Sum.inl k) = decide (p.1 = k)
  by_cases e : p.1 = k
  · rw [decide_eq_true e, decide_eq_true (by rw [e])]
  · rw [decide_eq_false e, decide_eq_false fun z => e (Sum.inl.inj z)]
theorem put_dk (ps : Ps) (k : Int) (v : Nat) : putK (dkOf ps) (Sum.inl k) (.int (v : Nat)) = dkOf (putP ps k v) := by
  unfold putK putP
  rw [any_dk]
  split
  · unfold dkOf
    rw [List.map_map, List.map_map]
    refine List.map_congr_left fun p _ => ?_
    show (if Sum.inl p.1 = Sum.inl k then (Sum.inl p.1, V.int (v : Nat)) else (Sum.inl p.1, V.int (p.2 : Nat))) = (Sum.inl (if p.1 = k then (p.1, v) else p).1, V.int ((if p.1 = k then (p.1, v) else p).2 : Nat))
    by_cases e : p.1 = k
    · rw [if_pos e, if_pos (by rw [e])]
    · rw [if_neg e, if_neg fun z => e (Sum.inl.inj z)]
  · unfold dkOf
    rw [List.map_append]
    rfl
theorem get_none {k : Int} : ∀ {ps : Ps}, (ps.any fun p => decide (p.1 = k)) = false → getP ps k = 0
  | [], _ => rfl
  | p :: r, h => by
    rw [List.any_cons, Bool.or_eq_false_iff] at h
    rw [getP_neg (of_decide_eq_false h.1)]
    exact get_none h.2
theorem repl_same {k : Int} {v : Nat} {ps : Ps} (h : ∀ p ∈ ps, p.1 ≠ k) : ps.map (fun p => if p.1 = k then (p.1, v) else p) = ps := by
  have e : ps.map (fun p => if p.1 = k then (p.1, v) else p) = ps.map id := List.map_congr_left fun p hp => by rw [if_neg (h p hp)]; rfl
  rw [e, List.map_id]
theorem tot_repl {k : Int} {v : Nat} : ∀ {ps : Ps}, (ps.map (·.1)).Nodup → (ps.any fun p => decide (p.1 = k)) = true → tot (ps.map fun p => if p.1 = k then (p.1, v) else p) + getP ps k = tot ps + v
  | [], _, h => by cases h
  | p :: r, nd, h => by
    rw [List.map_cons, List.nodup_cons] at nd
    by_cases e : p.1 = k
    · rw [getP_pos e, List.map_cons, if_pos e, repl_same fun q hq z => nd.1 (by rw [e, ← z]; exact List.mem_map_of_mem hq)]
      show v + tot r + p.2 = p.2 + tot r + v
      omega
    · rw [List.any_cons, decide_eq_false e, Bool.false_or] at h
      have z := tot_repl (v := v) nd.2 h
      rw [getP_neg e, List.map_cons, if_neg e]
      show p.2 + tot (r.map fun p => if p.1 = k then (p.1, v) else p) + getP r k = p.2 + tot r + v
      omega
theorem tot_put {ps : Ps} {k : Int} {m : Nat} (nd : (ps.map (·.1)).Nodup) : tot (putP ps k (getP ps k + m)) = tot ps + m := by
  unfold putP
  cases h : ps.any fun p => decide (p.1 = k) with
  | true =>
    rw [if_pos rfl]
    have z := tot_repl (v := getP ps k + m) nd h
    omega
  | false =>
    rw [if_neg Bool.false_ne_true, get_none h]
    show (List.map (·.2) (ps ++ [(k, 0 + m)])).sum = _
    rw [List.map_append, List.sum_append]
    show tot ps + (0 + m + 0) = _
    omega
theorem keys_put {ps : Ps} {k : Int} {v : Nat} (nd : (ps.map (·.1)).Nodup) : ((putP ps k v).map (·.1)).Nodup ∧ ∀ p ∈ putP ps k v, p.1 = k ∨ ∃ q ∈ ps, q.1 = p.1 := by
  unfold putP
  cases h : ps.any fun p => decide (p.1 = k) with
  | true =>
    rw [if_pos rfl]
    have e : (ps.map fun p => if p.1 = k then (p.1, v) else p).map (·.1) = ps.map (·.1) := by
      rw [List.map_map]
      refine List.map_congr_left fun p _ => ?_
      show (if p.1 = k then (p.1, v) else p).1 = p.1
      split <;> rfl
    refine ⟨by rw [e]; exact nd, fun p hp => .inr ?_⟩
    obtain ⟨q, hq, e2⟩ := List.mem_map.mp hp
    refine ⟨q, hq, ?_⟩
    rw [← e2]
    split <;> rfl
  | false =>
    rw [if_neg Bool.false_ne_true]
    refine ⟨?_, fun p hp => ?_⟩
    · rw [List.map_append, List.nodup_append]
      refine ⟨nd, by simp, fun a ha b hb z => ?_⟩
      obtain ⟨q, hq, e⟩ := List.mem_map.mp ha
      have e2 : b = k := by simpa using hb
      have y := List.any_eq_false.mp h q hq
      exact y (decide_eq_true (by rw [e, z, e2]))
    · rcases List.mem_append.mp hp with a | a
      · exact .inr ⟨p, a, rfl⟩
      · left
        have e : p = (k, v) := by simpa using a
        rw [e]
theorem getP_le (k : Int) : ∀ ps : Ps, getP ps k ≤ tot ps
  | [] => Nat.zero_le _
  | p :: r => by
    by_cases e : p.1 = k
    · rw [getP_pos e]
      show p.2 ≤ p.2 + tot r
      omega
    · rw [getP_neg e]
      have z := getP_le k r
      show getP r k ≤ p.2 + tot r
      omega
theorem len_sub {α : Type} [DecidableEq α] : ∀ {l m : List α}, l.Nodup → (∀ x ∈ l, x ∈ m) → l.length ≤ m.length
  | [], _, _, _ => Nat.zero_le _
  | a :: l, m, nd, h => by
    rw [List.nodup_cons] at nd
    have ha := h a (by simp)
    have z := len_sub (l := l) (m := m.erase a) nd.2 fun x hx => (List.mem_erase_of_ne (fun e => nd.1 (by rw [← e]; exact hx))).mpr (h x (by simp [hx]))
    rw [List.length_erase_of_mem ha] at z
    have pos : 0 < m.length := List.length_pos_of_mem ha
    rw [List.length_cons]
    omega
/-- distinct keys from lo to hi, values of the sum S -/
structure Ways (lo hi : Int) (S : Nat) (ps : Ps) : Prop where
  nd : (ps.map (·.1)).Nodup
  rg : ∀ p ∈ ps, lo ≤ p.1 ∧ p.1 ≤ hi
  le : tot ps ≤ S
theorem Ways.len {lo hi : Int} {S : Nat} {ps : Ps} (h : Ways lo hi S ps) (h0 : -60 ≤ lo) (h1 : hi ≤ 60) : ps.length ≤ 121 := by
  have z := len_sub (l := ps.map (·.1)) (m := (List.range 121).map fun i => ((i : Nat) : Int) - 60) h.nd fun x hx => by
    obtain ⟨p, hp, rfl⟩ := List.mem_map.mp hx
    have r := h.rg p hp
    exact List.mem_map.mpr ⟨(p.1 + 60).toNat, List.mem_range.mpr (by omega), by omega⟩
  rw [List.length_map, List.length_map, List.length_range] at z
  exact z
theorem Ways.put {lo hi : Int} {S m : Nat} {ps : Ps} {k : Int} (h : Ways lo hi S ps) (h0 : lo ≤ k) (h1 : k ≤ hi) : Ways lo hi (S + m) (putP ps k (getP ps k + m)) := by
  obtain ⟨a, b⟩ := keys_put (k := k) (v := getP ps k + m) h.nd
  refine ⟨a, fun p hp => ?_, ?_⟩
  · rcases b p hp with e | ⟨q, hq, e⟩
    · rw [e]
      exact ⟨h0, h1⟩
    · rw [← e]
      exact h.rg q hq
  · rw [tot_put h.nd]
    have z := h.le
    omega
theorem Ways.mono {lo hi : Int} {S S' : Nat} {ps : Ps} (h : Ways lo hi S ps) (le : S ≤ S') : Ways lo hi S' ps := ⟨h.nd, h.rg, Nat.le_trans h.le le⟩
theorem tot_take {ps : Ps} {i : Nat} {p : Int × Nat} (h : ps[i]? = some p) : tot (ps.take (i + 1)) = tot (ps.take i) + p.2 := by
  unfold tot
  rw [List.take_add_one, h, List.map_append, List.sum_append]
  simp
/-! what stands where -/
theorem get_repl {k r : Int} {v : Nat} : ∀ {ps : Ps}, (ps.any fun p => decide (p.1 = k)) = true → getP (ps.map fun p => if p.1 = k then (p.1, v) else p) r = if r = k then v else getP ps r
  | [], h => by cases h
  | p :: ps, h => by
    rw [List.map_cons]
    by_cases e : p.1 = k
    · rw [if_pos e]
      by_cases er : r = k
      · rw [if_pos er, getP_pos (by show p.1 = r; rw [e, er])]
      · rw [if_neg er, getP_neg (by show ¬ p.1 = r; rw [e]; exact fun z => er z.symm), getP_neg (by rw [e]; exact fun z => er z.symm)]
        cases h2 : ps.any fun p => decide (p.1 = k) with
        | true => rw [get_repl h2, if_neg er]
        | false =>
          rw [repl_same fun q hq z => by
            have y := List.any_eq_false.mp h2 q hq
            exact y (decide_eq_true z)]
    · rw [if_neg e]
      rw [List.any_cons, decide_eq_false e, Bool.false_or] at h
      by_cases er : r = k
      · rw [if_pos er, getP_neg (by rw [er]; exact e), get_repl h, if_pos er]
      · rw [if_neg er]
        by_cases ep : p.1 = r
        · rw [getP_pos ep, getP_pos ep]
        · rw [getP_neg ep, getP_neg ep, get_repl h, if_neg er]
theorem get_app {k r : Int} {v : Nat} : ∀ {ps : Ps}, (ps.any fun p => decide (p.1 = k)) = false → getP (ps ++ [(k, v)]) r = if r = k then v else getP ps r
  | [], _ => by
    by_cases er : r = k
    · rw [if_pos er]
      exact getP_pos er.symm
    · rw [if_neg er]
      exact getP_neg fun z => er z.symm
  | p :: ps, h => by
    rw [List.any_cons, Bool.or_eq_false_iff] at h
    have e := of_decide_eq_false h.1
    rw [List.cons_append]
    by_cases ep : p.1 = r
    · rw [getP_pos ep, getP_pos ep, if_neg (by rw [← ep]; exact e)]
    · rw [getP_neg ep, getP_neg ep, get_app h.2]
theorem get_put (ps : Ps) (k r : Int) (v : Nat) : getP (putP ps k v) r = if r = k then v else getP ps r := by
  unfold putP
  cases h : ps.any fun p => decide (p.1 = k) with
  | true => rw [if_pos rfl, get_repl h]
  | false => rw [if_neg Bool.false_ne_true, get_app h]
theorem get_out {ps : Ps} {k : Int} (h : ∀ p ∈ ps, p.1 ≠ k) : getP ps k = 0 := get_none (List.any_eq_false.mpr fun p hp => by simpa using h p hp)
/-- what the entries of a list give to r -/
def give (f : Int → Int → Nat) (ps : Ps) (r : Int) : Nat := (ps.map fun p => f p.1 r * p.2).sum
theorem give_take {f : Int → Int → Nat} {ps : Ps} {i : Nat} {p : Int × Nat} {r : Int} (h : ps[i]? = some p) : give f (ps.take (i + 1)) r = give f (ps.take i) r + f p.1 r * p.2 := by
  unfold give
  rw [List.take_add_one, h, List.map_append, List.sum_append]
  simp
theorem give_one {ps : Ps} {k r : Int} (nd : (ps.map (·.1)).Nodup) : give (fun x _ => if x = k then 1 else 0) ps r = getP ps k := by
  induction ps with
  | nil => rfl
  | cons p ps ih =>
    rw [List.map_cons, List.nodup_cons] at nd
    have e : give (fun x _ => if x = k then 1 else 0) (p :: ps) r = (if p.1 = k then 1 else 0) * p.2 + give (fun x _ => if x = k then 1 else 0) ps r := rfl
    rw [e, ih nd.2]
    by_cases ep : p.1 = k
    · rw [if_pos ep, getP_pos ep, get_out fun q hq z => nd.1 (by rw [ep, ← z]; exact List.mem_map_of_mem hq)]
      omega
    · rw [if_neg ep, getP_neg ep]
      omega
theorem give_add {f g : Int → Int → Nat} {ps : Ps} {r : Int} : give (fun x y => f x y + g x y) ps r = give f ps r + give g ps r := by
  induction ps with
  | nil => rfl
  | cons p ps ih =>
    have e : ∀ h : Int → Int → Nat, give h (p :: ps) r = h p.1 r * p.2 + give h ps r := fun _ => rfl
    rw [e, e, e, ih, Nat.add_mul]
    omega
theorem give_congr {f g : Int → Int → Nat} {ps : Ps} {r : Int} (h : ∀ x, f x r = g x r) : give f ps r = give g ps r := by
  unfold give
  congr 1
  exact List.map_congr_left fun p _ => by rw [h]
/-- one step up or down -/
def stepF (x r : Int) : Nat := (if x - 1 = r then 1 else 0) + (if x + 1 = r then 1 else 0)
theorem give_step {ps : Ps} {r : Int} (nd : (ps.map (·.1)).Nodup) : give stepF ps r = getP ps (r + 1) + getP ps (r - 1) := by
  have e1 : give stepF ps r = give (fun x y => (if x = r + 1 then 1 else 0) + (if x = r - 1 then 1 else 0)) ps r := give_congr fun x => by
    show (if x - 1 = r then 1 else 0) + (if x + 1 = r then 1 else 0) = (if x = r + 1 then 1 else 0) + (if x = r - 1 then 1 else 0)
    congr 1 <;> (split <;> split <;> first | rfl | omega)
  rw [e1, give_add (f := fun x _ => if x = r + 1 then 1 else 0) (g := fun x _ => if x = r - 1 then 1 else 0), give_one nd, give_one nd]
end K6
set_option maxRecDepth 100000
set_option maxHeartbeats 4000000
namespace K6
open PySem PySem.Spec PyProof.Rows L2
/-! ### the size of a walk is below the bound -/
def big : Int := 10 ^ 4000
theorem big_of {n : Nat} (h : n ≤ 2 ^ 13000) : ((n : Nat) : Int) < big := by
  have z : (2 : Nat) ^ 13000 < 10 ^ 4000 := by decide +kernel
  have y : n < 10 ^ 4000 := Nat.lt_of_le_of_lt h z
  have x : ((n : Nat) : Int) < (((10 ^ 4000 : Nat)) : Int) := Int.ofNat_lt.mpr y
  rw [Int.natCast_pow] at x
  exact x
/-- a number from 0 on, below the bound -/
def spB (m : Nat) (p : List PyData → Bool) : Sp := fun vs H Q _ => ∃ (a : Addr) (xs : List V) (ds : List PyData), vs = [.ref a] ∧ H a = some (.tup xs) ∧ DatAll H xs ds ∧ ds.length = m ∧ p ds = true ∧ ∀ (H' : Hp) (n : Nat), Same H H' → ((n : Nat) : Int) < big → Q (.int (n : Nat)) H'
abbrev sStep : Stmt := top 21
abbrev sWalkSize : Stmt := top 20
def spStep : Sp := fun vs H Q _ => ∃ (d : Addr) (ps : Ps) (lo hi : Int), vs = [.ref d, .int lo, .int hi] ∧ H d = some (.dK (dkOf ps)) ∧ -60 ≤ lo ∧ hi ≤ 60 ∧ ∀ p H' ps', Same H H' → H' p = some (.dK (dkOf ps')) → Ways lo hi (2 * tot ps) ps' → (∀ r, getP ps' r = if lo ≤ r ∧ r ≤ hi then give stepF ps r else 0) → Q (.ref p) H'
/-- ways of i steps from s to h -/
def walkW (lo hi s : Int) : Nat → Int → Nat
  | 0, h => if h = s then 1 else 0
  | i + 1, h => if lo ≤ h ∧ h ≤ hi then walkW lo hi s i (h + 1) + walkW lo hi s i (h - 1) else 0
theorem walkW_le (lo hi s : Int) : ∀ (i : Nat) (h : Int), walkW lo hi s i h ≤ 2 ^ i
  | 0, h => by
    unfold walkW
    split <;> decide
  | i + 1, h => by
    unfold walkW
    have a := walkW_le lo hi s i (h + 1)
    have b := walkW_le lo hi s i (h - 1)
    rw [Nat.pow_succ]
    split <;> omega
def zWalk (ds : List PyData) : Int := (walkW (intOf (at0 ds 4)) (intOf (at0 ds 5)) (intOf (at0 ds 2)) (intOf (at0 ds 1)).toNat (intOf (at0 ds 3)) : Nat)
section
variable {P : Program} {w : World} {K : PySem.W.Frag} {mg : Str → Option Value} {base : Heap}
theorem scStep : FnScope ["ways", "low", "high", "longer", "height", "many", "reached"] ["ways", "low", "high"] (defScope sStep) := ⟨rfl, rfl, rfl, by decide +kernel, rfl, by decide +kernel, by decide +kernel⟩
theorem scWalkSize : FnScope ["space", "n", "start", "end", "low", "high", "ways", "_"] ["space"] (defScope sWalkSize) := ⟨rfl, rfl, rfl, by decide +kernel, rfl, by decide +kernel, by decide +kernel⟩
theorem ok_step {f : Addr} {fd : FuncData} (F : Fun K "step_on" "step_on" sStep f fd) : FnOk P w K mg base CX0 1 f fd ["ways", "low", "high"] spStep := by
  refine F.ok scStep (fun vs H Q E h => ?_) (fun cdv A outer s H vs Q E hr h => ?_)
  · obtain ⟨d, ps, lo, hi, rfl, _⟩ := h
    rfl
  · obtain ⟨d, ps, lo, hi, rfl, hd, h0, h1, q⟩ := h
    have hu := hu_of hr
    refine ⟨_, pss_cons (ps_set (i := 3) scStep.nd rfl (Or.inl rfl) pe_dnewK)
      (pss_cons (ps_lock (ps_for PassesOwn.never rfl (pi_items (pv 0)) (pg_tup rfl (pgs_cons (pg_name (i := 4) scStep.nd rfl (Or.inl rfl)) (pgs_cons (pg_name (i := 5) scStep.nd rfl (Or.inl rfl)) pgs_nil)))
        (pss_one (ps_for PassesOwn.never rfl (pi_tup (pe_tup (pa_cons (pe_op op_sub (pv 4) pe_int) (pa_cons (pe_op op_add (pv 4) pe_int) pa_nil)))) (pg_name (i := 6) scStep.nd rfl (Or.inl rfl))
          (pss_one (ps_if (pt_chain op_le op_le (pv 1) (pv 6) (pv 2)) (pss_one (ps_dput hu (pv 3) (pv 6) (pe_op op_add (pe_dget2 hu (pv 3) (pv 6) pe_int ⟨rfl, rfl, rfl, rfl⟩) (pv 5)) rfl)) pss_nil))))))
      (pss_one (ps_ret (pv 3)))), ?_⟩
    intro D nD
    have S0 := same_new (o := HO.dK []) nD
    have dD : d ≠ D := ne_of_none hd nD
    have hD0 : upd H D (.dK []) D = some (.dK (dkOf [])) := upd_same
    have hd0 := S0 _ _ hd
    generalize upd H D (.dK []) = H0 at S0 hD0 hd0 ⊢
    refine ⟨d, _, hd0, trivial, fun od => ?_⟩
    have len : (dkOf ps).length = ps.length := by unfold dkOf; rw [List.length_map]
    refine ⟨_, rfl, d, od, dkOf ps, rfl, upd_same, for_it (walk_items (d := d) (o := od) (kvs := dkOf ps)) (fun i σ Hx => ∃ (x4 x5 x6 : Option V) (qs : Ps), σ = [some (.ref d), some (.int lo), some (.int hi), some (.ref D), x4, x5, x6] ∧ Hx d = some (.frz od (.dK (dkOf ps))) ∧ Same H (upd Hx d (.dK (dkOf ps))) ∧ Hx D = some (.dK (dkOf qs)) ∧ Ways lo hi (2 * tot (ps.take i)) qs ∧ ∀ r, getP qs r = if lo ≤ r ∧ r ≤ hi then give stepF (ps.take i) r else 0)
      ⟨none, none, none, [], rfl, upd_same, ?_, by rw [upd_ne (Ne.symm dD)]; exact hD0, ⟨List.nodup_nil, by simp, Nat.zero_le _⟩, fun r => by rw [List.take_zero]; show 0 = if _ then 0 else 0; split <;> rfl⟩ (fun i σ Hx _ ⟨_, _, _, _, _, h, _⟩ => h) ?_ ?_⟩
    · intro b o e
      by_cases eb : b = d
      · subst eb
        rw [upd_same, ← hd, e]
      · rw [upd_ne eb, upd_ne eb]
        exact S0 _ _ e
    · rintro i x σ Hx Hy hi' ⟨x4, x5, x6, qs, rfl, hf, S, hD, W, Xq⟩ ⟨T, ky, vy, rfl, nT, rfl, e1, e2⟩
      have hip : i < ps.length := by rw [← len]; exact hi'
      have gp : ps[i]? = some ps[i] := List.getElem?_eq_getElem hip
      have gk : (dkOf ps)[i]? = some (Sum.inl ps[i].1, V.int (ps[i].2 : Nat)) := by
        unfold dkOf
        rw [List.getElem?_map, gp]
        rfl
      dsimp only at e1 e2
      rw [gk] at e1 e2
      obtain rfl : V.int ps[i].1 = ky := Option.some.inj e1
      obtain rfl : V.int (ps[i].2 : Nat) = vy := Option.some.inj e2
      have SU := same_new (o := HO.tup [V.int ps[i].1, V.int (ps[i].2 : Nat)]) nT
      have Td : d ≠ T := ne_of_none hf nT
      have hf1 := SU _ _ hf
      have hD1 := SU _ _ hD
      have S1 : Same H (upd (upd Hx T (.tup [V.int ps[i].1, V.int (ps[i].2 : Nat)])) d (.dK (dkOf ps))) := by
        intro b o e
        have z := S b o e
        by_cases eb : b = d
        · subst eb
          rw [upd_same] at z ⊢
          exact z
        · rw [upd_ne eb] at z ⊢
          exact SU _ _ z
      have hTT : upd Hx T (.tup [V.int ps[i].1, V.int (ps[i].2 : Nat)]) T = some (.tup [V.int ps[i].1, V.int (ps[i].2 : Nat)]) := upd_same
      generalize upd Hx T (.tup [V.int ps[i].1, V.int (ps[i].2 : Nat)]) = H2 at hf1 hD1 S1 hTT ⊢
      generalize hpi : ps[i] = pi at *
      obtain ⟨ht, m⟩ := pi
      refine ⟨T, _, rfl, SqT.of hTT, rfl, _, _, rfl, _, _, rfl, rfl, ?_⟩
      refine ⟨_, rfl, _, _, rfl, rfl, _, rfl, _, _, rfl, rfl, (by show 2 ≤ sizeLine; decide), fun U nU => ?_⟩
      have SV := same_new (o := HO.tup [V.int (ht - 1), V.int (ht + 1)]) nU
      have hf2 := SV _ _ hf1
      have hD2 := SV _ _ hD1
      have dU : d ≠ U := ne_of_none hf1 nU
      have S2 : Same H (upd (upd H2 U (.tup [V.int (ht - 1), V.int (ht + 1)])) d (.dK (dkOf ps))) := by
        intro b o e
        have z := S1 b o e
        by_cases eb : b = d
        · subst eb
          rw [upd_same] at z ⊢
          exact z
        · rw [upd_ne eb] at z ⊢
          exact SV _ _ z
      have hUU : upd H2 U (.tup [V.int (ht - 1), V.int (ht + 1)]) U = some (.tup [V.int (ht - 1), V.int (ht + 1)]) := upd_same
      generalize upd H2 U (.tup [V.int (ht - 1), V.int (ht + 1)]) = H3 at hf2 hD2 S2 hUU ⊢
      have UD : U ≠ D := fun z => by
        rw [z, hD2] at hUU
        cases hUU
      refine ⟨U, rfl, ⟨_, SqT.of hUU⟩, for_tup (K := K) (a := U) (xs := [V.int (ht - 1), V.int (ht + 1)]) (fun j σ Hz => ∃ (x6 : Option V) (qs : Ps), σ = [some (.ref d), some (.int lo), some (.int hi), some (.ref D), some (.int ht), some (.int (m : Nat)), x6] ∧ Hz d = some (.frz od (.dK (dkOf ps))) ∧ Same H (upd Hz d (.dK (dkOf ps))) ∧ Hz D = some (.dK (dkOf qs)) ∧ Hz U = some (.tup [V.int (ht - 1), V.int (ht + 1)]) ∧ Ways lo hi (2 * tot (ps.take i) + j * m) qs ∧ ∀ r, getP qs r = if lo ≤ r ∧ r ≤ hi then give stepF (ps.take i) r + ((if 1 ≤ j ∧ ht - 1 = r then 1 else 0) + (if 2 ≤ j ∧ ht + 1 = r then 1 else 0)) * m else 0)
        ⟨x6, qs, rfl, hf2, S2, hD2, hUU, W.mono (by omega), fun r => by rw [Xq]; simp⟩ (fun j σ Hz _ ⟨_, _, _, _, _, _, h, _⟩ => SqT.of h) ?_ ?_⟩
      · rintro j y σ Hz hy ⟨x6, rs, rfl, hf3, S3, hD3, hU3, W3, X3⟩
        obtain ⟨r, rfl, hjr⟩ : ∃ r : Int, y = V.int r ∧ ((j = 0 ∧ r = ht - 1) ∨ (j = 1 ∧ r = ht + 1)) := by
          match j, hy with
          | 0, hy => exact ⟨_, (Option.some.inj hy).symm, .inl ⟨rfl, rfl⟩⟩
          | 1, hy => exact ⟨_, (Option.some.inj hy).symm, .inr ⟨rfl, rfl⟩⟩
        have co : ∀ r' : Int, ((if 1 ≤ j + 1 ∧ ht - 1 = r' then 1 else 0) + (if 2 ≤ j + 1 ∧ ht + 1 = r' then 1 else 0)) * m = ((if 1 ≤ j ∧ ht - 1 = r' then 1 else 0) + (if 2 ≤ j ∧ ht + 1 = r' then 1 else 0)) * m + (if r' = r then m else 0) := fun r' => by
          rcases hjr with ⟨rfl, rfl⟩ | ⟨rfl, rfl⟩
          · by_cases e : r' = ht - 1
            · subst e
              simp
            · have e2 : ¬ (ht - 1 = r') := fun z => e z.symm
              simp [e, e2]
          · by_cases e : r' = ht + 1
            · subst e
              simp [Nat.add_mul]
            · have e2 : ¬ (ht + 1 = r') := fun z => e z.symm
              simp [e, e2]
        have stay : (¬ (lo ≤ r ∧ r ≤ hi)) → ∀ r', getP rs r' = if lo ≤ r' ∧ r' ≤ hi then give stepF (ps.take i) r' + ((if 1 ≤ j + 1 ∧ ht - 1 = r' then 1 else 0) + (if 2 ≤ j + 1 ∧ ht + 1 = r' then 1 else 0)) * m else 0 := fun hout r' => by
          rw [X3, co]
          generalize ((if 1 ≤ j ∧ ht - 1 = r' then 1 else 0) + (if 2 ≤ j ∧ ht + 1 = r' then 1 else 0)) * m = c0
          by_cases hr' : lo ≤ r' ∧ r' ≤ hi
          · rw [if_pos hr', if_pos hr', if_neg (fun z => hout (by rw [← z]; exact hr')), Nat.add_zero]
          · rw [if_neg hr', if_neg hr']
        refine ⟨_, rfl, _, rfl, _, _, rfl, rfl, _, rfl, ?_⟩
        by_cases k1 : lo ≤ r
        · refine if_t (decide_eq_true k1) ⟨_, rfl, _, _, rfl, rfl, _, rfl, ?_⟩
          by_cases k2 : r ≤ hi
          · refine if_t (decide_eq_true k2) ⟨_, rfl, D, rfl, .inl ⟨_, .inl hD3⟩, _, rfl, _, DGet.k (k := Sum.inl r) hD3, _, rfl, _, _, val_dk r rs, rfl, _, rfl, _, rfl, D, _, rfl, DPut.k (k := Sum.inl r) hD3 ?_, ?_⟩
            · have z := W3.len h0 h1
              have e : (dkOf rs).length = rs.length := by unfold dkOf; rw [List.length_map]
              rw [e, sizeLine_eq]
              omega
            · have e : putK (dkOf rs) (Sum.inl r) (V.int ((getP rs r : Nat) + (m : Nat))) = dkOf (putP rs r (getP rs r + m)) := by
                rw [← put_dk]
                congr 1
              rw [e]
              refine ⟨_, _, rfl, by rw [upd_ne dD]; exact hf3, ?_, upd_same, by rw [upd_ne UD]; exact hU3, (W3.put k1 k2).mono (by have y := Nat.add_one_mul j m; omega), fun r' => ?_⟩
              rotate_left
              · rw [get_put, co, X3, X3]
                by_cases er : r' = r
                · subst er
                  generalize ((if 1 ≤ j ∧ ht - 1 = r' then 1 else 0) + (if 2 ≤ j ∧ ht + 1 = r' then 1 else 0)) * m = c0
                  rw [if_pos rfl, if_pos ⟨k1, k2⟩, if_pos ⟨k1, k2⟩, if_pos rfl]
                  omega
                · generalize ((if 1 ≤ j ∧ ht - 1 = r' then 1 else 0) + (if 2 ≤ j ∧ ht + 1 = r' then 1 else 0)) * m = c0
                  rw [if_neg er, if_neg er, Nat.add_zero]
              intro b o eb
              have z := S3 b o eb
              by_cases e1 : b = d
              · subst e1
                rw [upd_same] at z ⊢
                exact z
              · have bD : b ≠ D := fun z2 => by
                  rw [z2] at eb
                  rw [nD] at eb
                  cases eb
                rw [upd_ne e1] at z ⊢
                rw [upd_ne bD]
                exact z
          · exact if_f (decide_eq_false k2) ⟨_, _, rfl, hf3, S3, hD3, hU3, W3.mono (by have y := Nat.add_one_mul j m; omega), stay fun z => k2 z.2⟩
        · exact if_f (decide_eq_false k1) ⟨_, rfl, if_f rfl ⟨_, _, rfl, hf3, S3, hD3, hU3, W3.mono (by have y := Nat.add_one_mul j m; omega), stay fun z => k1 z.1⟩⟩
      · rintro σ Hz ⟨x6, rs, rfl, hf3, S3, hD3, hU3, W3, X3⟩
        refine ⟨_, _, _, rs, rfl, hf3, S3, hD3, ?_, fun r => ?_⟩
        rotate_left
        · rw [X3, give_take gp]
          show (if lo ≤ r ∧ r ≤ hi then _ + ((if 1 ≤ 2 ∧ ht - 1 = r then 1 else 0) + (if 2 ≤ 2 ∧ ht + 1 = r then 1 else 0)) * m else 0) = if lo ≤ r ∧ r ≤ hi then _ + stepF ht r * m else 0
          unfold stepF
          simp
        have z := tot_take gp
        refine W3.mono ?_
        rw [z]
        show 2 * tot (ps.take i) + 2 * m ≤ 2 * (tot (ps.take i) + m)
        omega
    · rintro σ Hx ⟨x4, x5, x6, qs, rfl, hf, S, hD, W, Xq⟩
      rw [len, List.take_length] at Xq
      refine ⟨hf, _, rfl, q D _ qs S ?_ ?_ Xq⟩
      · rw [upd_ne (Ne.symm dD)]
        exact hD
      · rw [len, List.take_length] at W
        exact W
theorem ok_walksize {f fS : Addr} {fd fdS : FuncData} (F : Fun K "walk_size" "walk_size" sWalkSize f fd) (T : Nm mg) (G : DefOk K mg "step_on" sStep ["ways", "low", "high"] fS fdS) : FnOk P w K mg base CX0 2 f fd ["space"] (spSize 6 pWalk zWalk) := by
  have GS : FnOk P w K mg base CX0 1 fS fdS ["ways", "low", "high"] spStep := ok_step G.F
  refine F.ok scWalkSize (fun vs H Q E h => ?_) (fun cdv A outer s H vs Q E hr h => ?_)
  · obtain ⟨a, xs, ds, rfl, _⟩ := h
    rfl
  · obtain ⟨a, xs, ds, rfl, ha, hx, hl, hp, q⟩ := h
    have hu := hu_of hr
    match ds, hl, hx with
    | [d0, d1, d2, d3, d4, d5], _, .cons (v := x0) c0 (.cons (v := x1) c1 (.cons (v := x2) c2 (.cons (v := x3) c3 (.cons (v := x4) c4 (.cons (v := x5) c5 .nil))))) =>
      have e : pWalk [d0, d1, d2, d3, d4, d5] = ([d2, d3, d4, d5].all (btw (-60) 60) && (btw 0 60 d1 && (decide (intOf d4 ≤ intOf d2) && decide (intOf d2 ≤ intOf d5) && (decide (intOf d4 ≤ intOf d3) && decide (intOf d3 ≤ intOf d5))))) := rfl
      rw [e, Bool.and_eq_true, Bool.and_eq_true] at hp
      have hall := List.all_eq_true.mp hp.1
      obtain ⟨n, rfl, n0, n60⟩ := btw_int hp.2.1
      obtain ⟨i2, rfl, _, _⟩ := btw_int (hall d2 (by simp))
      obtain ⟨i3, rfl, _, _⟩ := btw_int (hall d3 (by simp))
      obtain ⟨i4, rfl, a4, _⟩ := btw_int (hall d4 (by simp))
      obtain ⟨i5, rfl, _, a5⟩ := btw_int (hall d5 (by simp))
      obtain rfl := dat_int c1
      obtain rfl := dat_int c2
      obtain rfl := dat_int c3
      obtain rfl := dat_int c4
      obtain rfl := dat_int c5
      refine ⟨_, pss_cons (ps_asg (pe_slice sl_tupA (pv 0) (po_some pe_int) po_none) (pg_tup rfl (pgs_cons (pg_name (i := 1) scWalkSize.nd rfl (Or.inl rfl)) (pgs_cons (pg_name (i := 2) scWalkSize.nd rfl (Or.inl rfl)) (pgs_cons (pg_name (i := 3) scWalkSize.nd rfl (Or.inl rfl)) (pgs_cons (pg_name (i := 4) scWalkSize.nd rfl (Or.inl rfl)) (pgs_cons (pg_name (i := 5) scWalkSize.nd rfl (Or.inl rfl)) pgs_nil)))))))
        (pss_cons (ps_set (i := 6) scWalkSize.nd rfl (Or.inl rfl) (pe_disp (pps_cons (pv 2) pe_int pps_nil) (by rfl) (by rfl) (fun z => by cases z) (by decide)))
        (pss_cons (ps_for PassesOwn.never rfl (pi_range1 rfl T.range (pa_cons (pv 1) pa_nil)) (pg_name (i := 7) scWalkSize.nd rfl (Or.inl rfl))
          (pss_one (ps_set (i := 6) scWalkSize.nd rfl (Or.inl rfl) (pe_call GS hr rfl G.g G.F.kp G.b .nil pass0 (pa_cons (pv 6) (pa_cons (pv 4) (pa_cons (pv 5) pa_nil)))))))
        (pss_one (ps_ret (pe_dget2 hu (pv 6) (pv 3) pe_int ⟨rfl, rfl, rfl, rfl⟩))))), ?_⟩
      refine ⟨_, rfl, 1, rfl, ?_⟩
      dsimp only [tNoPart]
      refine slK_of 1 ha fun b Hb Sb hb => ?_
      refine ⟨b, _, rfl, SqT.of hb, rfl, _, _, rfl, _, _, rfl, _, _, rfl, _, _, rfl, _, _, rfl, rfl, ?_⟩
      intro D nD
      refine ⟨_, rfl, upd_same, [(Sum.inl i2, V.int 1)], rfl, (show 1 ≤ 15 by decide), ?_⟩
      have S0 : Same H (upd (upd Hb D (.dK [])) D (.dK (mergeK [] [(Sum.inl i2, V.int 1)]))) := Sb.trans fun b o e => by
        have bD := ne_of_none e nD
        rw [upd_ne bD, upd_ne bD]
        exact e
      have hD0 : upd (upd Hb D (.dK [])) D (.dK (mergeK [] [(Sum.inl i2, V.int 1)])) D = some (.dK (dkOf [(i2, 1)])) := by
        rw [upd_same]
        rfl
      generalize upd (upd Hb D (.dK [])) D (.dK (mergeK [] [(Sum.inl i2, V.int 1)])) = H0 at S0 hD0 ⊢
      refine ⟨_, rfl, n, rfl, by omega, by omega, for_range (n := n.toNat) (fun i σ Hx => ∃ (d : Addr) (ps : Ps) (x7 : Option V), σ = [some (.ref a), some (.int n), some (.int i2), some (.int i3), some (.int i4), some (.int i5), some (.ref d), x7] ∧ Same H Hx ∧ Hx d = some (.dK (dkOf ps)) ∧ (ps.map (·.1)).Nodup ∧ ∀ h, getP ps h = walkW i4 i5 i2 i h)
        ⟨D, [(i2, 1)], none, rfl, S0, hD0, by simp, fun h => by
          show getP [(i2, 1)] h = if h = i2 then 1 else 0
          by_cases e : h = i2
          · rw [if_pos e]
            exact getP_pos e.symm
          · rw [if_neg e]
            exact getP_neg fun z => e z.symm⟩ ?_ ?_⟩
      · rintro i σ Hx hi ⟨d, ps, x7, rfl, S, hd, nd, ht⟩
        refine ⟨_, rfl, _, rfl, _, rfl, d, ps, i4, i5, rfl, hd, a4, a5, fun p H' ps' S' hp' W Xw => ?_⟩
        refine ⟨p, ps', _, rfl, S.trans S', hp', W.nd, fun h => ?_⟩
        rw [Xw, give_step nd, ht, ht]
        rfl
      · rintro σ Hx ⟨d, ps, x7, rfl, S, hd, nd, ht⟩
        refine ⟨_, rfl, d, rfl, .inl ⟨_, .inl hd⟩, _, rfl, _, DGet.k (k := Sum.inl i3) hd, ?_⟩
        rw [val_dk, ht]
        exact q Hx S
end
end K6
set_option maxRecDepth 100000
set_option maxHeartbeats 4000000
namespace K6
open PySem PySem.Spec PyProof.Rows L2
/-! ### the size of a string space is below the bound -/
theorem keepNew {H Hx : Hp} {D : Addr} {o : HO} (nD : H D = none) (S : Same H Hx) : Same H (upd Hx D o) := fun b u e => by
  have bD : b ≠ D := fun z => by
    rw [z, nD] at e
    cases e
  rw [upd_ne bD]
  exact S _ _ e
abbrev sMoveOn : Stmt := top 8
abbrev sCountStr : Stmt := top 7
abbrev sStrSize : Stmt := top 26
def srcM (e : PyData) : Int := intOf (at0 (tupItems e) 0)
def tgtM (e : PyData) : Int := intOf (at0 (tupItems e) 2)
def mvS (g : Int → Nat) (ds : List PyData) (r : Int) : Nat := (ds.map fun e => if tgtM e = r then g (srcM e) else 0).sum
/-- strings of i letters that end in r -/
def strT (ms : List PyData) : Nat → Int → Nat
  | 0, r => if r = 0 then 1 else 0
  | i + 1, r => mvS (strT ms i) ms r
def strN (ms ss : List PyData) (n : Nat) : Nat := (ss.map fun e => strT ms n (intOf e)).sum
def zStr (ds : List PyData) : Int := (strN (tupItems (at0 (tupItems (at0 ds 1)) 0)) (tupItems (at0 (tupItems (at0 ds 1)) 1)) (intOf (at0 ds 2)).toNat : Nat)
theorem mvS_take {g : Int → Nat} {ds : List PyData} {i : Nat} {e : PyData} {r : Int} (h : ds[i]? = some e) : mvS g (ds.take (i + 1)) r = mvS g (ds.take i) r + if tgtM e = r then g (srcM e) else 0 := by
  unfold mvS
  rw [List.take_add_one, h, List.map_append, List.sum_append]
  simp
def spMove : Sp := fun vs H Q _ => ∃ (a d : Addr) (xs : List V) (ds : List PyData) (ps : Ps), vs = [.ref a, .ref d] ∧ H a = some (.tup xs) ∧ DatAll H xs ds ∧ (∀ e ∈ ds, moveB e = true) ∧ ds.length ≤ 48 ∧ H d = some (.dK (dkOf ps)) ∧ ∀ p H' ps', Same H H' → H' p = some (.dK (dkOf ps')) → Ways 0 7 (48 * tot ps) ps' → (∀ r, getP ps' r = mvS (getP ps) ds r) → Q (.ref p) H'
/-- count_strings(automaton, n) -/
def spCountStr : Sp := fun vs H Q _ => ∃ (v : V) (d : PyData) (n : Int), vs = [v, .int n] ∧ Dat H v d ∧ autoB d = true ∧ 0 ≤ n ∧ n ≤ 60 ∧ ∀ (H' : Hp), Same H H' → Q (.int (strN (tupItems (at0 (tupItems d) 0)) (tupItems (at0 (tupItems d) 1)) n.toNat : Nat)) H'
theorem sum_le {b : Nat} : ∀ {l : List Nat}, (∀ x ∈ l, x ≤ b) → l.sum ≤ l.length * b
  | [], _ => by simp
  | a :: l, h => by
    have z := sum_le (l := l) fun x hx => h x (by simp [hx])
    have y := h a (by simp)
    rw [List.sum_cons, List.length_cons, Nat.succ_mul]
    omega
theorem sum_cast : ∀ l : List Nat, (l.map fun k : Nat => (k : Int)).sum = ((l.sum : Nat) : Int)
  | [] => rfl
  | a :: l => by
    rw [List.map_cons, List.sum_cons, List.sum_cons, sum_cast l]
    omega
section
variable {P : Program} {w : World} {K : PySem.W.Frag} {mg : Str → Option Value} {base : Heap}
theorem scMoveOn : FnScope ["moves", "ways", "longer", "state", "_", "reached"] ["moves", "ways"] (defScope sMoveOn) := ⟨rfl, rfl, rfl, by decide +kernel, rfl, by decide +kernel, by decide +kernel⟩
theorem scCountStr : FnScope ["automaton", "n", "moves", "accepting", "ways", "_", "state"] ["automaton", "n"] (defScope sCountStr) := ⟨rfl, rfl, rfl, by decide +kernel, rfl, by decide +kernel, by decide +kernel⟩
theorem scStrSize : FnScope ["space", "automaton", "n"] ["space"] (defScope sStrSize) := ⟨rfl, rfl, rfl, by decide +kernel, rfl, by decide +kernel, by decide +kernel⟩
theorem ok_moveon {f : Addr} {fd : FuncData} (F : Fun K "move_on" "move_on" sMoveOn f fd) : FnOk P w K mg base CX0 1 f fd ["moves", "ways"] spMove := by
  refine F.ok scMoveOn (fun vs H Q E h => ?_) (fun cdv A outer s H vs Q E hr h => ?_)
  · obtain ⟨a, d, xs, ds, ps, rfl, _⟩ := h
    rfl
  · obtain ⟨a, d, xs, ds, ps, rfl, ha, hx, hm, h48, hd, q⟩ := h
    have hu := hu_of hr
    refine ⟨_, pss_cons (ps_set (i := 2) scMoveOn.nd rfl (Or.inl rfl) pe_dnewK)
      (pss_cons (ps_for PassesOwn.never rfl (pi_tup (pv 0)) (pg_tup rfl (pgs_cons (pg_name (i := 3) scMoveOn.nd rfl (Or.inl rfl)) (pgs_cons (pg_name (i := 4) scMoveOn.nd rfl (Or.inl rfl)) (pgs_cons (pg_name (i := 5) scMoveOn.nd rfl (Or.inl rfl)) pgs_nil))))
        (pss_one (ps_dput hu (pv 2) (pv 5) (pe_op op_add (pe_dget2 hu (pv 2) (pv 5) pe_int ⟨rfl, rfl, rfl, rfl⟩) (pe_dget2 hu (pv 1) (pv 3) pe_int ⟨rfl, rfl, rfl, rfl⟩)) rfl)))
      (pss_one (ps_ret (pv 2)))), ?_⟩
    intro D nD
    have S0 := same_new (o := HO.dK []) nD
    have hD0 : upd H D (.dK []) D = some (.dK (dkOf [])) := upd_same
    generalize upd H D (.dK []) = H0 at S0 hD0 ⊢
    have hxl := hx.len
    refine ⟨_, rfl, a, rfl, ⟨_, SqT.of (S0 _ _ ha)⟩, for_tup (K := K) (a := a) (xs := xs) (fun i σ Hx => ∃ (x3 x4 x5 : Option V) (qs : Ps), σ = [some (.ref a), some (.ref d), some (.ref D), x3, x4, x5] ∧ Same H Hx ∧ Hx D = some (.dK (dkOf qs)) ∧ Ways 0 7 (i * tot ps) qs ∧ ∀ r, getP qs r = mvS (getP ps) (ds.take i) r)
      ⟨none, none, none, [], rfl, S0, hD0, ⟨List.nodup_nil, by simp, Nat.zero_le _⟩, fun r => rfl⟩ (fun i σ Hx _ ⟨_, _, _, _, _, S, _⟩ => SqT.of (S _ _ ha)) ?_ ?_⟩
    · rintro i x σ Hx hi ⟨x3, x4, x5, qs, rfl, S, hD, W, Xq⟩
      obtain ⟨e, hei, te⟩ := hx.get hi
      obtain ⟨z, l, r, rfl, _, _, r0, r7, _⟩ := move_cases (hm e (List.mem_of_getElem? hei))
      cases te with
      | @tup b ys _ hb hy =>
        cases hy with
        | cons c0 t0 =>
          cases t0 with
          | cons c1 t1 =>
            cases t1 with
            | cons c2 t2 =>
              cases t2
              cases c0
              cases c2
              refine ⟨b, _, rfl, SqT.of (S _ _ hb), rfl, _, _, rfl, _, _, rfl, _, _, rfl, rfl, ?_⟩
              refine ⟨_, rfl, D, rfl, .inl ⟨_, .inl hD⟩, _, rfl, _, DGet.k (k := Sum.inl r) hD, _, rfl, d, rfl, .inl ⟨_, .inl (S _ _ hd)⟩, _, rfl, _, DGet.k (k := Sum.inl z) (S _ _ hd), _, _, val_dk r qs, val_dk z ps, _, rfl, _, rfl, D, _, rfl, DPut.k (k := Sum.inl r) hD ?_, ?_⟩
              · have z1 := W.len (by decide) (by decide)
                have e1 : (dkOf qs).length = qs.length := by unfold dkOf; rw [List.length_map]
                rw [e1, sizeLine_eq]
                omega
              · have e1 : putK (dkOf qs) (Sum.inl r) (V.int ((getP qs r : Nat) + (getP ps z : Nat))) = dkOf (putP qs r (getP qs r + getP ps z)) := by
                  rw [← put_dk]
                  congr 1
                rw [e1]
                refine ⟨_, _, _, _, rfl, keepNew nD S, upd_same, (W.put r0 r7).mono ?_, fun r' => ?_⟩
                rotate_left
                · rw [get_put, mvS_take hei, Xq, Xq]
                  show (if r' = r then _ + getP ps z else _) = _ + if r = r' then getP ps z else 0
                  by_cases er : r' = r
                  · rw [if_pos er, if_pos er.symm, er]
                  · rw [if_neg er, if_neg fun y => er y.symm, Nat.add_zero]
                have g := getP_le z ps
                rw [Nat.succ_mul]
                omega
    · rintro σ Hx ⟨x3, x4, x5, qs, rfl, S, hD, W, Xq⟩
      rw [hxl, List.take_length] at Xq
      exact ⟨_, rfl, q D Hx qs S hD (W.mono (Nat.mul_le_mul_right _ (by omega))) Xq⟩
theorem ok_countstr {f fM : Addr} {fd fdM : FuncData} (F : Fun K "count_strings" "count_strings" sCountStr f fd) (T : Nm mg) (M : DefOk K mg "move_on" sMoveOn ["moves", "ways"] fM fdM) : FnOk P w K mg base CX0 2 f fd ["automaton", "n"] spCountStr := by
  have GM : FnOk P w K mg base CX0 1 fM fdM ["moves", "ways"] spMove := ok_moveon M.F
  refine F.ok scCountStr (fun vs H Q E h => ?_) (fun cdv A outer s H vs Q E hr h => ?_)
  · obtain ⟨v, d, n, rfl, _⟩ := h
    rfl
  · obtain ⟨v, d, n, rfl, hd, hA, n0, n60, q⟩ := h
    have hu := hu_of hr
    unfold autoB at hA
    rw [Bool.and_eq_true, Bool.and_eq_true] at hA
    obtain ⟨es, rfl, e1, e2⟩ := tupOf_len hA.1
    match es, (show es.length = 2 by omega), hd with
    | [m0, m1], _, .tup (a := a) (xs := xs) ha hx =>
      cases hx with
      | @cons x0 _ _ _ c0 t0 =>
        cases t0 with
        | @cons x1 _ _ _ c1 t1 =>
          cases t1
          have hmv : movesB m0 = true := hA.2.1
          have hst : statesB m1 = true := hA.2.2
          unfold movesB at hmv
          unfold statesB at hst
          rw [Bool.and_eq_true, Bool.and_eq_true] at hmv hst
          obtain ⟨ms, rfl, _, m48⟩ := tupOf_len hmv.1.1
          obtain ⟨ss, rfl, _, s8⟩ := tupOf_len hst.1
          have hms := List.all_eq_true.mp (show ms.all moveB = true from hmv.1.2)
          have hss := List.all_eq_true.mp (show ss.all (btw 0 7) = true from hst.2.1)
          cases c0 with
          | @tup b ys _ hb hy =>
            cases c1 with
            | @tup c zs _ hc hz =>
              have hzl := hz.len
              refine ⟨_, pss_cons (ps_asg (pv 0) (pg_tup rfl (pgs_cons (pg_name (i := 2) scCountStr.nd rfl (Or.inl rfl)) (pgs_cons (pg_name (i := 3) scCountStr.nd rfl (Or.inl rfl)) pgs_nil))))
                (pss_cons (ps_set (i := 4) scCountStr.nd rfl (Or.inr rfl) (pe_disp (pps_cons pe_int pe_int pps_nil) (by rfl) (by rfl) (fun z => by cases z) (by decide)))
                (pss_cons (ps_for PassesOwn.never rfl (pi_range1 rfl T.range (pa_cons (pv 1) pa_nil)) (pg_name (i := 5) scCountStr.nd rfl (Or.inl rfl))
                  (pss_one (ps_set (i := 4) scCountStr.nd rfl (Or.inr rfl) (pe_call GM hr rfl M.g M.F.kp M.b .nil pass0 (pa_cons (pv 2) (pa_cons (pv 4) pa_nil))))))
                (pss_one (ps_ret (pe_callB (cr_sum rfl) (by rfl) T.sum boot_sum (pa_cons (pe_lc (own := [("state", 6)]) (g := gName 6) (tt := tYes) rfl scCountStr.nd (pi_tup (pv 3)) (blkOk_by (N := ["automaton", "n", "moves", "accepting", "ways", "_", "state"]) (sc := defScope sCountStr) (by decide +kernel))
                  (fun _ _ _ _ _ => pg_name (i := 6) scCountStr.nd rfl (Or.inl rfl)) (fun _ _ _ _ _ => pts_nil) (fun _ _ _ _ _ => pe_dget2 hu (pv 4) (pv 6) pe_int ⟨rfl, rfl, rfl, rfl⟩)) pa_nil)))))), ?_⟩
              refine ⟨_, rfl, a, _, rfl, SqT.of ha, rfl, _, _, rfl, _, _, rfl, rfl, ?_⟩
              intro D nD
              refine ⟨upd_same, [(Sum.inl 0, V.int 1)], rfl, (show 1 ≤ 15 by decide), ?_⟩
              have S0 : Same H (upd (upd H D (.dK [])) D (.dK (mergeK [] [(Sum.inl 0, V.int 1)]))) := keepNew nD (same_new nD)
              have hD0 : upd (upd H D (.dK [])) D (.dK (mergeK [] [(Sum.inl 0, V.int 1)])) D = some (.dK (dkOf [(0, 1)])) := by
                rw [upd_same]
                rfl
              generalize upd (upd H D (.dK [])) D (.dK (mergeK [] [(Sum.inl 0, V.int 1)])) = H0 at S0 hD0 ⊢
              refine ⟨_, rfl, n, rfl, by omega, by omega, for_range (n := n.toNat) (fun i σ Hx => ∃ (d : Addr) (ps : Ps) (x5 : Option V), σ = [some (.ref a), some (.int n), some (.ref b), some (.ref c), some (.ref d), x5, none] ∧ Same H Hx ∧ Hx d = some (.dK (dkOf ps)) ∧ ∀ r, getP ps r = strT ms i r)
                ⟨D, [(0, 1)], none, rfl, S0, hD0, fun r => by
                  show getP [(0, 1)] r = if r = 0 then 1 else 0
                  by_cases e : r = 0
                  · rw [if_pos e]
                    exact getP_pos e.symm
                  · rw [if_neg e]
                    exact getP_neg fun z => e z.symm⟩ ?_ ?_⟩
              · rintro i σ Hx hi ⟨d, ps, x5, rfl, S, hd, ht⟩
                refine ⟨_, rfl, _, rfl, b, d, ys, ms, ps, rfl, S _ _ hb, hy.same S, hms, by omega, hd, fun p H' ps' S' hp' W Xw => ?_⟩
                refine ⟨p, ps', _, rfl, S.trans S', hp', fun r => ?_⟩
                rw [Xw, show getP ps = strT ms i from funext ht]
                rfl
              · rintro σ Hx ⟨d, ps, x5, rfl, S, hd, ht⟩
                refine ⟨_, rfl, c, rfl, ⟨_, SqT.of (S _ _ hc)⟩, fun D2 nD2 => lc_vals (K := K) (a := c) (xs := zs) (fun i => V.int (getP ps (intOf (ss.getD i .none)) : Nat)) (S _ _ hc) (by omega) nD2 (fun i x Hy hi S2 R hR => ?_) mono_name fun Hy S2 hD => ?_⟩
                · obtain ⟨e, hei, te⟩ := hz.get hi
                  obtain ⟨k, rfl, _, _⟩ := btw_int (hss e (List.mem_of_getElem? hei))
                  obtain rfl := dat_int te
                  have g0 : intOf (ss.getD i .none) = k := by rw [List.getD_eq_getElem?_getD, hei]; rfl
                  refine ⟨rfl, _, rfl, d, rfl, .inl ⟨_, .inl (S2 _ _ hd)⟩, _, rfl, _, DGet.k (k := Sum.inl k) (S2 _ _ hd), ?_⟩
                  rw [val_dk]
                  have z := hR Hy fun _ _ e => e
                  rw [g0] at z
                  exact z
                · have eL : (List.range zs.length).map (fun i => V.int (getP ps (intOf (ss.getD i .none)) : Nat)) = (((List.range zs.length).map fun i => getP ps (intOf (ss.getD i .none))).map fun k : Nat => (k : Int)).map V.int := by
                    rw [List.map_map, List.map_map]
                    rfl
                  rw [eL] at hD
                  refine ⟨D2, _, rfl, SqL.of hD, ?_⟩
                  rw [sum_cast]
                  have z := q Hy (S.trans S2)
                  have e : ((List.range zs.length).map fun i => getP ps (intOf (ss.getD i .none))).sum = strN ms ss n.toNat := by
                    unfold strN
                    congr 1
                    rw [hzl]
                    refine range_map ss _ _ fun i d hdi => ?_
                    have g0 : ss.getD i .none = d := by rw [List.getD_eq_getElem?_getD, hdi]; rfl
                    rw [g0, ht]
                  rw [e]
                  exact z
theorem ok_strsize {f fC : Addr} {fd fdC : FuncData} (F : Fun K "string_size" "string_size" sStrSize f fd) (C : DefOk K mg "count_strings" sCountStr ["automaton", "n"] fC fdC) (GC : FnOk P w K mg base CX0 2 fC fdC ["automaton", "n"] spCountStr) : FnOk P w K mg base CX0 3 f fd ["space"] (spSize 3 pString zStr) := by
  refine F.ok scStrSize (fun vs H Q E h => ?_) (fun cdv A outer s H vs Q E hr h => ?_)
  · obtain ⟨a, xs, ds, rfl, _⟩ := h
    rfl
  · obtain ⟨a, xs, ds, rfl, ha, hx, hl, hp, q⟩ := h
    match ds, hl, hx with
    | [d0, d1, d2], _, .cons (v := x0) t0 (.cons (v := x1) t1 (.cons (v := x2) t2 .nil)) =>
      have hp' : (btw 0 60 d2 && autoB d1) = true := hp
      rw [Bool.and_eq_true] at hp'
      obtain ⟨n, rfl, n0, n60⟩ := btw_int hp'.1
      obtain rfl := dat_int t2
      refine ⟨_, pss_cons (ps_asg (pe_slice sl_tupA (pv 0) (po_some pe_int) po_none) (pg_tup rfl (pgs_cons (pg_name (i := 1) scStrSize.nd rfl (Or.inl rfl)) (pgs_cons (pg_name (i := 2) scStrSize.nd rfl (Or.inl rfl)) pgs_nil))))
        (pss_one (ps_ret (pe_call GC hr rfl C.g C.F.kp C.b .nil pass0 (pa_cons (pv 1) (pa_cons (pv 2) pa_nil))))), ?_⟩
      refine ⟨_, rfl, 1, rfl, ?_⟩
      dsimp only [tNoPart]
      refine slK_of 1 ha fun b Hb Sb hb => ?_
      exact ⟨b, _, rfl, SqT.of hb, rfl, _, _, rfl, _, _, rfl, rfl, _, rfl, _, rfl, x1, d1, n, rfl, t1.same Sb, hp'.2, n0, n60, fun H' S => q H' (Sb.trans S)⟩
end
end K6
set_option maxRecDepth 100000
set_option maxHeartbeats 4000000
namespace K6
open PySem PySem.Spec PyProof.Rows L2
/-! ### an order of L names has at most L! arrangements -/
def fac (n : Nat) : Nat := Builtin.Math.factorialNat n
theorem fac_succ (n : Nat) : fac (n + 1) = fac n * (n + 1) := PySem.W.mc_fac_succ n
theorem fac_pos (n : Nat) : 1 ≤ fac n := PySem.W.mc_fac_pos n
theorem fac_zero : fac 0 = 1 := rfl
theorem fp_fac {a : Nat} : ∀ m : Nat, m ≤ a → Builtin.Math.fallingProduct (a : Int) m * ((fac (a - m) : Nat) : Int) = ((fac a : Nat) : Int)
  | 0, _ => by
    rw [PySem.W.mc_fp_zero, Int.one_mul]
    rfl
  | m + 1, h => by
    have z := fp_fac (a := a) m (by omega)
    have e : a - m = (a - (m + 1)) + 1 := by omega
    rw [e, fac_succ, Int.natCast_mul] at z
    rw [PySem.W.mc_fp_succ, ← z, Int.mul_assoc]
    congr 1
    rw [Int.mul_comm]
    congr 1
    omega
theorem comb_fac {a b : Nat} (h : b ≤ a) : PySem.W.mcComb (a : Int) (b : Int) * ((fac b : Nat) : Int) * ((fac (a - b) : Nat) : Int) ≤ ((fac a : Nat) : Int) := by
  rw [PySem.W.mcComb_at (a := (a : Int)) (b := (b : Int)) (by omega) (by omega) rfl]
  obtain ⟨m, hm⟩ : ∃ m : Nat, min (b : Int) ((a : Int) - (b : Int)) = m := ⟨(min (b : Int) ((a : Int) - (b : Int))).toNat, by omega⟩
  rw [hm, Int.toNat_natCast]
  have z1 := fp_fac (a := a) m (by omega)
  have z2 := fp_fac (a := m) m (Nat.le_refl _)
  rw [Nat.sub_self, fac_zero] at z2
  have z3 : Builtin.Math.fallingProduct (m : Int) m = ((fac m : Nat) : Int) := by
    rw [← z2]
    show _ = _ * 1
    rw [Int.mul_one]
  have p := fac_pos m
  have p2 := fac_pos (a - m)
  rw [z3]
  have le : Builtin.Math.fallingProduct (a : Int) m / ((fac m : Nat) : Int) * ((fac m : Nat) : Int) ≤ Builtin.Math.fallingProduct (a : Int) m := Int.ediv_mul_le _ (by omega)
  have le2 := Int.mul_le_mul_of_nonneg_right le (show (0 : Int) ≤ ((fac (a - m) : Nat) : Int) by omega)
  rw [z1] at le2
  have cs : (m = b ∨ m = a - b) := by omega
  rcases cs with e | e
  · rw [← e]
    exact le2
  · have e1 : a - b = m := e.symm
    have e2 : b = a - m := by omega
    rw [e1, Int.mul_assoc, Int.mul_comm ((fac b : Nat) : Int), ← Int.mul_assoc]
    rw [e2]
    exact le2
theorem mult_fac : ∀ (ns : List Nat) (t : Nat) (w : Int), 1 ≤ w → 1 ≤ multN t w ns ∧ multN t w ns * ((fac t : Nat) : Int) * ((prodN (ns.map fac) : Nat) : Int) ≤ w * ((fac (t + ns.sum) : Nat) : Int)
  | [], t, w, hw => by
    refine ⟨hw, ?_⟩
    show w * ((fac t : Nat) : Int) * ((1 : Nat) : Int) ≤ w * ((fac (t + 0) : Nat) : Int)
    rw [Nat.add_zero]
    show _ * 1 ≤ _
    rw [Int.mul_one]
    exact Int.le_refl _
  | c :: r, t, w, hw => by
    have c1 := (comb_le (a := t + c) (b := c) (by omega)).1
    have hw2 : 1 ≤ w * PySem.W.mcComb ((t + c : Nat) : Int) (c : Int) := by
      have z := Int.mul_le_mul hw c1 (by decide) (by omega)
      omega
    obtain ⟨m1, m2⟩ := mult_fac r (t + c) (w * PySem.W.mcComb ((t + c : Nat) : Int) (c : Int)) hw2
    have cf := comb_fac (a := t + c) (b := c) (by omega)
    rw [show t + c - c = t by omega] at cf
    rw [multN]
    refine ⟨m1, ?_⟩
    generalize hX : multN (t + c) (w * PySem.W.mcComb ((t + c : Nat) : Int) (c : Int)) r = X at m1 m2 ⊢
    generalize hC : PySem.W.mcComb ((t + c : Nat) : Int) (c : Int) = C at m2 cf c1 hw2
    have eS : t + (c :: r).sum = t + c + r.sum := by rw [List.sum_cons]; omega
    rw [eS]
    have eP : prodN ((c :: r).map fac) = fac c * prodN (r.map fac) := rfl
    rw [eP]
    have pT := fac_pos t
    have pC := fac_pos c
    have pTC := fac_pos (t + c)
    generalize fac (t + c + r.sum) = F at m2 ⊢
    generalize prodN (r.map fac) = R at m2 ⊢
    generalize fac (t + c) = A at m2 cf pTC
    generalize fac t = T at cf pT ⊢
    generalize fac c = D at cf pC ⊢
    rw [Int.natCast_mul]
    -- X * A * R ≤ w * C * F;  C * D * T ≤ A;  want X * T * (D * R) ≤ w * F
    have g : (A : Int) * (X * (T : Int) * ((D : Int) * (R : Int))) ≤ (A : Int) * (w * (F : Int)) := by
      have e1 : (A : Int) * (X * (T : Int) * ((D : Int) * (R : Int))) = X * (A : Int) * (R : Int) * ((D : Int) * (T : Int)) := by
        ac_rfl
      have e2 : w * C * (F : Int) * ((D : Int) * (T : Int)) = C * (D : Int) * (T : Int) * (w * (F : Int)) := by ac_rfl
      have s1 : X * (A : Int) * (R : Int) * ((D : Int) * (T : Int)) ≤ w * C * (F : Int) * ((D : Int) * (T : Int)) := Int.mul_le_mul_of_nonneg_right m2 (Int.mul_nonneg (by omega) (by omega))
      have s2 : C * (D : Int) * (T : Int) * (w * (F : Int)) ≤ (A : Int) * (w * (F : Int)) := Int.mul_le_mul_of_nonneg_right cf (Int.mul_nonneg (by omega) (by omega))
      rw [e1]
      rw [e2] at s1
      exact Int.le_trans s1 s2
    exact Int.le_of_mul_le_mul_left g (by omega)
theorem fac_mono {a b : Nat} (h : a ≤ b) : fac a ≤ fac b := by
  induction h with
  | refl => exact Nat.le_refl _
  | step _ ih =>
    rw [fac_succ]
    exact Nat.le_trans ih (Nat.le_mul_of_pos_right _ (by omega))
theorem fac_big {n : Nat} (h : n ≤ 400) : fac n ≤ 2 ^ 3600 := Nat.le_trans (fact_le n h) (Nat.pow_le_pow_right (by decide) (by omega))
/-- sizes of orders, one by one -/
inductive Bd (len : PyData → Nat) : List Nat → List PyData → Prop
  | nil : Bd len [] []
  | cons {k : Nat} {e : PyData} {ks : List Nat} {es : List PyData} : 1 ≤ k → k ≤ fac (len e) → Bd len ks es → Bd len (k :: ks) (e :: es)
theorem Bd.snoc {len : PyData → Nat} {k : Nat} {e : PyData} : ∀ {ks : List Nat} {es : List PyData}, Bd len ks es → 1 ≤ k → k ≤ fac (len e) → Bd len (ks ++ [k]) (es ++ [e])
  | _, _, .nil, a, b => .cons a b .nil
  | _, _, .cons x y t, a, b => .cons x y (t.snoc a b)
theorem Bd.length {len : PyData → Nat} : ∀ {ks : List Nat} {es : List PyData}, Bd len ks es → ks.length = es.length
  | _, _, .nil => rfl
  | _, _, .cons _ _ t => congrArg (· + 1) t.length
theorem Bd.pos {len : PyData → Nat} : ∀ {ks : List Nat} {es : List PyData}, Bd len ks es → ∀ k ∈ ks, 1 ≤ k
  | _, _, .nil, k, h => by cases h
  | _, _, .cons x _ t, k, h => by
    rcases List.mem_cons.mp h with e | e
    · rw [e]
      exact x
    · exact t.pos k e
theorem Bd.each {len : PyData → Nat} {m : Nat} : ∀ {ks : List Nat} {es : List PyData}, Bd len ks es → (∀ e ∈ es, len e ≤ m) → ∀ k ∈ ks, k ≤ fac m
  | _, _, .nil, _, k, h => by cases h
  | _, _, .cons _ y t, hm, k, h => by
    rcases List.mem_cons.mp h with e | e
    · rw [e]
      exact Nat.le_trans y (fac_mono (hm _ (by simp)))
    · exact t.each (fun e he => hm e (by simp [he])) k e
theorem Bd.prod {len : PyData → Nat} : ∀ {ks : List Nat} {es : List PyData}, Bd len ks es → prodN ks ≤ prodN ((es.map len).map fac)
  | _, _, .nil => Nat.le_refl _
  | _, _, .cons _ y t => Nat.mul_le_mul y t.prod
/-- sizes and the multinomial together -/
theorem Bd.all {len : PyData → Nat} {ks : List Nat} {es : List PyData} (h : Bd len ks es) : prodN ks ≤ fac (es.map len).sum ∧ ∀ M : Nat, multN 0 1 (es.map len) = M → 1 ≤ M ∧ prodN ks * M ≤ fac (es.map len).sum := by
  obtain ⟨m1, m2⟩ := mult_fac (es.map len) 0 1 (by decide)
  rw [fac_zero, Nat.zero_add, Int.one_mul] at m2
  have p := h.prod
  have key : ∀ M : Nat, multN 0 1 (es.map len) = M → 1 ≤ M ∧ prodN ks * M ≤ fac (es.map len).sum := fun M e => by
    rw [e] at m1 m2
    have q : M * prodN ((es.map len).map fac) ≤ fac (es.map len).sum := by
      have z : (M : Int) * ((1 : Nat) : Int) * ((prodN ((es.map len).map fac) : Nat) : Int) = ((M * prodN ((es.map len).map fac) : Nat) : Int) := by
        rw [Int.natCast_mul]
        show (M : Int) * 1 * _ = _
        rw [Int.mul_one]
      rw [z] at m2
      omega
    refine ⟨by omega, Nat.le_trans ?_ q⟩
    rw [Nat.mul_comm]
    exact Nat.mul_le_mul_left _ p
  obtain ⟨M, hM⟩ : ∃ M : Nat, multN 0 1 (es.map len) = M := ⟨(multN 0 1 (es.map len)).toNat, by omega⟩
  obtain ⟨a, b⟩ := key M hM
  exact ⟨Nat.le_trans (Nat.le_mul_of_pos_right _ a) b, key⟩
end K6
set_option maxRecDepth 100000
set_option maxHeartbeats 4000000
namespace L2
open PySem PySem.Spec PyProof.Rows
/-- len of a list or a tuple -/
def rLenS (K : PySem.W.Frag) : List V → Hp → VK → Prop := fun xs H Q => ∃ p ys, xs = [.ref p] ∧ (SqL K H p ys ∨ SqT K H p ys) ∧ Q (.int ys.length) H
theorem cr_lenS {X : Cx} : CallR X (.builtin "len") (rLenS X.K) := call_len_seq
end L2
namespace K6
open PySem PySem.Spec PyProof.Rows L2
/-! ### order_size, arrangement_size -/
abbrev sOSize : Stmt := top 11
abbrev sArrSize : Stmt := top 19
def lenN (m : Nat) (e : PyData) : Nat := (namesN m e).length
/-- the number of arrangements of an order -/
def oszN : Nat → PyData → Nat
  | 0, _ => 1
  | m + 1, d => if eqStr "item" (at0 (tupItems d) 0) = true then 1 else prodN ((tupItems (at0 (tupItems d) 1)).map (oszN m)) * (if eqStr "parallel" (at0 (tupItems d) 0) = true then (multN 0 1 ((tupItems (at0 (tupItems d) 1)).map (lenN m))).toNat else 1)
def spOSize (n : Nat) : Sp := fun vs H Q _ => ∃ (v : V) (d : PyData), vs = [v] ∧ n ≤ 6 ∧ Dat H v d ∧ orderB n d = true ∧ (namesN n d).length ≤ 400 ∧ ∀ (H' : Hp) (k : Nat), Same H H' → 1 ≤ k → k ≤ fac (namesN n d).length → k = oszN n d → Q (.int (k : Nat)) H'
theorem flat_sum {f : PyData → List Str} : ∀ es : List PyData, (es.flatMap f).length = (es.map fun e => (f e).length).sum
  | [] => rfl
  | a :: l => by
    rw [List.flatMap_cons, List.length_append, List.map_cons, List.sum_cons, flat_sum l]
theorem le_flat {f : PyData → List Str} : ∀ {es : List PyData} {e : PyData}, e ∈ es → (f e).length ≤ (es.flatMap f).length
  | a :: l, e, h => by
    rw [List.flatMap_cons, List.length_append]
    rcases List.mem_cons.mp h with z | z
    · rw [z]
      omega
    · have y := le_flat (f := f) z
      omega
section
variable {P : Program} {w : World} {K : PySem.W.Frag} {mg : Str → Option Value} {base : Heap}
theorem scOSize : FnScope ["order", "word", "rest", "size", "inner"] ["order"] (defScope sOSize) := ⟨rfl, rfl, rfl, by decide +kernel, rfl, by decide +kernel, by decide +kernel⟩
/-- what bounds it -/
theorem osz_bd : ∀ (n : Nat) (d : PyData), orderB n d = true → 1 ≤ oszN n d ∧ oszN n d ≤ fac (namesN n d).length
  | 0, _, h => Bool.noConfusion ((show false = true from h) : false = true)
  | m + 1, d, h => by
    obtain ⟨d0, d1, rfl, hh⟩ := order_cases h
    have eN : namesN (m + 1) (.tuple [d0, d1]) = if eqStr "item" d0 = true then [strOf d1] else (tupItems d1).flatMap (namesN m) := by rw [namesN]; rfl
    have eO : oszN (m + 1) (.tuple [d0, d1]) = if eqStr "item" d0 = true then 1 else prodN ((tupItems d1).map (oszN m)) * (if eqStr "parallel" d0 = true then (multN 0 1 ((tupItems d1).map (lenN m))).toNat else 1) := by rw [oszN]; rfl
    rw [eN, eO]
    rcases hh with ⟨h0, _⟩ | ⟨h0, es, rfl, q2, q6, hes⟩
    · rw [h0, if_pos rfl, if_pos rfl]
      exact ⟨Nat.le_refl _, fac_pos _⟩
    · rw [h0, if_neg Bool.false_ne_true, if_neg Bool.false_ne_true]
      show 1 ≤ prodN (es.map (oszN m)) * (if eqStr "parallel" d0 = true then (multN 0 1 (es.map (lenN m))).toNat else 1) ∧ prodN (es.map (oszN m)) * (if eqStr "parallel" d0 = true then (multN 0 1 (es.map (lenN m))).toNat else 1) ≤ fac (es.flatMap (namesN m)).length
      have B : Bd (lenN m) (es.map (oszN m)) es := by
        clear eN eO h q2 q6
        induction es with
        | nil => exact .nil
        | cons e l ih =>
          have z := osz_bd m e (hes e (by simp))
          exact .cons z.1 z.2 (ih fun x hx => hes x (by simp [hx]))
      obtain ⟨b1, b2⟩ := B.all
      have pp : 1 ≤ prodN (es.map (oszN m)) := prod_pos B.pos
      obtain ⟨m1, _⟩ := mult_fac (es.map (lenN m)) 0 1 (by decide)
      obtain ⟨m1', m2⟩ := b2 (multN 0 1 (es.map (lenN m))).toNat (by omega)
      rw [flat_sum es]
      cases eqStr "parallel" d0 with
      | true =>
        rw [if_pos rfl]
        exact ⟨Nat.mul_le_mul pp m1', m2⟩
      | false =>
        rw [if_neg Bool.false_ne_true, Nat.mul_one]
        exact ⟨pp, b1⟩
theorem scArrSize : FnScope ["space"] ["space"] (defScope sArrSize) := ⟨rfl, rfl, rfl, by decide +kernel, rfl, by decide +kernel, by decide +kernel⟩
/-- what is known of multiply -/
structure MulOk (P : Program) (w : World) (K : PySem.W.Frag) (mg : Str → Option Value) (base : Heap) where
  f : Addr
  fd : FuncData
  F : FunD K "multiply" "multiply" (defArgs sMul) (defBody sMul) (defScope sMul) [.non] [] f fd
  b : L2.Binds K fd ["factors", "bound"] [Value.none]
  g : mg "multiply" = some (.ref f)
theorem osize_body {f fN fM : Addr} {fd fdN fdM : FuncData} {sp : Sp} (n : Nat) (F : Fun K "order_size" "order_size" sOSize f fd) (b : L2.Binds K fd ["order"] []) (g : mg "order_size" = some (.ref f)) (G : FnOk P w K mg base CX0 (1 + n) f fd ["order"] sp) (T : Nm mg)
    (N : DefOk K mg "names_of" sNames ["order"] fN fdN) (U : MulOk P w K mg base) (M : DefOk K mg "multinomial" sMulti ["counts"] fM fdM) (c : mg "comb" = some (.builtin "math.comb"))
    (hn : ∀ m, n = m + 1 → n ≤ 6 → ∀ (x : V) (d : PyData) (H : Hp) (R : VK), Dat H x d → orderB m d = true → (namesN m d).length ≤ 400 → (∀ (H' : Hp) (k : Nat), Same H H' → 1 ≤ k → k ≤ fac (namesN m d).length → k = oszN m d → R (.int (k : Nat)) H') → sp [x] H R E0) : FnOk P w K mg base CX0 (2 + n) f fd ["order"] (spOSize n) := by
  have GU : FnOk P w K mg base CX0 1 U.f U.fd ["factors", "bound"] spMul := ok_mul U.F
  have GM : FnOk P w K mg base CX0 1 fM fdM ["counts"] spMulti := ok_multi M.F c
  have GN := ok_names (P := P) (w := w) (base := base) N.F N.b N.g (n - 1)
  rw [show 2 + n = (1 + n) + 1 by omega]
  refine F.ok scOSize (fun vs H Q E h => ?_) (fun cdv A outer s H vs Q E hr h => ?_)
  · obtain ⟨v, d, rfl, _⟩ := h
    rfl
  · obtain ⟨v, d, rfl, h6, hd, ho, h400, q⟩ := h
    have hu0 := hr.units0
    have hr1 : Room 1 _ := hr.mono (by omega)
    have hrN : Room (1 + (n - 1)) _ := hr.mono (by omega)
    refine ⟨_, pss_cons (ps_asg (pv 0) (pg_tup rfl (pgs_cons (pg_name (i := 1) scOSize.nd rfl (Or.inl rfl)) (pgs_cons (pg_name (i := 2) scOSize.nd rfl (Or.inl rfl)) pgs_nil))))
      (pss_cons (ps_if (pt_cmpR (op_eqStr hu0) (pv 1) pe_str (nomark _)) (pss_one (ps_ret pe_int)) pss_nil)
      (pss_cons (ps_set (i := 3) scOSize.nd rfl (Or.inl rfl) (pe_call GU hr1 rfl U.g U.F.kp U.b (Paired.cons (F := RelV) (a := .non) (b := Value.none) rfl .nil) pass0 (pa_cons (pe_lc (own := [("inner", 4)]) (g := gName 4) (tt := tYes) rfl scOSize.nd (pi_tup (pv 2)) (blkOk_by (N := ["order", "word", "rest", "size", "inner"]) (sc := defScope sOSize) (by decide +kernel))
          (fun _ _ _ _ _ => pg_name (i := 4) scOSize.nd rfl (Or.inl rfl)) (fun _ _ _ _ _ => pts_nil) (fun _ _ _ _ _ => pe_call G hr rfl g F.kp b .nil pass0 (pa_cons (pv 4) pa_nil))) pa_nil)))
      (pss_cons (ps_if (pt_cmpR (op_eqStr hu0) (pv 1) pe_str (nomark _)) (pss_one (ps_set (i := 3) scOSize.nd rfl (Or.inl rfl) (pe_op op_mulW (pv 3) (pe_call GM hr1 rfl M.g M.F.kp M.b .nil pass0 (pa_cons (pe_lc (own := [("inner", 4)]) (g := gName 4) (tt := tYes) (te := tCB (rLenS K) (tCons (tCall (spNames (n - 1)) [] E0 (tCons (tVar 4) tNil)) tNil)) rfl scOSize.nd (pi_tup (pv 2)) (blkOk_by (N := ["order", "word", "rest", "size", "inner"]) (sc := defScope sOSize) (by decide +kernel))
          (fun _ _ _ _ _ => pg_name (i := 4) scOSize.nd rfl (Or.inl rfl)) (fun _ _ _ _ _ => pts_nil) (fun _ _ _ _ _ => pe_callB cr_lenS (by rfl) T.len PySem.boot_len (pa_cons (pe_call GN hrN rfl N.g N.F.kp N.b .nil pass0 (pa_cons (pv 4) pa_nil)) pa_nil))) pa_nil))))) pss_nil)
      (pss_one (ps_ret (pv 3)))))), ?_⟩
    cases n with
    | zero => exact Bool.noConfusion ((show false = true from ho) : false = true)
    | succ m =>
      obtain ⟨d0, d1, rfl, hh⟩ := order_cases ho
      have eN : namesN (m + 1) (.tuple [d0, d1]) = if eqStr "item" d0 = true then [strOf d1] else (tupItems d1).flatMap (namesN m) := by rw [namesN]; rfl
      have eO : oszN (m + 1) (.tuple [d0, d1]) = if eqStr "item" d0 = true then 1 else prodN ((tupItems d1).map (oszN m)) * (if eqStr "parallel" d0 = true then (multN 0 1 ((tupItems d1).map (lenN m))).toNat else 1) := by rw [oszN]; rfl
      rw [eN, eO] at q
      rw [eN] at h400
      cases hd with
      | @tup a xs _ ha hx =>
        cases hx with
        | @cons x0 _ _ _ c0 t0 =>
          cases t0 with
          | @cons x1 _ _ _ c1 t1 =>
            cases t1
            refine ⟨_, rfl, a, _, rfl, SqT.of ha, rfl, _, _, rfl, _, _, rfl, rfl, _, rfl, d0, "item", c0, rfl, _, rfl, ?_⟩
            rcases hh with ⟨h0, hn1⟩ | ⟨h0, es, rfl, l2, l6, hes⟩
            · rw [h0] at q ⊢
              exact if_t rfl (q H 1 (Same.refl H) (by decide) (fac_pos _) rfl)
            · rw [h0] at q h400 ⊢
              have q1 : ∀ (H' : Hp) (k : Nat), Same H H' → 1 ≤ k → k ≤ fac (es.flatMap (namesN m)).length → k = prodN (es.map (oszN m)) * (if eqStr "parallel" d0 = true then (multN 0 1 (es.map (lenN m))).toNat else 1) → Q (.int (k : Nat)) H' := q
              have h4 : (es.flatMap (namesN m)).length ≤ 400 := h400
              have eSum : (es.flatMap (namesN m)).length = (es.map (lenN m)).sum := flat_sum es
              cases c1 with
              | @tup a2 ys _ ha2 hx2 =>
                have hl2 := hx2.len
                refine if_f rfl ⟨_, rfl, a2, rfl, ⟨_, SqT.of ha2⟩, fun D nD => lc_tup (K := K) (a := a2) (xs := ys) (fun j Hx => Same H Hx ∧ ∃ ks : List Nat, Hx D = some (.lst (vints ks)) ∧ Bd (lenN m) ks (es.take j) ∧ ks = (es.take j).map (oszN m))
                  ⟨same_new nD, [], by rw [upd_same]; rfl, by rw [List.take_zero]; exact .nil, rfl⟩ (fun j Hx _ ⟨S, _⟩ => SqT.of (S _ _ ha2)) ?_ ?_⟩
                · rintro i x Hx hi ⟨S, ks, hD, B, eK⟩
                  obtain ⟨e, hei, te⟩ := hx2.get hi
                  have hem := List.mem_of_getElem? hei
                  have hlt : i < es.length := (List.getElem?_eq_some_iff.mp hei).1
                  have le1 := le_flat (f := namesN m) hem
                  refine ⟨rfl, _, rfl, hn m rfl h6 x e Hx _ (te.same S) (hes e hem) (by omega) fun H' k S' k1 k2 k3 => ⟨_, S' _ _ hD, ?_, grow nD (S.trans S'), ks ++ [k], ?_, ?_, ?_⟩⟩
                  · have z := B.length
                    unfold vints
                    rw [List.length_map, z, List.length_take, sizeLine_eq]
                    omega
                  · rw [upd_same]
                    unfold vints
                    rw [List.map_append]
                    rfl
                  · rw [List.take_add_one, hei]
                    exact B.snoc k1 k2
                  · rw [List.take_add_one, hei, List.map_append, eK, k3]
                    rfl
                · rintro Hx ⟨S, ks, hD, B, eK⟩
                  rw [hl2, List.take_length] at B eK
                  obtain ⟨b1, b2⟩ := B.all
                  have le0 : prodN ks ≤ 2 ^ 3600 := Nat.le_trans b1 (fac_big (by omega))
                  have up : (2 : Nat) ^ 3600 < 2 ^ 400000 := Nat.pow_lt_pow_right (by decide) (by decide)
                  have pp : 1 ≤ prodN ks := prod_pos B.pos
                  refine ⟨D, ks, rfl, hD, fun _ => Nat.lt_of_le_of_lt le0 up, fun k hk => ?_, fun z => ?_, fun _ => ?_⟩
                  · have z := B.each (m := 400) (fun e he => Nat.le_trans (le_flat (f := namesN m) he) h4) k hk
                    exact Nat.lt_of_le_of_lt (Nat.le_trans z (fac_big (by decide))) up
                  · have z2 := B.pos 0 z
                    omega
                  · refine ⟨_, rfl, d0, "parallel", c0.same S, rfl, _, rfl, ?_⟩
                    cases h1 : eqStr "parallel" d0 with
                    | false =>
                      refine if_f rfl ⟨_, rfl, q1 Hx _ S pp ?_ ?_⟩
                      · rw [eSum]
                        exact b1
                      · rw [h1, if_neg Bool.false_ne_true, eK, Nat.mul_one]
                    | true =>
                      refine if_t rfl ⟨_, rfl, _, rfl, a2, rfl, ⟨_, SqT.of (S _ _ ha2)⟩, fun D2 nD2 => lc_vals (K := K) (a := a2) (xs := ys) (fun i => V.int (lenN m (es.getD i .none) : Nat)) (S _ _ ha2) (by omega) nD2 (fun i x Hy hi S2 R hR => ?_) mono_name fun Hy S2 hD2 => ?_⟩
                      · obtain ⟨e, hei, te⟩ := hx2.get hi
                        have hem := List.mem_of_getElem? hei
                        have g0 : es.getD i .none = e := by rw [List.getD_eq_getElem?_getD, hei]; rfl
                        rw [g0] at hR
                        refine ⟨rfl, _, rfl, x, e, rfl, by omega, (te.same S).same S2, hes e hem, fun p H' S' np hp => ⟨p, _, rfl, .inl (SqL.of hp), ?_⟩⟩
                        have z := hR H' S'
                        rw [List.length_map]
                        exact z
                      · have eL : (List.range ys.length).map (fun i => V.int (lenN m (es.getD i .none) : Nat)) = (es.map (lenN m)).map fun n : Nat => V.int (n : Int) := by
                          rw [hl2, List.map_map]
                          refine range_map es _ _ fun i d hdi => ?_
                          have g0 : es.getD i .none = d := by rw [List.getD_eq_getElem?_getD, hdi]; rfl
                          rw [g0]
                          rfl
                        rw [eL] at hD2
                        refine ⟨D2, es.map (lenN m), rfl, hD2, by omega, fun z1 z2 => ?_⟩
                        obtain ⟨Mn, hM⟩ : ∃ M : Nat, multN 0 1 (es.map (lenN m)) = M := ⟨(multN 0 1 (es.map (lenN m))).toNat, by omega⟩
                        obtain ⟨m1, m2⟩ := b2 Mn hM
                        rw [hM]
                        have le3 : Mn ≤ fac (es.map (lenN m)).sum := Nat.le_trans (Nat.le_mul_of_pos_left _ pp) m2
                        have le4 : fac (es.map (lenN m)).sum < 2 ^ 3601 := Nat.lt_of_le_of_lt (fac_big (by omega)) (Nat.pow_lt_pow_right (by decide) (by decide))
                        have w1 : ((prodN ks : Nat) : Int).natAbs < 2 ^ 3601 := by
                          rw [Int.natAbs_natCast]
                          exact Nat.lt_of_le_of_lt b1 le4
                        have w2 : ((Mn : Nat) : Int).natAbs < 2 ^ 3601 := by
                          rw [Int.natAbs_natCast]
                          exact Nat.lt_of_le_of_lt le3 le4
                        refine ⟨_, _, rfl, rfl, wide_mul w1 w2 (by decide) (by decide) (by decide), _, rfl, ?_⟩
                        show Q (.int (((prodN ks : Nat) : Int) * ((Mn : Nat) : Int))) Hy
                        rw [← Int.natCast_mul]
                        refine q1 Hy _ (S.trans S2) (Nat.mul_le_mul pp m1) ?_ ?_
                        · rw [eSum]
                          exact m2
                        · rw [h1, if_pos rfl, eK, hM, Int.toNat_natCast]
theorem ok_osize {f fN fM : Addr} {fd fdN fdM : FuncData} (F : Fun K "order_size" "order_size" sOSize f fd) (b : L2.Binds K fd ["order"] []) (g : mg "order_size" = some (.ref f)) (T : Nm mg)
    (N : DefOk K mg "names_of" sNames ["order"] fN fdN) (U : MulOk P w K mg base) (M : DefOk K mg "multinomial" sMulti ["counts"] fM fdM) (c : mg "comb" = some (.builtin "math.comb")) : ∀ n : Nat, FnOk P w K mg base CX0 (2 + n) f fd ["order"] (spOSize n)
  | 0 => osize_body (sp := fun _ _ _ _ => False) 0 F b g fn_none T N U M c fun m e => by cases e
  | n + 1 => by
    have G := ok_osize F b g T N U M c n
    rw [show 2 + n = 1 + (n + 1) by omega] at G
    refine osize_body (n + 1) F b g G T N U M c fun m e l6 x d H R hd ho hl hR => ?_
    obtain rfl : n = m := Nat.succ.inj e
    exact ⟨x, d, rfl, by omega, hd, ho, hl, hR⟩
def zArr (ds : List PyData) : Int := (oszN 6 (at0 ds 1) : Nat)
theorem ok_arrsize {f fO : Addr} {fd fdO : FuncData} (F : Fun K "arrangement_size" "arrangement_size" sArrSize f fd) (O : DefOk K mg "order_size" sOSize ["order"] fO fdO) (GO : FnOk P w K mg base CX0 8 fO fdO ["order"] (spOSize 6)) : FnOk P w K mg base CX0 9 f fd ["space"] (spSize 2 pArr zArr) := by
  refine F.ok scArrSize (fun vs H Q E h => ?_) (fun cdv A outer s H vs Q E hr h => ?_)
  · obtain ⟨a, xs, ds, rfl, _⟩ := h
    rfl
  · obtain ⟨a, xs, ds, rfl, ha, hx, hl, hp, q⟩ := h
    match ds, hl, hx with
    | [d0, d1], _, .cons (v := x0) t0 (.cons (v := x1) t1 .nil) =>
      have hp' : (orderB 6 d1 && (decide (((namesN 6 d1).length : Int) ≤ 400) && decide ((S2.cnt (namesN 6 d1) (namesN 6 d1).length : Int) = ((namesN 6 d1).length : Int)))) = true := hp
      rw [Bool.and_eq_true, Bool.and_eq_true] at hp'
      have h4 : ((namesN 6 d1).length : Int) ≤ 400 := of_decide_eq_true hp'.2.1
      refine ⟨_, pss_one (ps_ret (pe_call GO hr rfl O.g O.F.kp O.b .nil pass0 (pa_cons (pe_ix ix_tup (pv 0) pe_int (fun _ _ => rfl)) pa_nil))), ?_⟩
      refine ⟨_, rfl, a, _, _, _, rfl, rfl, SqT.of ha, atI_nat (j := 1) rfl, x1, d1, rfl, by decide, t1, hp'.1, by omega, fun H' k S k1 k2 k3 => ?_⟩
      rw [k3]
      exact q H' S
end
end K6
set_option maxRecDepth 100000
set_option maxHeartbeats 4000000
namespace K6
open PySem PySem.Spec PyProof.Rows L2
/-! ### binomials by Pascal's rule -/
def chN : Nat → Nat → Nat
  | _, 0 => 1
  | 0, _ + 1 => 0
  | n + 1, k + 1 => chN n k + chN n (k + 1)
theorem ch_zero (n : Nat) : chN n 0 = 1 := by cases n <;> rfl
theorem ch_succ (n k : Nat) : chN (n + 1) (k + 1) = chN n k + chN n (k + 1) := rfl
theorem ch_out : ∀ {n k : Nat}, n < k → chN n k = 0
  | 0, 0, h => by omega
  | 0, k + 1, _ => rfl
  | n + 1, 0, h => by omega
  | n + 1, k + 1, h => by rw [ch_succ, ch_out (show n < k by omega), ch_out (show n < k + 1 by omega)]
theorem ch_self : ∀ n : Nat, chN n n = 1
  | 0 => rfl
  | n + 1 => by rw [ch_succ, ch_self n, ch_out (Nat.lt_succ_self n)]
theorem ch_fac : ∀ {n k : Nat}, k ≤ n → chN n k * (fac k * fac (n - k)) = fac n
  | n, 0, _ => by
    rw [ch_zero, Nat.one_mul, Nat.sub_zero, fac_zero, Nat.one_mul]
  | 0, k + 1, h => by omega
  | n + 1, k + 1, h => by
    by_cases e : k = n
    · rw [e, ch_self, Nat.sub_self, fac_zero, Nat.mul_one, Nat.one_mul]
    · have z1 := ch_fac (n := n) (k := k) (by omega)
      have z2 := ch_fac (n := n) (k := k + 1) (by omega)
      have e1 : n - k = (n - (k + 1)) + 1 := by omega
      have e2 : n + 1 - (k + 1) = (n - (k + 1)) + 1 := by omega
      rw [ch_succ, e2, fac_succ n, Nat.add_mul]
      rw [e1] at z1
      have y1 : chN n k * (fac (k + 1) * fac (n - (k + 1) + 1)) = fac n * (k + 1) := by
        rw [← z1, fac_succ k]
        ac_rfl
      have y2 : chN n (k + 1) * (fac (k + 1) * fac (n - (k + 1) + 1)) = fac n * (n - (k + 1) + 1) := by
        rw [← z2, fac_succ (n - (k + 1))]
        ac_rfl
      rw [y1, y2, ← Nat.mul_add]
      congr 1
      omega
theorem ch_div {n k : Nat} (h : k ≤ n) : fac n / (fac k * fac (n - k)) = chN n k := by
  rw [← ch_fac h]
  exact Nat.mul_div_cancel _ (Nat.mul_pos (fac_pos k) (fac_pos (n - k)))
/-- n (n - 1) … , k factors -/
def fallN (n : Nat) : Nat → Nat
  | 0 => 1
  | k + 1 => fallN n k * (n - k)
theorem fall_fac {n : Nat} : ∀ {k : Nat}, k ≤ n → fallN n k * fac (n - k) = fac n
  | 0, _ => by
    show 1 * _ = _
    rw [Nat.one_mul]
    rfl
  | k + 1, h => by
    have z := fall_fac (n := n) (k := k) (by omega)
    have e1 : n - k = (n - (k + 1)) + 1 := by omega
    rw [e1, fac_succ] at z
    rw [← z]
    show fallN n k * (n - k) * _ = _
    rw [e1]
    ac_rfl
theorem fall_div {n k : Nat} (h : k ≤ n) : fallN n k / fac k = chN n k := by
  rw [← ch_div h, ← Nat.mul_div_mul_right (fallN n k) (fac k) (fac_pos (n - k)), fall_fac h]
theorem fp_nat {n : Nat} : ∀ {k : Nat}, k ≤ n → Builtin.Math.fallingProduct (n : Int) k = ((fallN n k : Nat) : Int)
  | 0, _ => PySem.W.mc_fp_zero _
  | k + 1, h => by
    rw [PySem.W.mc_fp_succ, fp_nat (n := n) (k := k) (by omega)]
    show _ = (((fallN n k * (n - k)) : Nat) : Int)
    rw [Int.natCast_mul]
    congr 1
    omega
theorem fall_self (m : Nat) : fallN m m = fac m := by
  have z := fall_fac (Nat.le_refl m)
  rw [Nat.sub_self, fac_zero, Nat.mul_one] at z
  exact z
theorem comb_ch {n k : Nat} (h : k ≤ n) : PySem.W.mcComb (n : Int) (k : Int) = ((chN n k : Nat) : Int) := by
  rw [PySem.W.mcComb_at (a := (n : Int)) (b := (k : Int)) (by omega) (by omega) rfl]
  obtain ⟨m, hm⟩ : ∃ m : Nat, min (k : Int) ((n : Int) - (k : Int)) = m := ⟨(min (k : Int) ((n : Int) - (k : Int))).toNat, by omega⟩
  rw [hm, Int.toNat_natCast, fp_nat (n := n) (k := m) (by omega), fp_nat (n := m) (k := m) (Nat.le_refl m), fall_self, ← Int.natCast_ediv, fall_div (by omega)]
  have cs : (m = k ∨ m = n - k) := by omega
  rcases cs with e | e
  · rw [e]
  · have z1 := ch_div (n := n) (k := m) (by omega)
    have z2 := ch_div (n := n) (k := k) h
    rw [← z1, ← z2, e, show n - (n - k) = k by omega, Nat.mul_comm]
theorem ch_pos {n k : Nat} (h : k ≤ n) : 1 ≤ chN n k := by
  have z := ch_fac h
  have p := fac_pos n
  cases hc : chN n k with
  | zero => rw [hc, Nat.zero_mul] at z; omega
  | succ m => omega
/-! ### permutations without fixed places, by differences -/
theorem perm_eq (n m : Nat) : ∀ h : Nat, h ≤ m + 1 → permN n m h = permN n m h := fun _ _ => rfl
theorem sgn_succ (h : Nat) : sgn (h + 1) = - sgn h := by
  rfl
/-- C(m, h) by Pascal, zero beyond -/
theorem perm_step (n m : Nat) : ∀ h : Nat, h ≤ m + 2 → 
    ((List.range h).map fun i => sgn i * ((chN (m + 1) i : Nat) : Int) * ((fac (n + 1 - i) : Nat) : Int)).sum =
    ((List.range h).map fun i => sgn i * ((chN m i : Nat) : Int) * ((fac (n + 1 - i) : Nat) : Int)).sum - ((List.range (h - 1)).map fun i => sgn i * ((chN m i : Nat) : Int) * ((fac (n - i) : Nat) : Int)).sum := by
  intro h
  induction h with
  | zero => intro _; rfl
  | succ h ih =>
    intro hh
    have z := ih (by omega)
    rw [List.range_succ, List.map_append, List.sum_append, List.map_append, List.sum_append, z]
    cases h with
    | zero =>
      show _ + (_ * ((chN (m + 1) 0 : Nat) : Int) * _ + 0) = _ + (_ * ((chN m 0 : Nat) : Int) * _ + 0) - _
      rw [ch_zero, ch_zero]
      rfl
    | succ k =>
      have e : k + 1 + 1 - 1 = k + 1 := rfl
      have e' : k + 1 - 1 = k := rfl
      rw [e, e', List.range_succ (n := k), List.map_append, List.sum_append, List.map_append, List.sum_append]
      show _ + (sgn (k + 1) * ((chN (m + 1) (k + 1) : Nat) : Int) * ((fac (n + 1 - (k + 1)) : Nat) : Int) + 0) = _ + (sgn (k + 1) * ((chN m (k + 1) : Nat) : Int) * ((fac (n + 1 - (k + 1)) : Nat) : Int) + 0) - (_ + (sgn k * ((chN m k : Nat) : Int) * ((fac (n - k) : Nat) : Int) + 0))
      rw [ch_succ, show n + 1 - (k + 1) = n - k by omega, sgn_succ, Int.natCast_add, Int.mul_add, Int.add_mul]
      generalize sgn k = s
      generalize ((fac (n - k) : Nat) : Int) = f
      generalize ((chN m k : Nat) : Int) = c
      generalize ((chN m (k + 1) : Nat) : Int) = c2
      rw [Int.neg_mul, Int.neg_mul, Int.neg_mul, Int.neg_mul]
      omega
theorem perm_sum (n m : Nat) : ∀ h : Nat, h ≤ m + 1 → permN n m h = ((List.range h).map fun i => sgn i * ((chN m i : Nat) : Int) * ((fac (n - i) : Nat) : Int)).sum
  | 0, _ => rfl
  | h + 1, hh => by
    rw [permN, perm_sum n m h (by omega), comb_ch (show h ≤ m by omega), List.range_succ, List.map_append, List.sum_append]
    show _ = _ + (_ + 0)
    rw [Int.add_zero]
    rfl
/-- the next difference -/
theorem perm_diff (n m : Nat) : permN (n + 1) (m + 1) (m + 2) = permN (n + 1) m (m + 1) - permN n m (m + 1) := by
  rw [perm_sum _ _ _ (Nat.le_refl _), perm_sum _ _ _ (Nat.le_refl _), perm_sum _ _ _ (Nat.le_refl _), perm_step n m (m + 2) (Nat.le_refl _)]
  rw [show m + 2 = (m + 1) + 1 from rfl, List.range_succ (n := m + 1), List.map_append, List.sum_append]
  show _ + (_ * ((chN m (m + 1) : Nat) : Int) * _ + 0) - _ = _
  rw [ch_out (Nat.lt_succ_self m)]
  show _ + (_ * 0 * _ + 0) - _ = _
  rw [Int.mul_zero, Int.zero_mul, Int.add_zero, Int.add_zero]
  rfl
theorem perm_zero (n : Nat) : permN n 0 1 = ((fac n : Nat) : Int) := by
  rw [perm_sum n 0 1 (Nat.le_refl _)]
  show sgn 0 * ((1 : Nat) : Int) * ((fac n : Nat) : Int) + 0 = _
  rw [show sgn 0 = 1 from rfl]
  simp
end K6
set_option maxRecDepth 100000
set_option maxHeartbeats 4000000
/-! zip of a tuple and a list -/
namespace ZM
open PySem PySem.Spec PyProof.Rows L2
theorem draws_tuple {prog : Program} {w : World} {A : Around} (hh : A.handled = none) (it l : Addr) (hne : l ≠ it) (items : Array Value) :
    Draws prog w A it [it, l] items.size (fun i v => items[i]? = some v) (fun i h => h.IsTupleIter it l i ∧ h.IsTuple l items) where
  live := fun _ _ st => let ⟨o, ho, _⟩ := st.1; ⟨o, ho⟩
  frame := fun _ _ _ st hk => ⟨st.1.at fun o e => hk it (by simp) o e, st.2.at fun o e => hk l (by simp) o e⟩
  item := fun i s Q E hi st hQ => by
    refine RZ.nextOf_tuple_item st.1 st.2 (x := items[i]) (by simp [hi]) fun h' hit' hs' => ?_
    exact hQ _ h' s.toks (by simp [hi]) ⟨hit', st.2.extBut hs'.extBut hne⟩ hs'
  done := fun s Q E st hE => RZ.nextOf_tuple_end hh st.1 st.2 (by simp) hE
theorem sep_of {z TI TO i1 i2 l1 l2 : Addr} (D : ZipApart z TI TO i1 i2 l1 l2) : ZipSep2 z TI TO i1 i2 [i1, l1] [i2, l2] where
  TIz := D.TIz
  TOz := D.TOz
  TITO := D.TITO
  TIi1 := D.TIi1
  mem1 := by simp
  zf1 := by simp [D.i1z.symm, D.l1z.symm]
  Tf1 := by simp [D.TOi1, D.l1TO.symm]
  TIi2 := D.TIi2
  mem2 := by simp
  zf2 := by simp [D.i2z.symm, D.l2z.symm]
  Tf2 := by simp [D.TOi2, D.l2TO.symm]
  sep1_2 := by simp [D.i12, D.l2i1.symm]
  sep2_1 := by simp [D.i12.symm, D.l1i2.symm]
/-- the tuple at a and the list at b as they stand at each turn, the items in new pairs -/
def Itz2 (K : PySem.W.Frag) (a b : Addr) : It :=
  ⟨fun i H => ∃ (xs ys : List V) (x y : V), SqT K H a xs ∧ SqL K H b ys ∧ xs[i]? = some x ∧ ys[i]? = some y,
    fun i H v H' => ∃ T x y, v = .ref T ∧ H T = none ∧ H' = upd H T (.tup [x, y]) ∧ (∀ xs, SqT K H a xs → xs[i]? = some x) ∧ ∀ ys, SqL K H b ys → ys[i]? = some y,
    fun i H => ∃ xs ys : List V, SqT K H a xs ∧ SqL K H b ys ∧ xs.length = ys.length ∧ i = xs.length⟩
theorem turn_zip2 {P : Program} {w : World} {K : PySem.W.Frag} {elts : List Expr} {kk : Nat} {tpos : Pos} {a b z TI TO i1 i2 : Addr} (D : ZipApart z TI TO i1 i2 a b) :
    Turn P w K (.Tuple elts kk tpos) (Itz2 K a b) [z, TI, TO, i1, i2] z (fun i h => IsZip h z TI TO .none ∧ IsPair h TI (.ref i1) (.ref i2) ∧ (∃ x y, IsPair h TO x y) ∧ h.IsTupleIter i1 a i ∧ h.IsListIter i2 b i) where
  mem := by simp
  obj := fun i h st c hc => by
    obtain ⟨hz, hTI, ⟨x, y, hTO⟩, ⟨o1, e1, _, d1⟩, ⟨o2, e2, _, d2⟩⟩ := st
    have e' : c = z ∨ c = TI ∨ c = TO ∨ c = i1 ∨ c = i2 := by simpa using hc
    rcases e' with q | q | q | q | q
    · rw [q]; exact ⟨_, hz, fun v q => nomatch q⟩
    · rw [q]; exact ⟨_, hTI, fun v q => nomatch q⟩
    · rw [q]; exact ⟨_, hTO, fun v q => nomatch q⟩
    · rw [q]; exact ⟨o1, e1, fun v q => by rw [d1] at q; cases q⟩
    · rw [q]; exact ⟨o2, e2, fun v q => by rw [d2] at q; cases q⟩
  keep := fun i h h' st k => by
    obtain ⟨hz, hTI, ⟨x, y, hTO⟩, h1, h2⟩ := st
    exact ⟨k z (by simp) _ hz, k TI (by simp) _ hTI, ⟨x, y, k TO (by simp) _ hTO⟩, h1.at fun o q => k i1 (by simp) o q, h2.at fun o q => k i2 (by simp) o q⟩
  item := by
    intro X hP hw hK hc i pins s σ H E I hf st hg
    subst hP hw hK
    obtain ⟨hz, hTI, ⟨x0, y0, hTO⟩, h1, h2⟩ := st
    obtain ⟨xs, ys, x, y, hqx, hqy, hx, hy⟩ := hg
    obtain ⟨its, rv, p, _⟩ := I.tuple hqx
    obtain ⟨its2, rv2, p2, _⟩ := I.list hqy
    obtain ⟨u, hu, ru⟩ := rv.get hx
    obtain ⟨u2, hu2, ru2⟩ := rv2.get hy
    have hzl : z < s.heap.objs.size := Heap.lt_size hz
    have hh : X.A.handled = none := I.ok.hd hc
    have hlt1 : i < its.toArray.size := by
      have := (List.getElem?_eq_some_iff.mp hu).1
      simpa using this
    have hlt2 : i < its2.toArray.size := by
      have := (List.getElem?_eq_some_iff.mp hu2).1
      simpa using this
    refine wpAny_pyNext_zipD2_item (sep_of D) (draws_tuple (A := X.A.in1) hh i1 a D.l1i1 its.toArray) (Draws.list (A := X.A.in1) hh i2 b D.l2i2 its2.toArray) hz hTI hTO ⟨h1, p⟩ ⟨h2, p2.isList⟩ hlt1 hlt2
      fun v1 v2 h' tk e1 e2 z' TO' h1' h2' hT hsz hk => ?_
    obtain rfl : v1 = u := by
      have e1' : its[i]? = some v1 := by simpa using e1
      exact Option.some.inj (e1'.symm.trans hu)
    obtain rfl : v2 = u2 := by
      have e2' : its2[i]? = some v2 := by simpa using e2
      exact Option.some.inj (e2'.symm.trans hu2)
    refine ⟨_, rfl, wpAny_letOwnedTupleGo_zip (s := { s with heap := h', toks := tk }) z' fun h'' z'' sb => ?_⟩
    have hT2 : h''.get? s.heap.objs.size = some { cls := .type "tuple", data := .seq #[v1, v2] } := (sb.2 _ (Nat.ne_of_gt hzl)).trans hT
    have new : ObjOk X.prog X.w (upd H s.heap.objs.size (.tup [x, y])) h'' s.heap.objs.size (.tup [x, y]) :=
      ⟨by show 2 ≤ sizeLine; decide, [v1, v2], .cons ru (.cons ru2 .nil), ⟨_, hT2, rfl, _, rfl⟩⟩
    have I1 : Inv X pins σ (upd H s.heap.objs.size (.tup [x, y])) { s with heap := h'', toks := tk } :=
      I.turnedNew (t' := tk) (ch := [z, TI, TO, i1, i2]) (fun c o hb q => (sb.2 c (fun q' => hb (by simp [q']))).trans (hk c o (fun q' => hb (by simp [q'])) (fun q' => hb (by simp [q'])) (fun q' => hb (by simp [q'])) (fun q' => hb (by simp [q'])) q)) hf (Nat.le_refl _) new
    refine ⟨.ref s.heap.objs.size, _, I1, rfl, ⟨_, x, y, rfl, I.hok.fresh (Nat.le_refl _), rfl, fun l hl => by rw [I.tuple_inj hl hqx]; exact hx, fun l hl => by rw [I.list_inj hl hqy]; exact hy⟩, ⟨z'', ?_, ⟨v1, v2, ?_⟩, ?_, ?_⟩, fun c hcm => ?_⟩
    · exact (sb.2 _ D.TIz).trans (hk _ _ D.TIz D.TITO D.TIi1 D.TIi2 hTI)
    · exact (sb.2 _ D.TOz).trans TO'
    · exact h1'.1.at fun o q => (sb.2 _ D.i1z).trans q
    · exact h2'.1.at fun o q => (sb.2 _ D.i2z).trans q
    · have hlt : c < s.heap.objs.size := by
        have e' : c = z ∨ c = TI ∨ c = TO ∨ c = i1 ∨ c = i2 := by simpa using hcm
        rcases e' with q | q | q | q | q
        · rw [q]; exact hzl
        · rw [q]; exact Heap.lt_size hTI
        · rw [q]; exact Heap.lt_size hTO
        · rw [q]; obtain ⟨_, e1, _⟩ := h1; exact Heap.lt_size e1
        · rw [q]; obtain ⟨_, e2, _⟩ := h2; exact Heap.lt_size e2
      rw [upd_ne (Nat.ne_of_lt hlt)]
      exact (hf c hcm).1
  done := by
    intro X hP hw hK hc i pins s σ H E I hf st hg
    subst hP hw hK
    obtain ⟨hz, hTI, ⟨x0, y0, hTO⟩, h1, h2⟩ := st
    obtain ⟨xs, ys, hqx, hqy, hlen, hend⟩ := hg
    obtain ⟨its, rv, p, _⟩ := I.tuple hqx
    obtain ⟨its2, rv2, p2, _⟩ := I.list hqy
    have l1 := rv.length
    have l2 := rv2.length
    have hh : X.A.handled = none := I.ok.hd hc
    exact wpAny_pyNext_zipD2_end (sep_of D) (draws_tuple (A := X.A.in1) hh i1 a D.l1i1 its.toArray) (Draws.list (A := X.A.in1) hh i2 b D.l2i2 its2.toArray) hz hTI hTO ⟨h1, p⟩ ⟨h2, p2.isList⟩ (by simp; omega) (by simp; omega) (.inl (by simp; omega))
      fun h' tk hk => ⟨rfl, I.turnedL (t' := tk) (ch := [z, TI, TO, i1, i2]) (fun c o hb q =>
      hk c o (fun q' => hb (by simp [q'])) (fun q' => hb (by simp [q'])) (fun q' => hb (by simp [q'])) (fun q' => hb (by simp [q'])) q) hf⟩
  self := fun A i s Q E st h => wpAny_pyIter_zip st.1 h
/-! the call -/
abbrev zH1 (h : Heap) (l1 : Addr) : Heap := h.push { cls := .type "tuple_iterator", data := .fields #[.ref l1, .int 0 0] }
abbrev zH2 (h : Heap) (l1 l2 : Addr) : Heap := (zH1 h l1).push { cls := .type "list_iterator", data := .fields #[.ref l2, .int 0 0] }
abbrev zH3 (h : Heap) (l1 l2 : Addr) : Heap := (zH2 h l1 l2).push { cls := .type "tuple", data := .seq #[.ref h.objs.size, .ref (zH1 h l1).objs.size] }
abbrev zH4 (h : Heap) (l1 l2 : Addr) : Heap := (zH3 h l1 l2).push { cls := .type "tuple", data := .seq #[.none, .none] }
abbrev zH5 (h : Heap) (l1 l2 : Addr) : Heap := (zH4 h l1 l2).push { cls := .type "zip", data := .fields #[.none, .bool false, .bool false, .ref (zH2 h l1 l2).objs.size, .ref (zH3 h l1 l2).objs.size] }
theorem meets_new (l1 l2 : Addr) (xs ys : Array Value) :
    Meets (Builtin.«zip.__new__» ⟨[.type "zip", .ref l1, .ref l2], []⟩) (fun _ R s => s.heap.IsTuple l1 xs ∧ s.heap.IsList l2 ys ∧
      R (.ok (.ret (.ref (zH4 s.heap l1 l2).objs.size))) { s with heap := zH5 s.heap l1 l2 }) :=
  .of_wp fun prog w A R s h => by
    obtain ⟨hp, g, d, tk, os⟩ := s; obtain ⟨hl1, hl2, h⟩ := h
    have hsub := sub_zip
    have hL1 : Heap.IsTuple (Shared.heap ⟨hp, g, d, tk, os⟩) l1 xs := hl1
    have hL2 : Heap.IsList (Shared.heap ⟨hp.push { cls := .type "tuple_iterator", data := .fields #[.ref l1, .int 0 0] }, g, d, tk, os⟩) l2 ys := Heap.IsList.push hl2 _
    wp_walk using wpAny_pyIter_tuple hL1, wpAny_pyIter_list hL2
    exact ⟨_, rfl, h⟩
section
variable {prog : Program} {w : World} {A : Around} {E : Value → Shared → Prop} {s : Shared}
theorem call_zip2 {l1 l2 : Addr} {xs ys : Array Value} {Q : Value → Shared → Prop} (hl1 : s.heap.IsTuple l1 xs) (hl2 : s.heap.IsList l2 ys)
    (h : ∀ h', IsZip h' (s.heap.objs.size + 4) (s.heap.objs.size + 2) (s.heap.objs.size + 3) .none → IsPair h' (s.heap.objs.size + 2) (.ref s.heap.objs.size) (.ref (s.heap.objs.size + 1)) →
      IsPair h' (s.heap.objs.size + 3) .none .none → h'.IsTupleIter s.heap.objs.size l1 0 → h'.IsListIter (s.heap.objs.size + 1) l2 0 →
      (∀ c o, s.heap.get? c = some o → h'.get? c = some o) → Q (.ref (s.heap.objs.size + 4)) { s with heap := h' }) :
    wpAny (model prog w) A (call (.type "zip") [.ref l1, .ref l2]) Q E s := by
  refine callType_new F.called_zip (by decide) (F.typeCall_zip_2 _ _) (F.newCall_zip_2 _ _) (fun obj => F.args_object_init_3 obj _ _) F.entry_zip_new
    (meets_new l1 l2 xs ys) ⟨hl1, hl2, ?_⟩
  have z1 : (zH1 s.heap l1).objs.size = s.heap.objs.size + 1 := Heap.size_push ..
  have z2 : (zH2 s.heap l1 l2).objs.size = s.heap.objs.size + 2 := by rw [Heap.size_push, z1]
  have z3 : (zH3 s.heap l1 l2).objs.size = s.heap.objs.size + 3 := by rw [Heap.size_push, z2]
  have z4 : (zH4 s.heap l1 l2).objs.size = s.heap.objs.size + 4 := by rw [Heap.size_push, z3]
  have g5 : (zH5 s.heap l1 l2).get? (zH4 s.heap l1 l2).objs.size = some _ := Heap.get?_push_size _ rfl
  have g4 : (zH5 s.heap l1 l2).get? (zH3 s.heap l1 l2).objs.size = some _ := Heap.get?_push_of_some _ (Heap.get?_push_size _ rfl)
  have g3 : (zH5 s.heap l1 l2).get? (zH2 s.heap l1 l2).objs.size = some _ := Heap.get?_push_of_some _ (Heap.get?_push_of_some _ (Heap.get?_push_size _ rfl))
  have g2 : (zH5 s.heap l1 l2).get? (zH1 s.heap l1).objs.size = some _ := Heap.get?_push_of_some _ (Heap.get?_push_of_some _ (Heap.get?_push_of_some _ (Heap.get?_push_size _ rfl)))
  have g1 : (zH5 s.heap l1 l2).get? s.heap.objs.size = some _ := Heap.get?_push_of_some _ (Heap.get?_push_of_some _ (Heap.get?_push_of_some _ (Heap.get?_push_of_some _ (Heap.get?_push_size _ rfl))))
  show _ ∧ _
  rw [z2, z3, z4] at g5
  rw [z1, z2] at g3
  rw [z3] at g4
  rw [z1] at g2
  rw [z4]
  exact ⟨⟨_, g5, rfl⟩, h _ g5 g3 g4 ⟨_, g1, rfl, rfl⟩ ⟨_, g2, rfl, rfl⟩ fun c o x =>
    Heap.get?_push_of_some _ (Heap.get?_push_of_some _ (Heap.get?_push_of_some _ (Heap.get?_push_of_some _ (Heap.get?_push_of_some _ x))))⟩
end
def iZip2 (K : PySem.W.Frag) (ta : TA) : TI := fun σ H R => ta σ H fun vs H1 => ∃ a b xs ys, vs = [.ref a, .ref b] ∧ SqT K H1 a xs ∧ SqL K H1 b ys ∧ R (Itz2 K a b) H1
theorem pi_zip2 {X : Cx} {e e2 : Expr} {ta : TA} {p pos tpos : Pos} {elts : List Expr} {kk : Nat} (hg : Gl X "zip") (hm : X.mg "zip" = none) (ha : PA X [e, e2] ta)
    (hs : starEach [e, e2] X.env = (false, eval e X.env) :: starEach [e2] X.env := by rfl) (hpl : (backTo pos (starEach [e2] X.env)).any (·.1) = false := by rfl) :
    PI X (.Tuple elts kk tpos) (.Call (.Name "zip" p) [e, e2] [] pos) (iZip2 X.K ta) := by
  refine ⟨fun pins s σ H R I h => ?_⟩
  refine Call_ (ld_blt I hg hm PyProof.Rows.boot_zip (PyProof.Rows.callWith_type1 (thn (ha.run pos pins s σ H _ I h) fun us s1 ⟨vs, H1, I1, r1, q1⟩ => ?_) hs hpl))
  obtain ⟨a, b, xs, ys, ex, hqx, hqy, q⟩ := q1
  subst ex
  cases r1 with
  | cons r rr =>
    cases rr with
    | cons r' rr =>
      cases rr
      cases r
      cases r'
      have fresh5 : ∀ c, c ∈ [s1.heap.objs.size + 4, s1.heap.objs.size + 2, s1.heap.objs.size + 3, s1.heap.objs.size, s1.heap.objs.size + 1] → FpOk X pins H1 c := fun c hcm => by
        have e' : c = s1.heap.objs.size + 4 ∨ c = s1.heap.objs.size + 2 ∨ c = s1.heap.objs.size + 3 ∨ c = s1.heap.objs.size ∨ c = s1.heap.objs.size + 1 := by simpa using hcm
        have hle : s1.heap.objs.size ≤ c := by
          rcases e' with z | z | z | z | z
          · rw [z]; exact Nat.le_add_right _ _
          · rw [z]; exact Nat.le_add_right _ _
          · rw [z]; exact Nat.le_add_right _ _
          · rw [z]; exact Nat.le_refl _
          · rw [z]; exact Nat.le_add_right _ _
        exact I1.fpOk hle (I1.hok.fresh hle)
      obtain ⟨its, rv, p1, _⟩ := I1.tuple hqx
      obtain ⟨its2, rv2, p2, _⟩ := I1.list hqy
      obtain ⟨o1, ho1, _⟩ := id p1
      refine call_zip2 (show s1.heap.IsTuple a its.toArray from p1) p2.isList fun h' hz hTI hTO h1 h2 hk => wpAny_pyIter_zip hz ?_
      have I2 : Inv X pins σ H1 { s1 with heap := h' } := I1.kept (t' := s1.toks) hk
      exact ⟨s1.heap.objs.size + 4, [s1.heap.objs.size + 4, s1.heap.objs.size + 2, s1.heap.objs.size + 3, s1.heap.objs.size, s1.heap.objs.size + 1], _, _, H1, rfl, I2, turn_zip2 (PySem.W.ktu_apart s1.heap.objs.size a b (Heap.lt_size ho1) p2.lt), ⟨hz, hTI, ⟨_, _, hTO⟩, h1, h2⟩, fresh5, q⟩
/-- a loop over zip of a tuple and a list of one length -/
theorem for_zip2 {K : PySem.W.Frag} {a b : Addr} {xs ys : List V} {g : TG} {tb : TS} {D : Ends} {σ : L2.St} {H : Hp} (hl : xs.length = ys.length) (Pv : Nat → L2.St → Hp → Prop) (h0 : Pv 0 σ H) (hq : ∀ i σ H, Pv i σ H → SqT K H a xs ∧ SqL K H b ys)
    (hs : ∀ (i : Nat) (x y : V) (T : Addr) (σ : L2.St) (H : Hp), xs[i]? = some x → ys[i]? = some y → Pv i σ H → H T = none → g (.ref T) σ (upd H T (.tup [x, y])) fun σ2 H2 => tb { D with nx := Pv (i + 1), ct := Pv (i + 1), bk := D.nx } σ2 H2) (hd : ∀ σ H, Pv xs.length σ H → D.nx σ H) :
    ∃ W : Nat → Nat → L2.St → Hp → Prop, (∃ m, W 0 m σ H) ∧ ∀ i m σ H, W i m σ H →
      ((Itz2 K a b).stop i H ∧ D.nx σ H) ∨ ((Itz2 K a b).go i H ∧ ∃ N : L2.St → Hp → Prop, (∀ σ' H', N σ' H' → ∃ m', m' < m ∧ W (i + 1) m' σ' H') ∧ ∀ v H', (Itz2 K a b).yld i H v H' → g v σ H' fun σ2 H2 => tb { D with nx := N, ct := N, bk := D.nx } σ2 H2) := by
  refine ⟨fun i m σ H => m = xs.length - i ∧ i ≤ xs.length ∧ Pv i σ H, ⟨xs.length, rfl, Nat.zero_le _, h0⟩, ?_⟩
  rintro i m σ H ⟨rfl, hi, p⟩
  obtain ⟨qx, qy⟩ := hq i σ H p
  by_cases hlt : i < xs.length
  · have hx : xs[i]? = some xs[i] := List.getElem?_eq_getElem hlt
    have hlt2 : i < ys.length := by omega
    have hy : ys[i]? = some ys[i] := List.getElem?_eq_getElem hlt2
    refine .inr ⟨⟨xs, ys, _, _, qx, qy, hx, hy⟩, Pv (i + 1), fun σ' H' p' => ⟨xs.length - (i + 1), by omega, rfl, hlt, p'⟩, fun v H' y => ?_⟩
    obtain ⟨T, x', y', rfl, hT, rfl, f1, f2⟩ := y
    exact hs i x' y' T σ H (f1 xs qx) (f2 ys qy) p hT
  · have e : i = xs.length := by omega
    subst e
    exact .inl ⟨⟨xs, ys, qx, qy, hl, rfl⟩, hd σ H p⟩
section
variable {K : PySem.W.Frag} {a b : Addr} {xs ys : List V}
theorem walk_zip2 (hl : xs.length = ys.length) : Walk (Itz2 K a b) xs.length (fun H => SqT K H a xs ∧ SqL K H b ys) (YPair (fun i => xs[i]?) (fun i => ys[i]?)) := by
  constructor
  · intro i _ hi q
    exact ⟨xs, ys, xs[i]'(by omega), ys[i]'(by omega), q.1, q.2, List.getElem?_eq_getElem (by omega), List.getElem?_eq_getElem (by omega)⟩
  · intro _ q
    exact ⟨xs, ys, q.1, q.2, hl, rfl⟩
  · intro i H v H' _ q y
    obtain ⟨T, x, z, e1, e2, e3, e4, e5⟩ := y
    exact ⟨T, x, z, e1, e2, e3, e4 _ q.1, e5 _ q.2⟩
end
end ZM
set_option maxRecDepth 100000
set_option maxHeartbeats 8000000
namespace K6
open PySem PySem.Spec PyProof.Rows L2
theorem perm_tab : ∀ a : Fin 61, ∀ m : Fin 61, m.val ≤ a.val → 0 ≤ permN a.val m.val (m.val + 1) := by decide +kernel
theorem perm_nn (a m : Nat) (h : m ≤ a) (h60 : a ≤ 60) : 0 ≤ permN a m (m + 1) := perm_tab ⟨a, by omega⟩ ⟨m, by omega⟩ h
/-! ### sizes are below the bound -/
theorem sz_nat {z : Int} {B : Nat} (h0 : 0 ≤ z) (h1 : z ≤ ((B : Nat) : Int)) (hB : B ≤ 2 ^ 13000) : ∃ n : Nat, z = ((n : Nat) : Int) ∧ ((n : Nat) : Int) < big :=
  ⟨z.toNat, (Int.toNat_of_nonneg h0).symm, big_of (Nat.le_trans (Int.toNat_le.mpr h1) hB)⟩
theorem b400 : 400 ^ 400 ≤ 2 ^ 13000 := by decide +kernel
theorem pow400 {a b : Nat} (ha : a ≤ 400) (hb : b ≤ 400) : a ^ b ≤ 2 ^ 13000 := Nat.le_trans (Nat.pow_le_pow_left ha b) (Nat.le_trans (Nat.pow_le_pow_right (by decide) hb) b400)
theorem zb_subset (ds : List PyData) (hp : pSubset ds = true) : ∃ n : Nat, zSubset ds = ((n : Nat) : Int) ∧ ((n : Nat) : Int) < big := by
  unfold pSubset at hp
  rw [Bool.and_eq_true] at hp
  obtain ⟨i, e1, h1, h2⟩ := btw_int hp.1
  rw [e1] at hp
  obtain ⟨k, e2, h3, h4⟩ := btw_int hp.2
  have h4' : k ≤ i := h4
  unfold zSubset
  rw [e1, e2]
  obtain ⟨a, rfl⟩ : ∃ a : Nat, i = (a : Int) := ⟨i.toNat, by omega⟩
  obtain ⟨b, rfl⟩ : ∃ b : Nat, k = (b : Int) := ⟨k.toNat, by omega⟩
  obtain ⟨c1, c2⟩ := comb_le (a := a) (b := b) (by omega)
  exact sz_nat (Int.le_trans (by decide) c1) c2 (pow400 (by omega) (by omega))
theorem zb_cycle (ds : List PyData) (hp : pCycle ds = true) : ∃ n : Nat, zCycle ds = ((n : Nat) : Int) ∧ ((n : Nat) : Int) < big := by
  obtain ⟨i, e1, h1, h2⟩ := btw_int hp
  unfold zCycle
  rw [e1]
  have z : (i - 1).toNat ≤ 400 := by omega
  exact ⟨_, rfl, big_of (Nat.le_trans (fac_big z) (Nat.pow_le_pow_right (by decide) (by decide)))⟩
theorem zb_tree (ds : List PyData) (hp : pTree ds = true) : ∃ n : Nat, zTree ds = ((n : Nat) : Int) ∧ ((n : Nat) : Int) < big := by
  obtain ⟨i, e1, h1, h2⟩ := btw_int hp
  unfold zTree
  rw [e1]
  have z : i.toNat ≤ 400 := by omega
  exact ⟨_, rfl, big_of (pow400 z (Nat.le_trans (Nat.sub_le _ _) z))⟩
theorem zb_match (ds : List PyData) (hp : pMatching ds = true) : ∃ n : Nat, zMatch ds = ((n : Nat) : Int) ∧ ((n : Nat) : Int) < big := by
  obtain ⟨i, e1, h1, h2⟩ := btw_int hp
  unfold zMatch
  rw [e1]
  have z : i.toNat ≤ 200 := by omega
  exact ⟨_, rfl, big_of (Nat.le_trans (match_le z) (Nat.pow_le_pow_right (by decide) (by decide)))⟩
theorem zb_perm (ds : List PyData) (hp : pPerm ds = true) : ∃ n : Nat, zPerm ds = ((n : Nat) : Int) ∧ ((n : Nat) : Int) < big := by
  unfold pPerm at hp
  rw [Bool.and_eq_true, Bool.and_eq_true] at hp
  obtain ⟨i, e1, h1, h2⟩ := btw_int hp.1.1
  have hp2 := hp.1.2
  rw [e1] at hp2
  obtain ⟨ms, e2, h3, h4⟩ := tupOf_len hp2
  have h4' : (ms.length : Int) ≤ i := h4
  unfold zPerm
  rw [e1, e2]
  obtain ⟨a, rfl⟩ : ∃ a : Nat, i = (a : Int) := ⟨i.toNat, by omega⟩
  have l1 : ms.length ≤ a := by omega
  have l2 : a ≤ 60 := by omega
  show ∃ n : Nat, permN a ms.length (ms.length + 1) = ((n : Nat) : Int) ∧ ((n : Nat) : Int) < big
  have z := perm_abs (n := a) (m := ms.length) (by omega) l2 (ms.length + 1) (Nat.le_refl _)
  have y := perm_nn a ms.length l1 l2
  have x : (ms.length + 1) * 2 ^ 904 ≤ 2 ^ 13000 := Nat.le_trans (Nat.mul_le_mul_right _ (show ms.length + 1 ≤ 64 by omega)) (by decide +kernel)
  refine sz_nat (B := (permN a ms.length (ms.length + 1)).natAbs) y (by omega) (Nat.le_trans z x)
/-- the words of counts -/
theorem counts_nat {d : PyData} (h : countsB d = true) : (countsN d).sum ≤ 400 := by
  have hc2 := h
  unfold countsB at hc2
  rw [Bool.and_eq_true, Bool.and_eq_true, Bool.and_eq_true] at hc2
  have hall := List.all_eq_true.mp hc2.1.2
  have hsum : ((tupItems d).map countOf).sum ≤ 400 := of_decide_eq_true hc2.2.1
  have z := sum_nat hall
  unfold countsN
  omega
theorem word_bd' {d : PyData} (h : countsB d = true) : 1 ≤ multN 0 1 (countsN d) ∧ multN 0 1 (countsN d) ≤ ((2 ^ 3600 : Nat) : Int) := by
  have s4 := counts_nat h
  obtain ⟨m1, m2⟩ := mult_fac (countsN d) 0 1 (by decide)
  rw [Nat.zero_add, fac_zero, Int.one_mul] at m2
  refine ⟨m1, ?_⟩
  have pp : 1 ≤ prodN ((countsN d).map fac) := prod_pos fun n hn => by
    obtain ⟨k, _, rfl⟩ := List.mem_map.mp hn
    exact fac_pos k
  have f4 := fac_big s4
  generalize prodN ((countsN d).map fac) = p at m2 pp
  generalize fac (countsN d).sum = F at m2 f4
  generalize multN 0 1 (countsN d) = m at m1 m2 ⊢
  have e : m * ((1 : Nat) : Int) * (p : Int) = m * (p : Int) := by
    show m * 1 * (p : Int) = _
    rw [Int.mul_one]
  rw [e] at m2
  have z : m * 1 ≤ m * (p : Int) := Int.mul_le_mul_of_nonneg_left (by omega) (by omega)
  rw [Int.mul_one] at z
  have y : ((F : Nat) : Int) ≤ ((2 ^ 3600 : Nat) : Int) := Int.ofNat_le.mpr f4
  exact Int.le_trans z (Int.le_trans m2 y)
theorem zb_counts {d : PyData} (h : countsB d = true) : ∃ n : Nat, multN 0 1 (countsN d) = ((n : Nat) : Int) ∧ 1 ≤ n ∧ ((n : Nat) : Int) < big := by
  obtain ⟨h1, h2⟩ := word_bd' h
  obtain ⟨n, e, hn⟩ := sz_nat (z := multN 0 1 (countsN d)) (Int.le_trans (by decide) h1) h2 (Nat.pow_le_pow_right (by decide) (by decide))
  exact ⟨n, e, by omega, hn⟩
theorem strT_le {ms : List PyData} (h : ms.length ≤ 48) : ∀ (i : Nat) (r : Int), strT ms i r ≤ 48 ^ i
  | 0, r => by
    show (if r = 0 then 1 else 0) ≤ 1
    split <;> omega
  | i + 1, r => by
    show mvS (strT ms i) ms r ≤ 48 ^ (i + 1)
    unfold mvS
    have z := sum_le (b := 48 ^ i) (l := ms.map fun e => if tgtM e = r then strT ms i (srcM e) else 0) fun x hx => by
      obtain ⟨e, _, rfl⟩ := List.mem_map.mp hx
      show (if tgtM e = r then strT ms i (srcM e) else 0) ≤ _
      split
      · exact strT_le h i _
      · exact Nat.zero_le _
    rw [List.length_map] at z
    refine Nat.le_trans z ?_
    rw [Nat.pow_succ, Nat.mul_comm]
    exact Nat.mul_le_mul_left _ h
theorem str_big {ds : List PyData} (hp : pString ds = true) : ((strN (tupItems (at0 (tupItems (at0 ds 1)) 0)) (tupItems (at0 (tupItems (at0 ds 1)) 1)) (intOf (at0 ds 2)).toNat : Nat) : Int) < big := by
  unfold pString autoB movesB statesB at hp
  simp only [Bool.and_eq_true] at hp
  obtain ⟨n, e1, n0, n60⟩ := btw_int hp.1
  obtain ⟨ms, e2, _, m48⟩ := tupOf_len hp.2.2.1.1.1
  obtain ⟨ss, e3, _, s8⟩ := tupOf_len hp.2.2.2.1
  rw [e1, e2, e3]
  refine big_of ?_
  show strN ms ss n.toNat ≤ _
  unfold strN
  have z := sum_le (b := 48 ^ n.toNat) (l := ss.map fun e => strT ms n.toNat (intOf e)) fun x hx => by
    obtain ⟨e, _, rfl⟩ := List.mem_map.mp hx
    exact strT_le (by omega) _ _
  rw [List.length_map] at z
  have y : 48 ^ n.toNat ≤ 48 ^ 60 := Nat.pow_le_pow_right (by decide) (by omega)
  have x : ss.length * 48 ^ n.toNat ≤ 8 * 48 ^ 60 := Nat.mul_le_mul (by omega) y
  exact Nat.le_trans z (Nat.le_trans x (by decide +kernel))
theorem walk_n {ds : List PyData} (hp : pWalk ds = true) : (intOf (at0 ds 1)).toNat ≤ 60 := by
  unfold pWalk at hp
  rw [Bool.and_eq_true, Bool.and_eq_true] at hp
  obtain ⟨n, e1, n0, n60⟩ := btw_int hp.2.1
  rw [e1]
  show n.toNat ≤ 60
  omega
theorem zb_word (ds : List PyData) (hp : pWord ds = true) : ∃ n : Nat, zWord ds = ((n : Nat) : Int) ∧ ((n : Nat) : Int) < big := by
  obtain ⟨n, e, _, h⟩ := zb_counts hp
  exact ⟨n, e, h⟩
theorem zb_arr (ds : List PyData) (hp : pArr ds = true) : ∃ n : Nat, zArr ds = ((n : Nat) : Int) ∧ ((n : Nat) : Int) < big := by
  have hp' : (orderB 6 (at0 ds 1) && (decide (((namesN 6 (at0 ds 1)).length : Int) ≤ 400) && decide ((S2.cnt (namesN 6 (at0 ds 1)) (namesN 6 (at0 ds 1)).length : Int) = ((namesN 6 (at0 ds 1)).length : Int)))) = true := hp
  rw [Bool.and_eq_true, Bool.and_eq_true] at hp'
  have h4 : ((namesN 6 (at0 ds 1)).length : Int) ≤ 400 := of_decide_eq_true hp'.2.1
  obtain ⟨_, h2⟩ := osz_bd 6 (at0 ds 1) hp'.1
  exact ⟨_, rfl, big_of (Nat.le_trans h2 (Nat.le_trans (fac_big (by omega)) (Nat.pow_le_pow_right (by decide) (by decide))))⟩
theorem zb_walk (ds : List PyData) (hp : pWalk ds = true) : ∃ n : Nat, zWalk ds = ((n : Nat) : Int) ∧ ((n : Nat) : Int) < big := by
  have h : (intOf (at0 ds 1)).toNat ≤ 60 := walk_n hp
  exact ⟨_, rfl, big_of (Nat.le_trans (walkW_le _ _ _ _ _) (Nat.pow_le_pow_right (by decide) (by omega)))⟩
theorem zb_str (ds : List PyData) (hp : pString ds = true) : ∃ n : Nat, zStr ds = ((n : Nat) : Int) ∧ ((n : Nat) : Int) < big := by
  exact ⟨_, rfl, str_big hp⟩
/-! ### the sizes of leaves by their words -/
def bigN : Nat := 10 ^ 4000
theorem big_nat : big = ((bigN : Nat) : Int) := by
  unfold big bigN
  exact (Int.natCast_pow 10 4000).symm
def zTab : List (Str × (List PyData → Int)) := [("subset", zSubset), ("word", zWord), ("arrangement", zArr), ("walk", zWalk), ("cycle", zCycle), ("matching", zMatch), ("permutation", zPerm), ("tree", zTree), ("string", zStr)]
def zOf (z : Str) (ds : List PyData) : Int := match zTab.lookup z with
  | some f => f ds
  | none => 0
theorem zb_of {z : Str} {len : Nat} {p : List PyData → Bool} {ds : List PyData} (hk : kinds.lookup z = some (len, p)) (hn : ((z == "product") || ((z == "choice") || ((z == "power") || (z == "decorated")))) = false) (hp : p ds = true) : ∃ n : Nat, zOf z ds = ((n : Nat) : Int) ∧ ((n : Nat) : Int) < big := by
  have hm : (z, len, p) ∈ kinds := by
    have key : ∀ {l : List (Str × Nat × (List PyData → Bool))}, l.lookup z = some (len, p) → (z, len, p) ∈ l := by
      intro l
      induction l with
      | nil => intro h; cases h
      | cons c r ih =>
        intro h
        obtain ⟨k, v⟩ := c
        rw [List.lookup] at h
        cases e : z == k with
        | true =>
          rw [e] at h
          obtain rfl := Option.some.inj h
          rw [eq_of_beq e]
          simp
        | false =>
          rw [e] at h
          exact List.mem_cons_of_mem _ (ih h)
    exact key hk
  unfold kinds at hm
  rcases List.mem_cons.mp hm with e | hm
  · cases e
    exact zb_subset ds hp
  rcases List.mem_cons.mp hm with e | hm
  · cases e
    exact zb_word ds hp
  rcases List.mem_cons.mp hm with e | hm
  · cases e
    exact zb_arr ds hp
  rcases List.mem_cons.mp hm with e | hm
  · cases e
    exact zb_walk ds hp
  rcases List.mem_cons.mp hm with e | hm
  · cases e
    exact zb_cycle ds hp
  rcases List.mem_cons.mp hm with e | hm
  · cases e
    exact zb_match ds hp
  rcases List.mem_cons.mp hm with e | hm
  · cases e
    exact zb_perm ds hp
  rcases List.mem_cons.mp hm with e | hm
  · cases e
    exact zb_tree ds hp
  rcases List.mem_cons.mp hm with e | hm
  · cases e
    exact zb_str ds hp
  rcases List.mem_cons.mp hm with e | hm
  · cases e
    exact absurd hn (by decide +kernel)
  rcases List.mem_cons.mp hm with e | hm
  · cases e
    exact absurd hn (by decide +kernel)
  rcases List.mem_cons.mp hm with e | hm
  · cases e
    exact absurd hn (by decide +kernel)
  rcases List.mem_cons.mp hm with e | hm
  · cases e
    exact absurd hn (by decide +kernel)
  cases hm
def leafN (d : PyData) : Nat := (zOf (strOf (at0 (tupItems d) 0)) (tupItems d)).toNat
end K6
set_option maxRecDepth 100000
set_option maxHeartbeats 8000000
namespace K6
open PySem PySem.Spec PyProof.Rows L2
/-! ### None among tuples -/
section
variable {X : Cx}
def NonT (H : Hp) (z : V) : Prop := z = .non ∨ ∃ a ts, z = .ref a ∧ H a = some (.tup ts)
theorem isNone_T {z : V} {u : Value} {H : Hp} (r : RelV z u) (f : NonT H z) : PySem.Numpy.isNone u = isNon z := by
  rcases f with rfl | ⟨a, ts, rfl, _⟩
  · cases r; rfl
  · cases r; rfl
theorem any_nonT {H : Hp} : ∀ {xs : List V} {us : List Value}, Vals xs us → (∀ z ∈ xs, NonT H z) → us.any PySem.Numpy.isNone = xs.any isNon
  | _, _, .nil, _ => rfl
  | y :: xs, u :: us, .cons r t, f => by
    rw [List.any_cons, List.any_cons, isNone_T r (f y (List.mem_cons_self ..)), any_nonT t fun z hz => f z (List.mem_cons_of_mem _ hz)]
theorem nonT_eq {A : Around} {pins : List (Addr × Obj)} {σ : L2.St} {H : Hp} {s : Shared} (I : Inv X pins σ H s) (hu : A.units < cLine) {z : V} {u : Value} (r : RelV z u) (f : NonT H z) : SeqAt.EqAt A s u .none (PySem.Numpy.isNone u) := by
  rcases f with rfl | ⟨a, ts, rfl, ha⟩
  · cases r
    exact SeqAt.EqAt.same _
  · cases r
    obtain ⟨its, rv, p, _⟩ := I.tuple (SqT.of ha)
    exact SeqAt.EqAt.tuple_none p hu
theorem mem_nonT {A : Around} {pins : List (Addr × Obj)} {σ : L2.St} {H : Hp} {s : Shared} (I : Inv X pins σ H s) (hu : A.units < cLine) : ∀ {xs : List V} {us : List Value}, Vals xs us → (∀ z ∈ xs, NonT H z) → ∀ u ∈ us, SeqAt.EqAt A s u .none (PySem.Numpy.isNone u)
  | _, _, .nil, _ => fun u hu' => by cases hu'
  | y :: xs, u :: us, .cons r t, f => fun u' hu' => by
    rcases List.mem_cons.mp hu' with e | hu'
    · subst e
      exact nonT_eq I hu r (f y (List.mem_cons_self ..))
    · exact mem_nonT I hu t (fun z hz => f z (List.mem_cons_of_mem _ hz)) u' hu'
def rNoneInT : R2 := fun x y H Q => ∃ p xs, x = .non ∧ y = .ref p ∧ H p = some (.lst xs) ∧ (∀ z ∈ xs, NonT H z) ∧ Q (.bl (xs.any isNon)) H
theorem op_noneInT (hu : X.A.units + 64 < cLine) : OpR X (compareOp .In) rNoneInT := by
  intro pins s σ H x y v u Q I rx ry h
  obtain ⟨p, xs, rfl, rfl, hq, f, q⟩ := h
  cases rx
  cases ry
  obtain ⟨its, rv, hl, _⟩ := I.list (SqL.of hq)
  have hu1 : X.A.in1.units < cLine := by show X.A.units + 1 < cLine; omega
  refine SeqAt.in_listAt PySem.Numpy.isNone hl.isList (fun z hz => mem_nonT I hu1 rv f z (by simpa using hz)) ⟨.bl _, H, I, rfl, ?_⟩
  rw [show its.toArray.any PySem.Numpy.isNone = its.any PySem.Numpy.isNone by simp, any_nonT rv f]
  exact q
end
/-! ### multiply with a bound -/
/-- what stands for a product -/
def Near (n r : Nat) : Prop := (n < bigN → r = n) ∧ (bigN ≤ n → bigN ≤ r)
theorem Near.lt {n r : Nat} (h : Near n r) : r < bigN ↔ n < bigN := by
  constructor
  · intro z
    by_cases c : n < bigN
    · exact c
    · have := h.2 (by omega)
      omega
  · intro z
    rw [h.1 z]
    exact z
def spMulB : Sp := fun vs H Q _ => ∃ (a : Addr) (ns : List Nat), vs = [.ref a, .int big] ∧ H a = some (.lst (vints ns)) ∧ (∀ n ∈ ns, n < bigN) ∧ ∀ r : Nat, Near (prodN ns) r → Q (.int (r : Nat)) H
theorem bigN_bits : bigN < 2 ^ 13300 := by decide +kernel
theorem prod_zero : ∀ {ns : List Nat}, 0 ∈ ns → prodN ns = 0
  | n :: l, h => by
    show n * prodN l = 0
    rcases List.mem_cons.mp h with e | e
    · rw [← e, Nat.zero_mul]
    · rw [prod_zero e, Nat.mul_zero]
section
variable {P : Program} {w : World} {K : PySem.W.Frag} {mg : Str → Option Value} {base : Heap}
theorem ok_mulB {f : Addr} {fd : FuncData} (F : FunD K "multiply" "multiply" (defArgs sMul) (defBody sMul) (defScope sMul) [.non] [] f fd) : FnOk P w K mg base CX0 1 f fd ["factors", "bound"] spMulB := by
  refine F.ok scMul (fun vs H Q E h => ?_) (fun cdv A outer s H vs Q E hr h => ?_)
  · obtain ⟨a, ns, rfl, _⟩ := h
    rfl
  · obtain ⟨a, ns, rfl, ha, hb, q⟩ := h
    refine ⟨_, PSs.nox (pss_cons (ps_if (pt_cmpR op_in_seq pe_int (pv 0) rfl) (pss_one (ps_ret pe_int)) pss_nil)
      (pss_cons (ps_set (i := 2) scMul.nd rfl (Or.inl rfl) pe_int)
      (pss_cons (ps_for PassesOwn.never rfl (pi_list (pv 0)) (pg_name (i := 3) scMul.nd rfl (Or.inl rfl))
        (pss_cons (ps_if (PW.pt (pw_and (pt_cmpR op_notN (pv 1) pe_non (nomark _)) (pw_and1 (pt_cmpR op_ge (pv 2) (pv 1) (nomark _))))) (pss_one (ps_ret (pv 2))) pss_nil)
        (pss_one (ps_set (i := 2) scMul.nd rfl (Or.inl rfl) (pe_op op_mulW (pv 2) (pv 3))))))
      (pss_one (ps_ret (pv 2)))))), ?_⟩
    refine ⟨_, rfl, a, vints ns, rfl, .inl (SqL.of ha), rfl, flat_ints ns, _, rfl, ?_⟩
    show (if inV (.int 0) (vints ns) = true then _ else _)
    rw [in_zero]
    by_cases hz : 0 ∈ ns
    · have e : ns.any (· == 0) = true := List.any_eq_true.mpr ⟨0, hz, rfl⟩
      have z := prod_zero hz
      exact if_t e (q 0 ⟨fun _ => z.symm, fun y => by rw [z] at y; exact absurd y (by decide +kernel)⟩)
    · have e : ns.any (· == 0) = false := by
        cases h : ns.any (· == 0) with
        | false => rfl
        | true =>
          obtain ⟨x, hx, ex⟩ := List.any_eq_true.mp h
          exact absurd (by rw [← beq_iff_eq.mp ex]; exact hx) hz
      have pos : ∀ n ∈ ns, 1 ≤ n := fun n hn => Nat.pos_of_ne_zero fun z => hz (by rw [← z]; exact hn)
      refine if_f e ⟨_, rfl, a, rfl, ⟨_, SqL.of ha⟩, for_list (K := K) (a := a) (xs := vints ns) (fun i σ Hx => ∃ x3 : Option V, σ = [some (.ref a), some (.int big), some (.int (prodN (ns.take i) : Nat)), x3] ∧ Hx = H) ⟨none, rfl, rfl⟩ (fun i σ Hx _ ⟨_, _, e⟩ => by rw [e]; exact SqL.of ha) ?_ ?_⟩
      · rintro i y σ Hx hi ⟨x3, rfl, rfl⟩
        have hi' : (ns.map fun n : Nat => V.int (n : Int))[i]? = some y := hi
        rw [List.getElem?_map] at hi'
        obtain ⟨n, hn, rfl⟩ : ∃ n, ns[i]? = some n ∧ y = V.int (n : Int) := by
          cases h : ns[i]? with
          | none =>
            rw [h] at hi'
            cases hi'
          | some n =>
            rw [h] at hi'
            exact ⟨n, rfl, (Option.some.inj hi').symm⟩
        refine ⟨_, rfl, rfl, _, rfl, if_t rfl ⟨_, rfl, _, rfl, _, _, rfl, rfl, _, rfl, ?_⟩⟩
        by_cases hc : prodN (ns.take i) < bigN
        · refine if_f (decide_eq_false (by rw [big_nat]; omega)) ?_
          have b1 : ((prodN (ns.take i) : Nat) : Int).natAbs < 2 ^ 13300 := by
            rw [Int.natAbs_natCast]
            exact Nat.lt_trans hc bigN_bits
          have b2 : ((n : Nat) : Int).natAbs < 2 ^ 13300 := by
            rw [Int.natAbs_natCast]
            exact Nat.lt_trans (hb n (List.mem_of_getElem? hn)) bigN_bits
          refine ⟨_, rfl, _, rfl, _, _, rfl, rfl, wide_mul b1 b2 (by decide) (by decide) (by decide), some (.int (n : Int)), ?_, rfl⟩
          show [some (V.ref a), some (.int big), some (V.int (((prodN (ns.take i) : Nat) : Int) * (n : Int))), some (V.int (n : Int))] = _
          rw [prod_take hn, Int.natCast_mul]
        · refine if_t (decide_eq_true (by rw [big_nat]; omega)) ⟨_, rfl, q _ ⟨fun z => ?_, fun _ => by omega⟩⟩
          have z2 := prod_le pos i
          omega
      · rintro σ Hx ⟨x3, rfl, rfl⟩
        have el : ns.take (vints ns).length = ns := List.take_of_length_le (by unfold vints; rw [List.length_map]; exact Nat.le_refl _)
        rw [el]
        exact ⟨_, rfl, q _ ⟨fun _ => rfl, fun z => z⟩⟩
end
/-! ### each item as often as counted -/
def expand : List Nat → List Nat → List Nat
  | o :: os, n :: ns => List.replicate o n ++ expand os ns
  | _, _ => []
theorem expand_len : ∀ {os ns : List Nat}, os.length = ns.length → (expand os ns).length = os.sum
  | [], [], _ => rfl
  | o :: os, n :: ns, h => by
    rw [expand, List.length_append, List.length_replicate, List.sum_cons, expand_len (by simpa using h)]
theorem expand_mem : ∀ {os ns : List Nat} {x : Nat}, x ∈ expand os ns → x ∈ ns
  | o :: os, n :: ns, x, h => by
    rw [expand] at h
    rcases List.mem_append.mp h with z | z
    · rw [(List.mem_replicate.mp z).2]
      simp
    · exact List.mem_cons_of_mem _ (expand_mem z)
  | [], _, x, h => by cases h
  | _ :: _, [], x, h => by cases h
theorem expand_take : ∀ {os ns : List Nat} {i o n : Nat}, os[i]? = some o → ns[i]? = some n → expand (os.take (i + 1)) (ns.take (i + 1)) = expand (os.take i) (ns.take i) ++ List.replicate o n
  | o' :: os, n' :: ns, 0, o, n, h1, h2 => by
    obtain rfl : o' = o := Option.some.inj h1
    obtain rfl : n' = n := Option.some.inj h2
    rw [List.take_succ_cons, List.take_succ_cons, List.take_zero, List.take_zero, List.take_zero, List.take_zero]
    show List.replicate o' n' ++ [] = [] ++ List.replicate o' n'
    rw [List.append_nil, List.nil_append]
  | o' :: os, n' :: ns, i + 1, o, n, h1, h2 => by
    rw [List.take_succ_cons, List.take_succ_cons, List.take_succ_cons, List.take_succ_cons, expand, expand, expand_take (os := os) (ns := ns) (by simpa using h1) (by simpa using h2), List.append_assoc]
  | [], _, i, o, n, h1, _ => by simp at h1
  | _ :: _, [], i, o, n, _, h2 => by simp at h2
theorem vints_len (ns : List Nat) : (vints ns).length = ns.length := by unfold vints; rw [List.length_map]
theorem vints_cat (a b : List Nat) : vints (a ++ b) = vints a ++ vints b := by unfold vints; rw [List.map_append]
abbrev sRepeat : Stmt := top 16
def spRepeat : Sp := fun vs H Q _ => ∃ (a b : Addr) (xs : List V) (cs : List PyData) (ns : List Nat), vs = [.ref a, .ref b] ∧ H a = some (.tup xs) ∧ DatAll H xs cs ∧ (∀ c ∈ cs, countB c = true) ∧ cs.length ≤ 6 ∧ H b = some (.lst (vints ns)) ∧ ns.length = cs.length ∧
  ∀ p H', Same H H' → H p = none → H' p = some (.lst (vints (expand (cs.map fun e => (countOf e).toNat) ns))) → Q (.ref p) H'
theorem vint_get {ns : List Nat} {i : Nat} {y : V} (h : (vints ns)[i]? = some y) : ∃ n, ns[i]? = some n ∧ y = V.int (n : Int) := by
  unfold vints at h
  rw [List.getElem?_map] at h
  cases e : ns[i]? with
  | none =>
    rw [e] at h
    cases h
  | some n =>
    rw [e] at h
    exact ⟨n, rfl, (Option.some.inj h).symm⟩
section
variable {P : Program} {w : World} {K : PySem.W.Frag} {mg : Str → Option Value} {base : Heap}
theorem scRepeat : FnScope ["counts", "items", "pair", "item", "_"] ["counts", "items"] (defScope sRepeat) := ⟨rfl, rfl, rfl, by decide +kernel, rfl, by decide +kernel, by decide +kernel⟩
theorem ok_repeat {f : Addr} {fd : FuncData} (F : Fun K "repeated" "repeated" sRepeat f fd) (T : Nm mg) : FnOk P w K mg base CX0 1 f fd ["counts", "items"] spRepeat := by
  refine F.ok scRepeat (fun vs H Q E h => ?_) (fun cdv A outer s H vs Q E hr h => ?_)
  · obtain ⟨a, b, xs, cs, ns, rfl, _⟩ := h
    rfl
  · obtain ⟨a, b, xs, cs, ns, rfl, ha, hx, hc, h6, hb, hn, q⟩ := h
    have hl := hx.len
    refine ⟨_, pss_one (ps_ret (pe_lc2 (own := [("pair", 2), ("item", 3), ("_", 4)]) (vs1 := [4]) (g := gTup K 2 (gCons (gName 2) (gCons (gName 3) gNil))) (tt := tYes) (wi1 := iRng1 (tCons (tOp (rIxT K) (tVar 2) (tC (.int 1))) tNil)) (g1 := gName 4) (tt1 := tYes) rfl scRepeat.nd (ZM.pi_zip2 rfl T.zip (pa_cons (pv 0) (pa_cons (pv 1) pa_nil))) (blkOk_by (N := ["counts", "items", "pair", "item", "_"]) (sc := defScope sRepeat) (by decide +kernel)) (by decide)
          (fun _ _ _ _ _ => pg_tup rfl (pgs_cons (pg_name (i := 2) scRepeat.nd rfl (Or.inl rfl)) (pgs_cons (pg_name (i := 3) scRepeat.nd rfl (Or.inl rfl)) pgs_nil))) (fun _ _ _ _ _ => pts_nil) (fun _ _ _ _ _ => pi_range1 rfl T.range (pa_cons (pe_ix ix_tup (pv 2) pe_int (fun _ _ => rfl)) pa_nil))
          (fun _ _ _ _ _ => pg_name (i := 4) scRepeat.nd rfl (Or.inl rfl)) (fun _ _ _ _ _ => pts_nil) (fun _ _ _ _ _ => pv 3))), ?_⟩
    refine ⟨_, rfl, _, rfl, a, b, xs, vints ns, rfl, SqT.of ha, SqL.of hb, fun D nD => in_it (ZM.walk_zip2 (K := K) (a := a) (b := b) (xs := xs) (ys := vints ns) (by rw [vints_len, hn, hl])) (fun i Hx => Same H Hx ∧ Hx D = some (.lst (vints (expand ((cs.take i).map fun e => (countOf e).toNat) (ns.take i))))) ⟨same_new nD, by rw [upd_same]; rfl⟩ (fun i Hx _ ⟨S, _⟩ => ⟨SqT.of (S _ _ ha), SqL.of (S _ _ hb)⟩) ?_ ?_⟩
    · rintro i x Hx Hy hi ⟨S, hD⟩ ⟨U, y0, y1, rfl, nU, rfl, g0, g1⟩
      obtain ⟨c, hci, tc⟩ := hx.get g0
      have hc1 := hc c (List.mem_of_getElem? hci)
      obtain ⟨d0, m, rfl, _, m1, m4⟩ := count_cases hc1
      obtain ⟨n, hni, rfl⟩ := vint_get g1
      have SU := same_new (o := HO.tup [y0, V.int (n : Int)]) nU
      have hDU := SU _ _ hD
      cases tc with
      | @tup c2 zs _ hc2 hz =>
        cases hz with
        | cons z0 t0 =>
          cases t0 with
          | cons z1 t1 =>
            cases t1
            cases z1
            have hcU := SU _ _ (S _ _ hc2)
            have TU := S.trans SU
            have mem1 : (countOf (.tuple [d0, .int m])).toNat = m.toNat := rfl
            have et : expand ((cs.take (i + 1)).map fun e => (countOf e).toNat) (ns.take (i + 1)) = expand ((cs.take i).map fun e => (countOf e).toNat) (ns.take i) ++ List.replicate m.toNat n := by
              have z := expand_take (os := cs.map fun e => (countOf e).toNat) (ns := ns) (i := i) (o := m.toNat) (n := n) (by rw [List.getElem?_map, hci]; rfl) hni
              rw [← List.map_take, ← List.map_take] at z
              exact z
            have lb : (expand ((cs.take i).map fun e => (countOf e).toNat) (ns.take i)).length ≤ 6 * 400 := by
              have il : i < cs.length := (List.getElem?_eq_some_iff.mp hci).1
              rw [expand_len (by rw [List.length_map, List.length_take, List.length_take, hn])]
              have z := sum_le (b := 400) (l := (cs.take i).map fun e => (countOf e).toNat) fun x hx => by
                obtain ⟨e, he, rfl⟩ := List.mem_map.mp hx
                obtain ⟨_, m', rfl, _, _, m4'⟩ := count_cases (hc e (List.mem_of_mem_take he))
                show m'.toNat ≤ 400
                omega
              rw [List.length_map, List.length_take] at z
              refine Nat.le_trans z (Nat.mul_le_mul_right _ (by omega))
            generalize expand ((cs.take i).map fun e => (countOf e).toNat) (ns.take i) = ex at hDU lb et
            refine ⟨U, _, rfl, SqT.of upd_same, rfl, _, _, rfl, _, _, rfl, rfl, rfl, _, rfl, c2, _, _, _, rfl, rfl, SqT.of hcU, atI_nat (j := 1) rfl, ?_⟩
            refine ⟨m, rfl, by omega, by omega, in_it (walk_range (lo := 0) (n := m.toNat)) (fun j Hz => Same H Hz ∧ Hz D = some (.lst (vints (ex ++ List.replicate j n)))) ⟨TU, by rw [hDU, List.replicate_zero, List.append_nil]⟩ (fun _ _ _ _ => trivial) ?_ ?_⟩
            · rintro j y Hz Hz' hj ⟨S2, hD2⟩ ⟨rfl, rfl⟩
              refine ⟨rfl, _, rfl, _, hD2, ?_, grow nD S2, ?_⟩
              · rw [vints_len, List.length_append, List.length_replicate, sizeLine_eq]
                omega
              · rw [upd_same, List.replicate_succ', ← List.append_assoc, vints_cat (ex ++ List.replicate j n)]
                rfl
            · rintro Hz ⟨S2, hD2⟩
              refine ⟨S2, ?_⟩
              rw [hD2, et]
    · rintro Hx ⟨S, hD⟩
      refine q D Hx S nD ?_
      rw [hD, hl, List.take_length, ← hn, List.take_length]
end
end K6
set_option maxRecDepth 100000
set_option maxHeartbeats 8000000
namespace K6
open PySem PySem.Spec PyProof.Rows L2
/-! ### nested spaces: how often each part counts -/
def nestW (z : Str) : Bool := (z == "product") || ((z == "choice") || ((z == "power") || (z == "decorated")))
/-- no word of a nested space stands at its head -/
def leafD : PyData → Bool
  | .tuple (.str z :: _) => !nestW z
  | _ => true
theorem leaf_ne {z : Str} {ds : List PyData} (h : leafD (.tuple (.str z :: ds)) = true) : (z == "product") = false ∧ (z == "choice") = false ∧ (z == "power") = false ∧ (z == "decorated") = false := by
  have h' : (!nestW z) = true := h
  unfold nestW at h'
  rw [Bool.not_eq_true', Bool.or_eq_false_iff, Bool.or_eq_false_iff, Bool.or_eq_false_iff] at h'
  exact ⟨h'.1, h'.2.1, h'.2.2.1, h'.2.2.2⟩
theorem leaf_nest {d : PyData} (hp : partB d = true) (h : leafD d = true) : nestedD d = [] := by
  obtain ⟨z, ds, rfl, _⟩ := part_cases hp
  obtain ⟨a, b, c, e⟩ := leaf_ne h
  show (if (z == "product") = true then tupItems (at0 (.str z :: ds) 1) else if (z == "choice") = true then tupItems (at0 (.str z :: ds) 1)
              else if (z == "power") = true then [at0 (.str z :: ds) 2] else if (z == "decorated") = true then tupItems (at0 (.str z :: ds) 2) else []) = []
  rw [a, b, c, e]
  rfl
def headD (d : PyData) : PyData := at0 (tupItems d) 0
def occ (d : PyData) : List Nat :=
  if eqStr "power" (headD d) = true then [(intOf (at0 (tupItems d) 1)).toNat] else if eqStr "decorated" (headD d) = true then countsN (at0 (tupItems d) 1)
  else List.replicate (nestedD d).length 1
def jlN (d : PyData) (ls : List Nat) : Nat := (expand (occ d) ls).sum
def jsN (d : PyData) (ns : List Nat) : Nat :=
  if leafD d = true then leafN d else if eqStr "choice" (headD d) = true then (expand (occ d) ns).sum else
  prodN (expand (occ d) ns) * (if eqStr "decorated" (headD d) = true then (multN 0 1 (countsN (at0 (tupItems d) 1))).toNat else 1)
theorem nest_cases {d : PyData} (hp : partB d = true) : leafD d = true ∨ (∃ es, d = .tuple [.str "product", .tuple es] ∧ 1 ≤ es.length ∧ es.length ≤ 6) ∨
    (∃ es, d = .tuple [.str "choice", .tuple es] ∧ 1 ≤ es.length ∧ es.length ≤ 6) ∨ (∃ (k : Nat) (e : PyData), d = .tuple [.str "power", .int k, e] ∧ k ≤ 400) ∨
    (∃ cs es, d = .tuple [.str "decorated", .tuple cs, .tuple es] ∧ countsB (.tuple cs) = true ∧ es.length = cs.length ∧ cs.length ≤ 6) := by
  match d, hp with
  | .tuple (.str z :: ds), h =>
    have h' : (match kinds.lookup z with
      | some c => decide (ds.length + 1 = c.1) && c.2 (.str z :: ds)
      | none => false) = true := h
    by_cases a1 : z = "product"
    · subst a1
      have e2 : kinds.lookup ("product" : Str) = some (2, pRow) := by rfl
      rw [e2, Bool.and_eq_true] at h'
      match ds, of_decide_eq_true h'.1, h'.2 with
      | [d1], _, h2 =>
        obtain ⟨es, e, h1, h6⟩ := tupOf_len (show tupOf 1 6 d1 = true from h2)
        exact .inr (.inl ⟨es, by rw [e], by omega, by omega⟩)
    by_cases a2 : z = "choice"
    · subst a2
      have e2 : kinds.lookup ("choice" : Str) = some (2, pRow) := by rfl
      rw [e2, Bool.and_eq_true] at h'
      match ds, of_decide_eq_true h'.1, h'.2 with
      | [d1], _, h2 =>
        obtain ⟨es, e, h1, h6⟩ := tupOf_len (show tupOf 1 6 d1 = true from h2)
        exact .inr (.inr (.inl ⟨es, by rw [e], by omega, by omega⟩))
    by_cases a3 : z = "power"
    · subst a3
      have e2 : kinds.lookup ("power" : Str) = some (3, pPower) := by rfl
      rw [e2, Bool.and_eq_true] at h'
      match ds, of_decide_eq_true h'.1, h'.2 with
      | [d1, d2], _, h2 =>
        obtain ⟨i, e, i0, i4⟩ := btw_int (show btw 0 400 d1 = true from h2)
        obtain ⟨k, rfl⟩ : ∃ k : Nat, i = k := ⟨i.toNat, by omega⟩
        exact .inr (.inr (.inr (.inl ⟨k, d2, by rw [e], by omega⟩)))
    by_cases a4 : z = "decorated"
    · subst a4
      have e2 : kinds.lookup ("decorated" : Str) = some (3, pDeco) := by rfl
      rw [e2, Bool.and_eq_true] at h'
      match ds, of_decide_eq_true h'.1, h'.2 with
      | [d1, d2], _, h2 =>
        have h3 : (countsB d1 && tupOf ((tupItems d1).length : Int) ((tupItems d1).length : Int) d2) = true := h2
        rw [Bool.and_eq_true] at h3
        obtain ⟨es, e, l1, l2⟩ := tupOf_len h3.2
        have hc := h3.1
        unfold countsB at hc
        rw [Bool.and_eq_true, Bool.and_eq_true] at hc
        obtain ⟨cs, ec, _, h6⟩ := tupOf_len hc.1.1
        subst ec
        have el : (tupItems (.tuple cs)).length = cs.length := rfl
        exact .inr (.inr (.inr (.inr ⟨cs, es, by rw [e], h3.1, by omega, by omega⟩)))
    refine .inl ?_
    show (!nestW z) = true
    unfold nestW
    rw [beq_eq_false_iff_ne.mpr a1, beq_eq_false_iff_ne.mpr a2, beq_eq_false_iff_ne.mpr a3, beq_eq_false_iff_ne.mpr a4]
    rfl
theorem counts_all {cs : List PyData} (h : countsB (.tuple cs) = true) : (∀ c ∈ cs, countB c = true) ∧ (countsN (.tuple cs)).sum ≤ 400 := by
  refine ⟨?_, counts_nat h⟩
  unfold countsB at h
  rw [Bool.and_eq_true, Bool.and_eq_true] at h
  exact List.all_eq_true.mp h.1.2
/-- one entry for each nested space -/
theorem occ_len {d : PyData} (hp : partB d = true) : (occ d).length = (nestedD d).length ∨ leafD d = true := by
  rcases nest_cases hp with h | ⟨es, rfl, _⟩ | ⟨es, rfl, _⟩ | ⟨k, e, rfl, _⟩ | ⟨cs, es, rfl, hc, hl, _⟩
  · exact .inr h
  · exact .inl (by show (List.replicate es.length 1).length = es.length; rw [List.length_replicate])
  · exact .inl (by show (List.replicate es.length 1).length = es.length; rw [List.length_replicate])
  · exact .inl rfl
  · refine .inl ?_
    show (countsN (.tuple cs)).length = es.length
    unfold countsN
    rw [List.length_map, hl]
    rfl
theorem expand_ones : ∀ ns : List Nat, expand (List.replicate ns.length 1) ns = ns
  | [] => rfl
  | n :: l => by
    rw [List.length_cons, List.replicate_succ, expand, expand_ones l]
    rfl
/-- what is known of the sizes' dict -/
structure Sizes (P : Program) (w : World) (K : PySem.W.Frag) (mg : Str → Option Value) (base : Heap) (dS : Addr) (S : Addr → Option Sp) : Prop where
  g : mg "LEAF_SIZES" = some (.ref dS)
  k : ∃ es n, KDict K w dS es n
  held : ∀ f sp, S f = some sp → Held P w K mg base 9 f sp
  at_ : ∀ z len p, kinds.lookup z = some (len, p) → nestW z = false → ∃ (f : Addr) (sp : Sp), PySem.W.nsIn K dS z = some (some (.ref f)) ∧ S f = some sp ∧
    ∀ (H : Hp) (a : Addr) (xs : List V) (ds : List PyData) (Q : VK), H a = some (.tup xs) → DatAll H xs ds → ds.length = len → p ds = true → (∀ (H' : Hp) (n : Nat), Same H H' → n = (zOf z ds).toNat → n < bigN → Q (.int (n : Nat)) H') → sp [.ref a] H Q E0
abbrev sJSize : Stmt := top 15
def spJS : Sp := fun vs H Q _ => ∃ (v : V) (b : Addr) (d : PyData) (ns : List Nat), vs = [v, .ref b, .int big] ∧ Dat H v d ∧ partB d = true ∧ H b = some (.lst (vints ns)) ∧ ns.length = (nestedD d).length ∧ (∀ n ∈ ns, n < bigN) ∧ ∀ (H' : Hp) (r : Nat), Same H H' → Near (jsN d ns) r → Q (.int (r : Nat)) H'
def spJL : Sp := fun vs H Q _ => ∃ (v : V) (b : Addr) (d : PyData) (ns : List Nat), vs = [v, .ref b] ∧ Dat H v d ∧ partB d = true ∧ H b = some (.lst (vints ns)) ∧ ns.length = (nestedD d).length ∧ (∀ n ∈ ns, n ≤ 2000) ∧ ∀ H' : Hp, Same H H' → Q (.int ((if leafD d = true then 1 else jlN d ns : Nat) : Nat)) H'
theorem prodN_app : ∀ a b : List Nat, prodN (a ++ b) = prodN a * prodN b
  | [], b => by show prodN b = 1 * prodN b; rw [Nat.one_mul]
  | x :: a, b => by
    show x * prodN (a ++ b) = x * prodN a * prodN b
    rw [prodN_app a b, Nat.mul_assoc]
theorem vints_ints (ns : List Nat) : vints ns = (ns.map fun n : Nat => (n : Int)).map V.int := by
  unfold vints
  rw [List.map_map]
  rfl
theorem rep_flat (k n : Nat) : (List.replicate k (vints [n])).flatten = vints (List.replicate k n) := by
  induction k with
  | zero => rfl
  | succ k ih =>
    rw [List.replicate_succ, List.flatten_cons, ih, List.replicate_succ]
    rfl
section
variable {P : Program} {w : World} {K : PySem.W.Frag} {mg : Str → Option Value} {base : Heap}
theorem scJSize : FnScope ["space", "sizes", "bound", "kind", "count"] ["space", "sizes", "bound"] (defScope sJSize) := ⟨rfl, rfl, rfl, by decide +kernel, rfl, by decide +kernel, by decide +kernel⟩
end
end K6
set_option maxRecDepth 100000
set_option maxHeartbeats 4000000
namespace K6
open PySem PySem.Spec PyProof.Rows L2
/-! ### the mathematics of the closed formulas -/
theorem ch_sym {n k : Nat} (h : k ≤ n) : chN n (n - k) = chN n k := by
  rw [← ch_div h, ← ch_div (n := n) (k := n - k) (by omega), show n - (n - k) = k by omega, Nat.mul_comm]
theorem binom_of {n k : Nat} (h : k ≤ n) : fac n / fac k / fac (n - k) = chN n k := by
  rw [Nat.div_div_eq_div_mul, ch_div h]
theorem ch_below {n k : Nat} (h1 : 1 ≤ k) (h : k ≤ n) : chN n k = chN (n - 1) (k - 1) + (if k < n then chN (n - 1) k else 0) := by
  obtain ⟨m, rfl⟩ : ∃ m, n = m + 1 := ⟨n - 1, by omega⟩
  obtain ⟨j, rfl⟩ : ∃ j, k = j + 1 := ⟨k - 1, by omega⟩
  rw [ch_succ]
  show chN m j + chN m (j + 1) = chN m j + _
  by_cases e : j + 1 < m + 1
  · rw [if_pos e]
    rfl
  · rw [if_neg e, ch_out (show m < j + 1 by omega)]
/-- how many words -/
def facs (cs : List Nat) : Nat := prodN (cs.map fac)
theorem facs_pos (cs : List Nat) : 1 ≤ facs cs := by
  induction cs with
  | nil => exact Nat.le_refl 1
  | cons a l ih => exact Nat.mul_pos (fac_pos a) ih
theorem mult_nat : ∀ (cs : List Nat) (t w : Nat), ∃ m : Nat, multN t (w : Int) cs = ((m : Nat) : Int) ∧ m * (fac t * facs cs) = w * fac (t + cs.sum)
  | [], t, w => ⟨w, rfl, by
    show w * (fac t * 1) = w * fac (t + 0)
    rw [Nat.mul_one, Nat.add_zero]⟩
  | c :: cs, t, w => by
    obtain ⟨m, e, h⟩ := mult_nat cs (t + c) (w * chN (t + c) c)
    refine ⟨m, ?_, ?_⟩
    · show multN (t + c) ((w : Int) * PySem.W.mcComb ((t + c : Nat) : Int) (c : Int)) cs = _
      rw [comb_ch (by omega), ← Int.natCast_mul]
      exact e
    · have z := ch_fac (n := t + c) (k := c) (by omega)
      rw [show t + c - c = t by omega] at z
      have hp : 0 < chN (t + c) c := ch_pos (by omega)
      refine Nat.eq_of_mul_eq_mul_left hp ?_
      show chN (t + c) c * (m * (fac t * (fac c * facs cs))) = chN (t + c) c * (w * fac (t + (c + cs.sum)))
      have e1 : chN (t + c) c * (m * (fac t * (fac c * facs cs))) = m * ((chN (t + c) c * (fac c * fac t)) * facs cs) := by ac_rfl
      rw [e1, z, h, ← Nat.add_assoc]
      ac_rfl
theorem mult_div (cs : List Nat) : multN 0 1 cs = ((fac cs.sum / facs cs : Nat) : Int) := by
  obtain ⟨m, e, h⟩ := mult_nat cs 0 1
  rw [fac_zero, Nat.one_mul, Nat.one_mul, Nat.zero_add] at h
  have e' : multN 0 1 cs = ((m : Nat) : Int) := e
  rw [e', ← h, Nat.mul_div_cancel _ (facs_pos cs)]
theorem mult_all (cs : List Nat) : facs cs * (multN 0 1 cs).toNat = fac cs.sum := by
  obtain ⟨m, e, h⟩ := mult_nat cs 0 1
  rw [fac_zero, Nat.one_mul, Nat.one_mul, Nat.zero_add] at h
  have e' : multN 0 1 cs = ((m : Nat) : Int) := e
  rw [e', Int.toNat_natCast, ← h, Nat.mul_comm]
/-- two chains -/
theorem mult_two (a b : Nat) : (multN 0 1 [a, b]).toNat = chN (a + b) a := by
  have z := mult_all [a, b]
  have e : ([a, b] : List Nat).sum = a + b := by simp
  rw [e] at z
  have y := ch_fac (n := a + b) (k := a) (by omega)
  rw [show a + b - a = b by omega] at y
  have q : facs [a, b] = fac a * fac b := by
    show fac a * (fac b * 1) = _
    rw [Nat.mul_one]
  rw [q, ← y, Nat.mul_comm (chN _ _)] at z
  exact Nat.eq_of_mul_eq_mul_left (Nat.mul_pos (fac_pos a) (fac_pos b)) z
/-! matchings -/
theorem odds_succ (m : Nat) : prodN (odds (m + 1)) = prodN (odds m) * (1 + m * 2) := by
  unfold odds
  rw [List.range_succ, List.map_append, prodN_app]
  show _ * ((1 + m * 2) * 1) = _
  rw [Nat.mul_one]
theorem odds_fac : ∀ m : Nat, prodN (odds m) * 2 ^ m * fac m = fac (2 * m)
  | 0 => rfl
  | m + 1 => by
    have z := odds_fac m
    rw [odds_succ, Nat.pow_succ, fac_succ, show 2 * (m + 1) = (2 * m + 1) + 1 by omega, fac_succ, fac_succ, ← z]
    have e : 2 * m + 1 + 1 = 2 * (m + 1) := by omega
    have e2 : 1 + m * 2 = 2 * m + 1 := by omega
    rw [e, e2]
    ac_rfl
/-! walks -/
theorem walk_odd (lo hi s : Int) : ∀ (i : Nat) (h : Int), (h - s - (i : Int)) % 2 = 1 → walkW lo hi s i h = 0
  | 0, h, e => by
    unfold walkW
    exact if_neg fun z => by omega
  | i + 1, h, e => by
    unfold walkW
    split
    · rw [walk_odd lo hi s i (h + 1) (by omega), walk_odd lo hi s i (h - 1) (by omega)]
    · rfl
theorem walk_far (lo hi s : Int) : ∀ (i : Nat) (h : Int), (h - s > (i : Int) ∨ s - h > (i : Int)) → walkW lo hi s i h = 0
  | 0, h, e => by
    unfold walkW
    exact if_neg fun z => by omega
  | i + 1, h, e => by
    unfold walkW
    split
    · rw [walk_far lo hi s i (h + 1) (by omega), walk_far lo hi s i (h - 1) (by omega)]
    · rfl
/-- no limit is met -/
theorem walk_free {lo hi s : Int} : ∀ (i u : Nat), lo ≤ s - (i : Int) → s + (i : Int) ≤ hi → u ≤ i → walkW lo hi s i (s + 2 * (u : Int) - (i : Int)) = chN i u
  | 0, u, h1, h2, hu => by
    obtain rfl : u = 0 := by omega
    unfold walkW
    rw [if_pos (by omega)]
    rfl
  | i + 1, u, h1, h2, hu => by
    unfold walkW
    rw [if_pos (by omega)]
    cases u with
    | zero =>
      rw [walk_far lo hi s i (s + 2 * ((0 : Nat) : Int) - ((i + 1 : Nat) : Int) - 1) (.inr (by omega)), show s + 2 * ((0 : Nat) : Int) - ((i + 1 : Nat) : Int) + 1 = s + 2 * ((0 : Nat) : Int) - (i : Int) by omega, walk_free i 0 (by omega) (by omega) (by omega), ch_zero, ch_zero]
    | succ v =>
      have e2 : s + 2 * ((v + 1 : Nat) : Int) - ((i + 1 : Nat) : Int) - 1 = s + 2 * (v : Int) - (i : Int) := by omega
      have e1 : s + 2 * ((v + 1 : Nat) : Int) - ((i + 1 : Nat) : Int) + 1 = s + 2 * ((v + 1 : Nat) : Int) - (i : Int) := by omega
      rw [e1, e2, walk_free i v (by omega) (by omega) (by omega), ch_succ, Nat.add_comm]
      by_cases hv : v + 1 ≤ i
      · rw [walk_free i (v + 1) (by omega) (by omega) hv]
      · rw [walk_far lo hi s i (s + 2 * ((v + 1 : Nat) : Int) - (i : Int)) (.inl (by omega)), ch_out (show i < v + 1 by omega)]
/-- never below the start; what is counted can still come back -/
theorem walk_above {hi s : Int} (H : Nat) (hh : s + (H : Int) ≤ hi) : ∀ (i u : Nat), i ≤ 2 * u → u ≤ i → u ≤ H → walkW s hi s i (s + 2 * (u : Int) - (i : Int)) + chN i (u + 1) = chN i u
  | 0, u, h1, h2, h3 => by
    obtain rfl : u = 0 := by omega
    unfold walkW
    rw [if_pos (by omega)]
    rfl
  | i + 1, u, h1, h2, h3 => by
    obtain ⟨v, rfl⟩ : ∃ v, u = v + 1 := ⟨u - 1, by omega⟩
    have e2 : s + 2 * ((v + 1 : Nat) : Int) - ((i + 1 : Nat) : Int) - 1 = s + 2 * (v : Int) - (i : Int) := by omega
    have e1 : s + 2 * ((v + 1 : Nat) : Int) - ((i + 1 : Nat) : Int) + 1 = s + 2 * ((v + 1 : Nat) : Int) - (i : Int) := by omega
    unfold walkW
    rw [if_pos (by omega), e1, e2, ch_succ, ch_succ]
    have a : walkW s hi s i (s + 2 * ((v + 1 : Nat) : Int) - (i : Int)) + chN i (v + 1 + 1) = chN i (v + 1) := by
      by_cases hv : v + 1 ≤ i
      · exact walk_above H hh i (v + 1) (by omega) hv h3
      · rw [walk_far s hi s i (s + 2 * ((v + 1 : Nat) : Int) - (i : Int)) (.inl (by omega)), ch_out (show i < v + 1 + 1 by omega), ch_out (show i < v + 1 by omega)]
    have b : walkW s hi s i (s + 2 * (v : Int) - (i : Int)) + chN i (v + 1) = chN i v := by
      by_cases hv : i ≤ 2 * v
      · exact walk_above H hh i v hv (by omega) (by omega)
      · have ez : walkW s hi s i (s + 2 * (v : Int) - (i : Int)) = 0 := by
          cases i with
          | zero => omega
          | succ i =>
            unfold walkW
            exact if_neg fun z => by omega
        rw [ez, Nat.zero_add]
        have y := ch_sym (n := i) (k := v) (by omega)
        rw [← y]
        congr 1
        omega
    omega
theorem catalan (H : Nat) : chN (2 * H) H - chN (2 * H) (H + 1) = chN (2 * H) H / (H + 1) := by
  have key : chN (2 * H) (H + 1) * (H + 1) = chN (2 * H) H * H := by
    cases H with
    | zero => rfl
    | succ m =>
      have z1 := ch_fac (n := 2 * (m + 1)) (k := m + 1) (by omega)
      have z2 := ch_fac (n := 2 * (m + 1)) (k := m + 1 + 1) (by omega)
      rw [show 2 * (m + 1) - (m + 1) = m + 1 by omega] at z1
      rw [show 2 * (m + 1) - (m + 1 + 1) = m by omega] at z2
      have y : chN (2 * (m + 1)) (m + 1 + 1) * (m + 1 + 1) * (fac (m + 1) * fac m) = chN (2 * (m + 1)) (m + 1) * (m + 1) * (fac (m + 1) * fac m) := by
        have a1 : chN (2 * (m + 1)) (m + 1 + 1) * (m + 1 + 1) * (fac (m + 1) * fac m) = fac (2 * (m + 1)) := by
          rw [← z2, fac_succ (m + 1)]
          ac_rfl
        have a2 : chN (2 * (m + 1)) (m + 1) * (m + 1) * (fac (m + 1) * fac m) = fac (2 * (m + 1)) := by
          rw [← z1, fac_succ m]
          ac_rfl
        rw [a1, a2]
      exact Nat.eq_of_mul_eq_mul_right (Nat.mul_pos (fac_pos _) (fac_pos _)) y
  have e : chN (2 * H) H = (chN (2 * H) H - chN (2 * H) (H + 1)) * (H + 1) := by
    rw [Nat.sub_mul, key, ← Nat.mul_sub]
    rw [show H + 1 - H = 1 by omega, Nat.mul_one]
  generalize chN (2 * H) H - chN (2 * H) (H + 1) = X at e ⊢
  rw [e, Nat.mul_div_cancel _ (Nat.succ_pos H)]
theorem walk_catalan {hi s : Int} {H : Nat} (hh : s + (H : Int) ≤ hi) : walkW s hi s (2 * H) s = chN (2 * H) H / (H + 1) := by
  have z := walk_above H hh (2 * H) H (Nat.le_refl _) (by omega) (Nat.le_refl _)
  rw [show s + 2 * (H : Int) - ((2 * H : Nat) : Int) = s by omega] at z
  rw [← catalan H]
  omega
/-! permutations -/
def manyP : Nat → Nat
  | 0 => 1
  | 1 => 0
  | k + 2 => (k + 1) * (manyP (k + 1) + manyP k)
def facT (n : Nat) : Nat := prodN ((List.range n).map (· + 1))
theorem fac_T : ∀ n : Nat, fac n = facT n
  | 0 => rfl
  | n + 1 => by
    unfold facT
    rw [fac_succ, List.range_succ, List.map_append, prodN_app, fac_T n]
    show _ = _ * ((n + 1) * 1)
    rw [Nat.mul_one]
    rfl
theorem perm_one {n : Nat} (h : 1 ≤ n) : permN n 1 2 = ((fac n - fac (n - 1) : Nat) : Int) := by
  obtain ⟨m, rfl⟩ : ∃ m, n = m + 1 := ⟨n - 1, by omega⟩
  rw [perm_diff m 0, perm_zero, perm_zero]
  have z : fac m ≤ fac (m + 1) := fac_mono (by omega)
  show _ = ((fac (m + 1) - fac m : Nat) : Int)
  omega
/-- how many permutations of n move the first m -/
def drow : Nat → List Int
  | 0 => [1]
  | n + 1 => (drow n).foldl (fun (r : List Int) x => r ++ [r.getLastD 0 - x]) [((fac (n + 1) : Nat) : Int)]
theorem perm_all : ∀ n : Fin 61, permN n.val n.val (n.val + 1) = ((manyP n.val : Nat) : Int) := by decide +kernel
/-! strings -/
theorem str_one {ms : List PyData} {m : Nat} (h : ∀ g : Int → Nat, mvS g ms 0 = m * g 0) : ∀ n : Nat, strT ms n 0 = m ^ n
  | 0 => rfl
  | n + 1 => by
    show mvS (strT ms n) ms 0 = _
    rw [h, str_one h n, Nat.pow_succ, Nat.mul_comm]
def fibN : Nat → Nat
  | 0 => 1
  | 1 => 2
  | k + 2 => fibN (k + 1) + fibN k
def apartM : List PyData := [.tuple [.int 0, .str "a", .int 1], .tuple [.int 0, .str "b", .int 0], .tuple [.int 1, .str "b", .int 0]]
theorem apart_mv (g : Int → Nat) : mvS g apartM 0 = g 0 + g 1 ∧ mvS g apartM 1 = g 0 := by
  refine ⟨?_, ?_⟩
  · show 0 + (g 0 + (g 1 + 0)) = _
    omega
  · show g 0 + (0 + (0 + 0)) = _
    omega
theorem apart_two : ∀ n : Nat, strT apartM n 0 + strT apartM n 1 = fibN n ∧ strT apartM (n + 1) 0 + strT apartM (n + 1) 1 = fibN (n + 1)
  | 0 => ⟨rfl, rfl⟩
  | n + 1 => by
    obtain ⟨a, b⟩ := apart_two n
    refine ⟨b, ?_⟩
    have s0 : ∀ i, strT apartM (i + 1) 0 = strT apartM i 0 + strT apartM i 1 := fun i => (apart_mv _).1
    have s1 : ∀ i, strT apartM (i + 1) 1 = strT apartM i 0 := fun i => (apart_mv _).2
    show _ = fibN (n + 1) + fibN n
    rw [s0 (n + 1), s1 (n + 1), b, s0 n, a]
theorem apart_size (n : Nat) : strN apartM [.int 0, .int 1] n = fibN n := by
  show strT apartM n 0 + (strT apartM n 1 + 0) = _
  rw [Nat.add_zero, (apart_two n).1]
end K6
set_option maxRecDepth 100000
set_option maxHeartbeats 8000000
namespace K6
open PySem PySem.Spec PyProof.Rows L2
/-! ### joined_size -/
theorem near_of {n r : Nat} (h : n = r) : Near n r := ⟨fun _ => h.symm, fun z => by omega⟩
section
variable {P : Program} {w : World} {K : PySem.W.Frag} {mg : Str → Option Value} {base : Heap}
theorem ok_jsize {f fR fW fMt : Addr} {fd fdR fdW fdMt : FuncData} {dS : Addr} {S : Addr → Option Sp} (F : FunD K "joined_size" "joined_size" (defArgs sJSize) (defBody sJSize) (defScope sJSize) [.non] [] f fd) (T : Nm mg) (Z : Sizes P w K mg base dS S) (U : MulOk P w K mg base) (b2 : L2.Binds K U.fd ["factors", "bound"] [])
    (R : DefOk K mg "repeated" sRepeat ["counts", "items"] fR fdR) (W : DefOk K mg "word_size" sWordSize ["space"] fW fdW) (M : DefOk K mg "multinomial" sMulti ["counts"] fMt fdMt) (c : mg "comb" = some (.builtin "math.comb")) : FnOk P w K mg base CX0 10 f fd ["space", "sizes", "bound"] spJS := by
  have GR : FnOk P w K mg base CX0 1 fR fdR ["counts", "items"] spRepeat := ok_repeat R.F T
  have GU : FnOk P w K mg base CX0 1 U.f U.fd ["factors", "bound"] spMulB := ok_mulB U.F
  have GW : FnOk P w K mg base CX0 2 fW fdW ["space"] spWordSize := ok_wordsize W.F M c
  obtain ⟨es0, n0, D⟩ := Z.k
  refine F.ok scJSize (fun vs H Q E h => ?_) (fun cdv A outer s H vs Q E hr h => ?_)
  · obtain ⟨v, b, d, ns, rfl, _⟩ := h
    rfl
  · obtain ⟨v, b, d, ns, rfl, hd, hp, hb, hn, hB, q⟩ := h
    have hu0 := hr.units0
    have hr1 : Room 1 _ := hr.mono (by decide)
    have hr2 : Room 2 _ := hr.mono (by decide)
    refine ⟨_, PSs.nox (pss_cons (ps_set (i := 3) scJSize.nd rfl (Or.inl rfl) (pe_ix ix_tup (pv 0) pe_int (fun _ _ => rfl)))
      (pss_cons (ps_if (pt_cmpR (op_eqStr hu0) (pv 3) pe_str (nomark _))
        (pss_one (ps_ret (pe_call GU hr1 rfl U.g U.F.kp b2 .nil pass0 (pa_cons (pv 1) (pa_cons (pv 2) pa_nil)))))
        pss_nil)
      (pss_cons (ps_if (pt_cmpR (op_eqStr hu0) (pv 3) pe_str (nomark _))
        (pss_one (ps_ret (pe_callB (cr_sum rfl) (by rfl) T.sum boot_sum (pa_cons (pv 1) pa_nil))))
        pss_nil)
      (pss_cons (ps_if (pt_cmpR (op_eqStr hu0) (pv 3) pe_str (nomark _))
        (pss_one (ps_ret (pe_call GU hr1 rfl U.g U.F.kp b2 .nil pass0 (pa_cons (pe_op op_rep (pv 1) (pe_ix ix_tup (pv 0) pe_int (fun _ _ => rfl))) (pa_cons (pv 2) pa_nil)))))
        pss_nil)
      (pss_cons (ps_if (pt_cmpR (op_eqStr hu0) (pv 3) pe_str (nomark _))
        (pss_one (ps_ret (pe_call GU hr1 rfl U.g U.F.kp b2 .nil pass0 (pa_cons (pe_op op_cat (pe_lst (pa_cons (pe_call GW hr2 rfl W.g W.F.kp W.b .nil pass0 (pa_cons (pv 0) pa_nil)) pa_nil)) (pe_call GR hr1 rfl R.g R.F.kp R.b .nil pass0 (pa_cons (pe_ix ix_tup (pv 0) pe_int (fun _ _ => rfl)) (pa_cons (pv 1) pa_nil)))) (pa_cons (pv 2) pa_nil)))))
        pss_nil)
      (pss_cons (ps_set (i := 4) scJSize.nd rfl (Or.inl rfl) (pe_ix (ix_kd (X := _) D) (pe_glob (v := .ref dS) rfl Z.g rfl) (pv 3) (fun _ _ => rfl)))
      (pss_one (ps_ret (pe_callA (i := 4) (S := S) Z.held hr rfl (Or.inl rfl) (pa_cons (pv 0) pa_nil)))))))))), ?_⟩
    have head : ∀ (z : Str) (ds : List PyData), d = .tuple (.str z :: ds) → ∃ (a : Addr) (xs : List V), v = .ref a ∧ z.length ≤ 1000 ∧ H a = some (.tup (.str z :: xs)) ∧ DatAll H (.str z :: xs) (.str z :: ds) := fun z ds e => by
      subst e
      cases hd with
      | @tup a xs _ ha hx =>
        cases hx with
        | @cons x0 xs' _ _ c0 cs =>
          cases c0 with
          | str _ hz => exact ⟨a, xs', rfl, hz, ha, .cons (.str _ hz) cs⟩
    rcases nest_cases hp with hl | ⟨es, rfl, e1, e6⟩ | ⟨es, rfl, e1, e6⟩ | ⟨k, e, rfl, k4⟩ | ⟨cs, es, rfl, hc, hl, hc6⟩
    · obtain ⟨z, ds, rfl, _⟩ := part_cases hp
      obtain ⟨a, xs, rfl, hz, ha, hx⟩ := head _ _ rfl
      obtain ⟨b1, b2, b3, b4⟩ := leaf_ne hl
      have hp' : (match kinds.lookup z with
        | some c => decide (ds.length + 1 = c.1) && c.2 (.str z :: ds)
        | none => false) = true := hp
      cases hk : kinds.lookup z with
      | none =>
        rw [hk] at hp'
        cases hp'
      | some c =>
        obtain ⟨len, p⟩ := c
        rw [hk, Bool.and_eq_true] at hp'
        have hlen : ds.length + 1 = len := of_decide_eq_true hp'.1
        have hpp : p (.str z :: ds) = true := hp'.2
        have hn : nestW z = false := by
          unfold nestW
          rw [b1, b2, b3, b4]
          rfl
        obtain ⟨fz, sp, e1, e2, e3⟩ := Z.at_ z len p hk hn
        refine ⟨_, rfl, a, _, _, _, rfl, rfl, SqT.of ha, atI_nat (j := 0) rfl, ?_⟩
        refine ⟨_, rfl, .str z, "product", .str z hz, rfl, _, rfl, if_f b1 ?_⟩
        refine ⟨_, rfl, .str z, "choice", .str z hz, rfl, _, rfl, if_f b2 ?_⟩
        refine ⟨_, rfl, .str z, "power", .str z hz, rfl, _, rfl, if_f b3 ?_⟩
        refine ⟨_, rfl, .str z, "decorated", .str z hz, rfl, _, rfl, if_f b4 ?_⟩
        refine ⟨_, rfl, z, .ref fz, .ref fz, rfl, rfl, e1, rfl, ?_⟩
        refine ⟨fz, sp, rfl, e2, _, rfl, e3 H a (.str z :: xs) (.str z :: ds) _ ha hx (by rw [List.length_cons]; exact hlen) hpp fun H' n S' en _ => q H' n S' ?_⟩
        refine near_of ?_
        unfold jsN
        rw [if_pos hl, en]
        rfl
    · obtain ⟨a, xs, rfl, hz, ha, hx⟩ := head _ _ rfl
      refine ⟨_, rfl, a, _, _, _, rfl, rfl, SqT.of ha, atI_nat (j := 0) rfl, ?_⟩
      refine ⟨_, rfl, .str "product", "product", .str _ hz, rfl, _, rfl, if_t rfl ?_⟩
      refine ⟨_, rfl, _, rfl, b, ns, rfl, hb, hB, fun r hr' => q H r (Same.refl H) ?_⟩
      have e2 : jsN (.tuple [.str "product", .tuple es]) ns = prodN ns := by
        show prodN (expand (List.replicate es.length 1) ns) * 1 = _
        rw [show es.length = ns.length from hn.symm, expand_ones, Nat.mul_one]
      rw [e2]
      exact hr'
    · obtain ⟨a, xs, rfl, hz, ha, hx⟩ := head _ _ rfl
      refine ⟨_, rfl, a, _, _, _, rfl, rfl, SqT.of ha, atI_nat (j := 0) rfl, ?_⟩
      refine ⟨_, rfl, .str "choice", "product", .str _ hz, rfl, _, rfl, if_f rfl ?_⟩
      refine ⟨_, rfl, .str "choice", "choice", .str _ hz, rfl, _, rfl, if_t rfl ?_⟩
      refine ⟨_, rfl, b, ns.map fun n : Nat => (n : Int), rfl, by rw [← vints_ints]; exact SqL.of hb, ?_⟩
      rw [sum_cast]
      refine q H _ (Same.refl H) (near_of ?_)
      show (expand (List.replicate es.length 1) ns).sum = _
      rw [show es.length = ns.length from hn.symm, expand_ones]
    · obtain ⟨a, xs, rfl, hz, ha, hx⟩ := head _ _ rfl
      refine ⟨_, rfl, a, _, _, _, rfl, rfl, SqT.of ha, atI_nat (j := 0) rfl, ?_⟩
      refine ⟨_, rfl, .str "power", "product", .str _ hz, rfl, _, rfl, if_f rfl ?_⟩
      refine ⟨_, rfl, .str "power", "choice", .str _ hz, rfl, _, rfl, if_f rfl ?_⟩
      refine ⟨_, rfl, .str "power", "power", .str _ hz, rfl, _, rfl, if_t rfl ?_⟩
      match ns, hn with
      | [n], _ =>
        cases hx with
        | cons _ hx =>
          cases hx with
          | cons t1 hx =>
            cases t1
            refine ⟨_, rfl, _, rfl, a, _, _, _, rfl, rfl, SqT.of ha, atI_nat (j := 1) rfl, b, k, _, rfl, rfl, hb, by omega, by omega, ?_, fun p np => ?_⟩
            · show 1 * ((k : Nat) : Int).toNat ≤ sizeLine
              rw [sizeLine_eq]
              omega
            · rw [Int.toNat_natCast, rep_flat]
              refine ⟨_, rfl, p, List.replicate k n, rfl, upd_same, fun m hm => ?_, fun r hr' => q _ r (same_new np) ?_⟩
              · rw [(List.mem_replicate.mp hm).2]
                exact hB n (by simp)
              · have e2 : jsN (.tuple [.str "power", .int (k : Nat), e]) [n] = prodN (List.replicate k n) := by
                  show prodN (expand [((k : Nat) : Int).toNat] [n]) * 1 = _
                  rw [Int.toNat_natCast, Nat.mul_one]
                  show prodN (List.replicate k n ++ []) = _
                  rw [List.append_nil]
                rw [e2]
                exact hr'
    · obtain ⟨a, xs, rfl, hz, ha, hx⟩ := head _ _ rfl
      refine ⟨_, rfl, a, _, _, _, rfl, rfl, SqT.of ha, atI_nat (j := 0) rfl, ?_⟩
      refine ⟨_, rfl, .str "decorated", "product", .str _ hz, rfl, _, rfl, if_f rfl ?_⟩
      refine ⟨_, rfl, .str "decorated", "choice", .str _ hz, rfl, _, rfl, if_f rfl ?_⟩
      refine ⟨_, rfl, .str "decorated", "power", .str _ hz, rfl, _, rfl, if_f rfl ?_⟩
      refine ⟨_, rfl, .str "decorated", "decorated", .str _ hz, rfl, _, rfl, if_t rfl ?_⟩
      refine ⟨_, rfl, a, _, [.str "decorated", .tuple cs, .tuple es], rfl, ha, hx, by simp, hc, fun H1 S1 w1 w2 => ?_⟩
      have eW : zWord [.str "decorated", .tuple cs, .tuple es] = multN 0 1 (countsN (.tuple cs)) := rfl
      rw [eW] at w1 w2 ⊢
      obtain ⟨wn, ew, hw1, hwb⟩ := zb_counts hc
      rw [ew]
      have hwb' : wn < bigN := by
        rw [big_nat] at hwb
        omega
      cases hx with
      | cons _ hx =>
        cases hx with
        | @cons x1 _ _ _ t1 hx =>
          cases t1 with
          | @tup a2 ys _ ha2 hy =>
            have hns : ns.length = cs.length := by
              rw [← hl]
              exact hn
            refine ⟨(by show 1 ≤ sizeLine; decide), fun l nl => ?_⟩
            have Sl := S1.trans (same_new (o := HO.lst [V.int (wn : Int)]) nl)
            have hl1 : upd H1 l (.lst [V.int (wn : Int)]) l = some (.lst (vints [wn])) := upd_same
            generalize upd H1 l (.lst [V.int (wn : Int)]) = H2 at Sl hl1 ⊢
            refine ⟨_, rfl, a, _, _, _, rfl, rfl, SqT.of (Sl _ _ ha), atI_nat (j := 1) rfl, _, rfl, a2, b, ys, cs, ns, rfl, Sl _ _ ha2, hy.same Sl, (counts_all hc).1, hc6, Sl _ _ hb, hns, fun r H3 S3 nr hr2 => ?_⟩
            have lb : (expand (cs.map fun e => (countOf e).toNat) ns).length ≤ 400 := by
              rw [expand_len (by rw [List.length_map, hns])]
              exact (counts_all hc).2
            refine ⟨l, r, _, _, rfl, rfl, S3 _ _ hl1, hr2, ?_, fun p np => ?_⟩
            · rw [vints_len, vints_len, sizeLine_eq]
              show 1 + _ ≤ _
              omega
            · rw [← vints_cat]
              refine ⟨_, rfl, p, [wn] ++ expand (cs.map fun e => (countOf e).toNat) ns, rfl, upd_same, fun m hm => ?_, fun r' hr' => q _ r' ((Sl.trans S3).trans (same_new np)) ?_⟩
              · rcases List.mem_append.mp hm with z | z
                · rw [List.mem_singleton.mp z]
                  exact hwb'
                · exact hB m (expand_mem z)
              · have e2 : jsN (.tuple [.str "decorated", .tuple cs, .tuple es]) ns = prodN ([wn] ++ expand (cs.map fun e => (countOf e).toNat) ns) := by
                  show prodN (expand (countsN (.tuple cs)) ns) * (multN 0 1 (countsN (.tuple cs))).toNat = _
                  rw [ew, Int.toNat_natCast, prodN_app, Nat.mul_comm]
                  show wn * _ = wn * 1 * _
                  rw [Nat.mul_one]
                  rfl
                rw [e2]
                exact hr'
end
end K6
set_option maxRecDepth 100000
set_option maxHeartbeats 8000000
namespace K6
open PySem PySem.Spec PyProof.Rows L2
/-! ### measure -/
def allS {α : Type} : List (Option α) → Option (List α)
  | [] => some []
  | none :: _ => none
  | some x :: r => (allS r).map (x :: ·)
theorem allS_some {α : Type} : ∀ {l : List (Option α)} {r : List α}, allS l = some r → l = r.map some
  | [], r, h => by
    obtain rfl := Option.some.inj h
    rfl
  | none :: _, r, h => by cases h
  | some x :: l, r, h => by
    rw [allS] at h
    cases e : allS l with
    | none =>
      rw [e] at h
      cases h
    | some r' =>
      rw [e] at h
      obtain rfl := Option.some.inj h
      rw [List.map_cons, allS_some e]
theorem allS_map {α : Type} : ∀ r : List α, allS (r.map some) = some r
  | [] => rfl
  | x :: r => by
    rw [List.map_cons, allS, allS_map r]
    rfl
theorem allS_none {α : Type} : ∀ {l : List (Option α)}, allS l = none → none ∈ l
  | none :: _, _ => by simp
  | some x :: l, h => by
    rw [allS] at h
    cases e : allS l with
    | none => exact List.mem_cons_of_mem _ (allS_none e)
    | some r =>
      rw [e] at h
      cases h
theorem allS_mem {α : Type} {l : List (Option α)} (h : none ∈ l) : allS l = none := by
  cases e : allS l with
  | none => rfl
  | some r =>
    rw [allS_some e] at h
    obtain ⟨x, _, hx⟩ := List.mem_map.mp h
    cases hx
/-- leaves and size, of a part whose nested spaces are well formed -/
def msN : Nat → PyData → Option (Nat × Nat)
  | 0, _ => none
  | k + 1, d => match allS ((nestedD d).map (msN k)) with
    | none => none
    | some l => if (2000 < (if leafD d = true then 1 else jlN d (l.map (·.1)))) ∨ bigN ≤ jsN d (l.map (·.2)) then none
      else some ((if leafD d = true then 1 else jlN d (l.map (·.1))), jsN d (l.map (·.2)))
def wfT : Nat → PyData → Bool
  | 0, _ => false
  | k + 1, d => partB d && (nestedD d).all (wfT k)
theorem ms_bd : ∀ {k : Nat} {d : PyData} {p : Nat × Nat}, msN k d = some p → p.1 ≤ 2000 ∧ p.2 < bigN
  | 0, _, _, h => by cases h
  | k + 1, d, p, h => by
    rw [msN] at h
    cases e : allS ((nestedD d).map (msN k)) with
    | none =>
      rw [e] at h
      cases h
    | some l =>
      rw [e] at h
      dsimp only at h
      generalize (if leafD d = true then 1 else jlN d (l.map (·.1))) = L at h
      generalize jsN d (l.map (·.2)) = S at h
      by_cases c : (2000 < L) ∨ bigN ≤ S
      · rw [if_pos c] at h
        cases h
      · rw [if_neg c] at h
        obtain rfl := Option.some.inj h
        show L ≤ 2000 ∧ S < bigN
        exact ⟨by omega, by omega⟩
/-- what stands for a measure -/
inductive Ms (H : Hp) : List V → List (Option (Nat × Nat)) → Prop
  | nil : Ms H [] []
  | non {zs : List V} {os : List (Option (Nat × Nat))} : Ms H zs os → Ms H (.non :: zs) (none :: os)
  | tup {a : Addr} {l s : Nat} {zs : List V} {os : List (Option (Nat × Nat))} : H a = some (.tup [.int (l : Nat), .int (s : Nat)]) → Ms H zs os → Ms H (.ref a :: zs) (some (l, s) :: os)
theorem Ms.mono {H H' : Hp} (S : ∀ a ts, H a = some (.tup ts) → H' a = some (.tup ts)) : ∀ {zs : List V} {os : List (Option (Nat × Nat))}, Ms H zs os → Ms H' zs os
  | _, _, .nil => .nil
  | _, _, .non t => .non (t.mono S)
  | _, _, .tup h t => .tup (S _ _ h) (t.mono S)
theorem Ms.app {H : Hp} : ∀ {zs zs' : List V} {os os' : List (Option (Nat × Nat))}, Ms H zs os → Ms H zs' os' → Ms H (zs ++ zs') (os ++ os')
  | _, _, _, _, .nil, u => u
  | _, _, _, _, .non t, u => .non (t.app u)
  | _, _, _, _, .tup h t, u => .tup h (t.app u)
theorem Ms.len {H : Hp} : ∀ {zs : List V} {os : List (Option (Nat × Nat))}, Ms H zs os → zs.length = os.length
  | _, _, .nil => rfl
  | _, _, .non t => congrArg (· + 1) t.len
  | _, _, .tup _ t => congrArg (· + 1) t.len
theorem Ms.nonT {H : Hp} : ∀ {zs : List V} {os : List (Option (Nat × Nat))}, Ms H zs os → ∀ z ∈ zs, NonT H z
  | _, _, .nil, z, h => by cases h
  | _, _, .non t, z, h => by
    rcases List.mem_cons.mp h with e | e
    · exact .inl e
    · exact t.nonT z e
  | _, _, .tup h t, z, hz => by
    rcases List.mem_cons.mp hz with e | e
    · exact .inr ⟨_, _, e, h⟩
    · exact t.nonT z e
theorem Ms.any {H : Hp} : ∀ {zs : List V} {os : List (Option (Nat × Nat))}, Ms H zs os → zs.any isNon = (allS os).isNone
  | _, _, .nil => rfl
  | _, _, .non t => rfl
  | _, _, .tup (l := l) (s := s) (os := os) h t => by
    rw [List.any_cons, t.any, allS]
    cases allS os <;> rfl
theorem Ms.get {H : Hp} : ∀ {zs : List V} {ps : List (Nat × Nat)} {i : Nat} {z : V}, Ms H zs (ps.map some) → zs[i]? = some z → ∃ (a : Addr) (p : Nat × Nat), z = .ref a ∧ ps[i]? = some p ∧ H a = some (.tup [.int (p.1 : Nat), .int (p.2 : Nat)])
  | _, [], i, z, .nil, h => by simp at h
  | _, p :: ps, 0, z, .tup ha t, h => by
    obtain rfl := Option.some.inj h
    exact ⟨_, p, rfl, rfl, ha⟩
  | _, p :: ps, i + 1, z, .tup ha t, h => by
    obtain ⟨a, q, e1, e2, e3⟩ := t.get (i := i) (z := z) (by simpa using h)
    exact ⟨a, q, e1, by simpa using e2, e3⟩
/-- [e(x) for x in a list], the values known -/
theorem lc_valsL {K : PySem.W.Frag} {H : Hp} {a : Addr} {xs : List V} {g : TG} {te : TE} {vs : List Nat} {σ : L2.St} {D : Addr} {Qd : Hp → Prop} (out : Nat → V) (ha : H a = some (.lst xs)) (hz : xs.length ≤ 1000000) (nD : H D = none)
    (hs : ∀ (i : Nat) (x : V) (Hx : Hp), xs[i]? = some x → Same H Hx → ∀ R : VK, (∀ H', Same Hx H' → R (out i) H') → g x (wipe σ vs) Hx fun σ2 H2 => wipe σ2 vs = wipe σ vs ∧ te σ2 H2 R)
    (mono : ∀ (x : V) (Hx : Hp) (A B : L2.St → Hp → Prop), (∀ σ2 H2, A σ2 H2 → B σ2 H2) → g x (wipe σ vs) Hx A → g x (wipe σ vs) Hx B)
    (hd : ∀ Hx, Same H Hx → Hx D = some (.lst ((List.range xs.length).map out)) → Qd Hx) :
    ∃ W : Nat → Nat → Hp → Prop, (∃ m, W 0 m (upd H D (.lst []))) ∧ ∀ i m H, W i m H →
      ((Itl K a).stop i H ∧ Qd H) ∨ ((Itl K a).go i H ∧ ∃ Nx : Hp → Prop, (∀ H', Nx H' → ∃ m', m' < m ∧ W (i + 1) m' H') ∧ ∀ x H', (Itl K a).yld i H x H' → g x (wipe σ vs) H' fun σ2 H2 => wipe σ2 vs = wipe σ vs ∧ tYes σ2 H2 fun b H3 =>
        if b = true then te σ2 H3 fun y H4 => ∃ acc, H4 D = some (.lst acc) ∧ acc.length < sizeLine ∧ Nx (upd H4 D (.lst (acc ++ [y]))) else Nx H3) := by
  refine lc_list (K := K) (a := a) (xs := xs) (fun j Hx => Same H Hx ∧ Hx D = some (.lst ((List.range j).map out))) ⟨same_new nD, upd_same⟩ (fun j Hx _ ⟨S, _⟩ => SqL.of (S _ _ ha)) ?_ fun Hx ⟨S, hD⟩ => hd Hx S hD
  rintro i x Hx hi ⟨S, hD⟩
  refine mono x Hx _ _ (fun σ2 H2 h => ⟨h.1, ?_⟩) (hs i x Hx hi S (fun y H4 => ∃ acc, H4 D = some (.lst acc) ∧ acc.length < sizeLine ∧ Same H (upd H4 D (.lst (acc ++ [y]))) ∧ upd H4 D (.lst (acc ++ [y])) D = some (.lst ((List.range (i + 1)).map out))) fun H' S' => ?_)
  · dsimp only [tYes]
    first
      | exact if_t rfl h.2
      | exact h.2
  · have hi' : i < xs.length := (List.getElem?_eq_some_iff.mp hi).1
    refine ⟨_, S' _ _ hD, ?_, grow nD (S.trans S'), ?_⟩
    · rw [List.length_map, List.length_range, sizeLine_eq]
      omega
    · rw [upd_same, List.range_succ, List.map_append]
      rfl
theorem range_vints {α : Type} (ps : List α) (f : α → Nat) (g : Nat → V) (h : ∀ i p, ps[i]? = some p → g i = V.int ((f p : Nat) : Int)) : (List.range ps.length).map g = vints (ps.map f) := by
  unfold vints
  rw [List.map_map]
  apply List.ext_getElem?
  intro i
  rw [List.getElem?_map, List.getElem?_map]
  by_cases hi : i < ps.length
  · rw [List.getElem?_range hi, List.getElem?_eq_getElem hi]
    show some (g i) = some (V.int ((f ps[i] : Nat) : Int))
    rw [h i ps[i] (List.getElem?_eq_getElem hi)]
  · rw [List.getElem?_eq_none (by rw [List.length_range]; omega), List.getElem?_eq_none (by omega)]
    rfl
def spMeas (k : Nat) : Sp := fun vs H Q _ => ∃ (v : V) (d : PyData), vs = [v, .int big] ∧ Dat H v d ∧ wfT k d = true ∧ (∀ H', Same H H' → msN k d = none → Q .non H') ∧ (∀ (p : Addr) (l s : Nat) (H' : Hp), Same H H' → msN k d = some (l, s) → H' p = some (.tup [.int (l : Nat), .int (s : Nat)]) → Q (.ref p) H')
section
variable {P : Program} {w : World} {K : PySem.W.Frag} {mg : Str → Option Value} {base : Heap}
end
end K6
set_option maxRecDepth 100000
set_option maxHeartbeats 8000000
namespace K6
open PySem PySem.Spec PyProof.Rows L2
/-! ### is_space of any value -/
/-- the number of parts -/
def szN : Nat → PyData → Nat
  | 0, _ => 0
  | k + 1, d => 1 + ((nestedD d).map (szN k)).sum
theorem sum_flat {f : PyData → Nat} {g : PyData → List PyData} : ∀ l : List PyData, ((l.flatMap g).map f).sum + l.length = (l.map fun d => 1 + ((g d).map f).sum).sum
  | [] => rfl
  | a :: l => by
    rw [List.flatMap_cons, List.map_append, List.sum_append, List.map_cons, List.sum_cons, List.length_cons, ← sum_flat l]
    omega
theorem all_flat {p : PyData → Bool} {g : PyData → List PyData} : ∀ l : List PyData, (l.flatMap g).all p = l.all fun d => (g d).all p
  | [] => rfl
  | a :: l => by rw [List.flatMap_cons, List.all_append, all_flat l, List.all_cons]
theorem wf_all (k : Nat) : ∀ l : List PyData, l.all (wfT (k + 1)) = (l.all partB && (l.flatMap nestedD).all (wfT k))
  | [] => rfl
  | a :: l => by
    rw [List.all_cons, wf_all k l, List.all_cons, List.flatMap_cons, List.all_append]
    show ((partB a && (nestedD a).all (wfT k)) && _) = _
    cases partB a <;> cases (nestedD a).all (wfT k) <;> cases l.all partB <;> rfl
theorem sz_len (k : Nat) : ∀ l : List PyData, l.length ≤ (l.map (szN (k + 1))).sum
  | [] => Nat.le_refl _
  | a :: l => by
    have z := sz_len k l
    rw [List.length_cons, List.map_cons, List.sum_cons]
    show _ ≤ (1 + ((nestedD a).map (szN k)).sum) + _
    omega
theorem wfB_eq : ∀ (k p : Nat) (l : List PyData), p ≤ 40 → wfB k p l = (l.all (wfT k) && decide (p + (l.map (szN k)).sum ≤ 40))
  | 0, p, l, h => by
    cases l with
    | nil =>
      show true = (true && decide (p + 0 ≤ 40))
      rw [decide_eq_true (by omega)]
      rfl
    | cons a l => rfl
  | k + 1, p, l, h => by
    rw [wfB]
    by_cases c : p + l.length > 40
    · rw [if_pos c]
      have z := sz_len k l
      rw [decide_eq_false (by omega), Bool.and_false]
    · rw [if_neg c, wf_all]
      cases hp : l.all partB with
      | false => rfl
      | true =>
        rw [if_neg (by decide), wfB_eq k (p + l.length) (l.flatMap nestedD) (by omega), Bool.true_and]
        congr 2
        have z := sum_flat (f := szN k) (g := nestedD) l
        have e : (l.map (szN (k + 1))).sum = (l.map fun d => 1 + ((nestedD d).map (szN k)).sum).sum := rfl
        rw [e, ← z]
        exact propext ⟨fun _ => by omega, fun _ => by omega⟩
theorem wf_eq (d : PyData) : isWf d = (wfT 6 d && decide (szN 6 d ≤ 40)) := by
  unfold isWf
  rw [wfB_eq 6 0 [d] (by decide)]
  show (wfT 6 d && true && decide (0 + (szN 6 d + 0) ≤ 40)) = _
  rw [Bool.and_true, Nat.zero_add, Nat.add_zero]
/-- what is_space says -/
def spaceB (d : PyData) : Bool := isWf d && (msN 6 d).isSome
def spSpace : Sp := fun vs H Q _ => ∃ (v : V) (d : PyData), vs = [v] ∧ Dat H v d ∧ ∀ H', Same H H' → Q (.bl (spaceB d)) H'
section
variable {P : Program} {w : World} {K : PySem.W.Frag} {mg : Str → Option Value} {base : Heap}
end
end K6
set_option maxRecDepth 100000
set_option maxHeartbeats 8000000
namespace K6
open PySem PySem.Spec PyProof.Rows L2
/-! ### size_of: joined_size without a bound -/
abbrev sSizeOf : Stmt := top 29
def spJS0 : Sp := fun vs H Q _ => ∃ (v : V) (b : Addr) (d : PyData) (ns : List Nat), vs = [v, .ref b, .non] ∧ Dat H v d ∧ partB d = true ∧ H b = some (.lst (vints ns)) ∧ ns.length = (nestedD d).length ∧ (∀ n ∈ ns, n < bigN) ∧ jsN d ns < bigN ∧ ∀ H' : Hp, Same H H' → Q (.int (jsN d ns : Nat)) H'
theorem big_400 : bigN < 2 ^ 400000 := Nat.lt_of_lt_of_le bigN_bits (Nat.pow_le_pow_right (by decide) (by decide))
/-- multiply(list, None), the product below the bound -/
theorem mul_of {H : Hp} {a : Addr} {ns : List Nat} {Q : VK} (ha : H a = some (.lst (vints ns))) (hb : ∀ n ∈ ns, n < bigN) (hp : prodN ns < bigN) (q : Q (.int (prodN ns : Nat)) H) : spMul [.ref a, .non] H Q E0 :=
  ⟨a, ns, rfl, ha, fun _ => Nat.lt_trans hp big_400, fun n hn => Nat.lt_trans (hb n hn) big_400, fun z => by
    have e := prod_zero z
    rw [e] at q
    exact q, fun _ => q⟩
section
variable {P : Program} {w : World} {K : PySem.W.Frag} {mg : Str → Option Value} {base : Heap}
theorem ok_jsize0 {f fR fW fMt : Addr} {fd fdR fdW fdMt : FuncData} {dS : Addr} {S : Addr → Option Sp} (F : FunD K "joined_size" "joined_size" (defArgs sJSize) (defBody sJSize) (defScope sJSize) [.non] [] f fd) (T : Nm mg) (Z : Sizes P w K mg base dS S) (U : MulOk P w K mg base) (b2 : L2.Binds K U.fd ["factors", "bound"] [])
    (R : DefOk K mg "repeated" sRepeat ["counts", "items"] fR fdR) (W : DefOk K mg "word_size" sWordSize ["space"] fW fdW) (M : DefOk K mg "multinomial" sMulti ["counts"] fMt fdMt) (c : mg "comb" = some (.builtin "math.comb")) : FnOk P w K mg base CX0 10 f fd ["space", "sizes", "bound"] spJS0 := by
  have GR : FnOk P w K mg base CX0 1 fR fdR ["counts", "items"] spRepeat := ok_repeat R.F T
  have GU : FnOk P w K mg base CX0 1 U.f U.fd ["factors", "bound"] spMul := ok_mul U.F
  have GW : FnOk P w K mg base CX0 2 fW fdW ["space"] spWordSize := ok_wordsize W.F M c
  obtain ⟨es0, n0, D⟩ := Z.k
  refine F.ok scJSize (fun vs H Q E h => ?_) (fun cdv A outer s H vs Q E hr h => ?_)
  · obtain ⟨v, b, d, ns, rfl, _⟩ := h
    rfl
  · obtain ⟨v, b, d, ns, rfl, hd, hp, hb, hn, hB, hJ, q⟩ := h
    have hu0 := hr.units0
    have hr1 : Room 1 _ := hr.mono (by decide)
    have hr2 : Room 2 _ := hr.mono (by decide)
    refine ⟨_, PSs.nox (pss_cons (ps_set (i := 3) scJSize.nd rfl (Or.inl rfl) (pe_ix ix_tup (pv 0) pe_int (fun _ _ => rfl)))
      (pss_cons (ps_if (pt_cmpR (op_eqStr hu0) (pv 3) pe_str (nomark _))
        (pss_one (ps_ret (pe_call GU hr1 rfl U.g U.F.kp b2 .nil pass0 (pa_cons (pv 1) (pa_cons (pv 2) pa_nil)))))
        pss_nil)
      (pss_cons (ps_if (pt_cmpR (op_eqStr hu0) (pv 3) pe_str (nomark _))
        (pss_one (ps_ret (pe_callB (cr_sum rfl) (by rfl) T.sum boot_sum (pa_cons (pv 1) pa_nil))))
        pss_nil)
      (pss_cons (ps_if (pt_cmpR (op_eqStr hu0) (pv 3) pe_str (nomark _))
        (pss_one (ps_ret (pe_call GU hr1 rfl U.g U.F.kp b2 .nil pass0 (pa_cons (pe_op op_rep (pv 1) (pe_ix ix_tup (pv 0) pe_int (fun _ _ => rfl))) (pa_cons (pv 2) pa_nil)))))
        pss_nil)
      (pss_cons (ps_if (pt_cmpR (op_eqStr hu0) (pv 3) pe_str (nomark _))
        (pss_one (ps_ret (pe_call GU hr1 rfl U.g U.F.kp b2 .nil pass0 (pa_cons (pe_op op_cat (pe_lst (pa_cons (pe_call GW hr2 rfl W.g W.F.kp W.b .nil pass0 (pa_cons (pv 0) pa_nil)) pa_nil)) (pe_call GR hr1 rfl R.g R.F.kp R.b .nil pass0 (pa_cons (pe_ix ix_tup (pv 0) pe_int (fun _ _ => rfl)) (pa_cons (pv 1) pa_nil)))) (pa_cons (pv 2) pa_nil)))))
        pss_nil)
      (pss_cons (ps_set (i := 4) scJSize.nd rfl (Or.inl rfl) (pe_ix (ix_kd (X := _) D) (pe_glob (v := .ref dS) rfl Z.g rfl) (pv 3) (fun _ _ => rfl)))
      (pss_one (ps_ret (pe_callA (i := 4) (S := S) Z.held hr rfl (Or.inl rfl) (pa_cons (pv 0) pa_nil)))))))))), ?_⟩
    have head : ∀ (z : Str) (ds : List PyData), d = .tuple (.str z :: ds) → ∃ (a : Addr) (xs : List V), v = .ref a ∧ z.length ≤ 1000 ∧ H a = some (.tup (.str z :: xs)) ∧ DatAll H (.str z :: xs) (.str z :: ds) := fun z ds e => by
      subst e
      cases hd with
      | @tup a xs _ ha hx =>
        cases hx with
        | @cons x0 xs' _ _ c0 cs =>
          cases c0 with
          | str _ hz => exact ⟨a, xs', rfl, hz, ha, .cons (.str _ hz) cs⟩
    rcases nest_cases hp with hl | ⟨es, rfl, e1, e6⟩ | ⟨es, rfl, e1, e6⟩ | ⟨k, e, rfl, k4⟩ | ⟨cs, es, rfl, hc, hl, hc6⟩
    · obtain ⟨z, ds, rfl, _⟩ := part_cases hp
      obtain ⟨a, xs, rfl, hz, ha, hx⟩ := head _ _ rfl
      obtain ⟨b1, b2, b3, b4⟩ := leaf_ne hl
      have hp' : (match kinds.lookup z with
        | some c => decide (ds.length + 1 = c.1) && c.2 (.str z :: ds)
        | none => false) = true := hp
      cases hk : kinds.lookup z with
      | none =>
        rw [hk] at hp'
        cases hp'
      | some c =>
        obtain ⟨len, p⟩ := c
        rw [hk, Bool.and_eq_true] at hp'
        have hlen : ds.length + 1 = len := of_decide_eq_true hp'.1
        have hpp : p (.str z :: ds) = true := hp'.2
        have hn : nestW z = false := by
          unfold nestW
          rw [b1, b2, b3, b4]
          rfl
        obtain ⟨fz, sp, e1, e2, e3⟩ := Z.at_ z len p hk hn
        refine ⟨_, rfl, a, _, _, _, rfl, rfl, SqT.of ha, atI_nat (j := 0) rfl, ?_⟩
        refine ⟨_, rfl, .str z, "product", .str z hz, rfl, _, rfl, if_f b1 ?_⟩
        refine ⟨_, rfl, .str z, "choice", .str z hz, rfl, _, rfl, if_f b2 ?_⟩
        refine ⟨_, rfl, .str z, "power", .str z hz, rfl, _, rfl, if_f b3 ?_⟩
        refine ⟨_, rfl, .str z, "decorated", .str z hz, rfl, _, rfl, if_f b4 ?_⟩
        refine ⟨_, rfl, z, .ref fz, .ref fz, rfl, rfl, e1, rfl, ?_⟩
        refine ⟨fz, sp, rfl, e2, _, rfl, e3 H a (.str z :: xs) (.str z :: ds) _ ha hx (by rw [List.length_cons]; exact hlen) hpp fun H' n S' en _ => ?_⟩
        have q1 := q H' S'
        have ej : jsN (.tuple (.str z :: ds)) ns = n := by
          unfold jsN
          rw [if_pos hl, en]
          rfl
        rw [ej] at q1
        exact q1
    · obtain ⟨a, xs, rfl, hz, ha, hx⟩ := head _ _ rfl
      have e2 : jsN (.tuple [.str "product", .tuple es]) ns = prodN ns := by
        show prodN (expand (List.replicate es.length 1) ns) * 1 = _
        rw [show es.length = ns.length from hn.symm, expand_ones, Nat.mul_one]
      rw [e2] at q hJ
      refine ⟨_, rfl, a, _, _, _, rfl, rfl, SqT.of ha, atI_nat (j := 0) rfl, ?_⟩
      refine ⟨_, rfl, .str "product", "product", .str _ hz, rfl, _, rfl, if_t rfl ?_⟩
      exact ⟨_, rfl, _, rfl, mul_of hb hB hJ (q H (Same.refl H))⟩
    · obtain ⟨a, xs, rfl, hz, ha, hx⟩ := head _ _ rfl
      have e2 : jsN (.tuple [.str "choice", .tuple es]) ns = ns.sum := by
        show (expand (List.replicate es.length 1) ns).sum = _
        rw [show es.length = ns.length from hn.symm, expand_ones]
      rw [e2] at q
      refine ⟨_, rfl, a, _, _, _, rfl, rfl, SqT.of ha, atI_nat (j := 0) rfl, ?_⟩
      refine ⟨_, rfl, .str "choice", "product", .str _ hz, rfl, _, rfl, if_f rfl ?_⟩
      refine ⟨_, rfl, .str "choice", "choice", .str _ hz, rfl, _, rfl, if_t rfl ?_⟩
      refine ⟨_, rfl, b, ns.map fun n : Nat => (n : Int), rfl, by rw [← vints_ints]; exact SqL.of hb, ?_⟩
      rw [sum_cast]
      exact q H (Same.refl H)
    · obtain ⟨a, xs, rfl, hz, ha, hx⟩ := head _ _ rfl
      refine ⟨_, rfl, a, _, _, _, rfl, rfl, SqT.of ha, atI_nat (j := 0) rfl, ?_⟩
      refine ⟨_, rfl, .str "power", "product", .str _ hz, rfl, _, rfl, if_f rfl ?_⟩
      refine ⟨_, rfl, .str "power", "choice", .str _ hz, rfl, _, rfl, if_f rfl ?_⟩
      refine ⟨_, rfl, .str "power", "power", .str _ hz, rfl, _, rfl, if_t rfl ?_⟩
      match ns, hn with
      | [n], _ =>
        have e2 : jsN (.tuple [.str "power", .int (k : Nat), e]) [n] = prodN (List.replicate k n) := by
          show prodN (expand [((k : Nat) : Int).toNat] [n]) * 1 = _
          rw [Int.toNat_natCast, Nat.mul_one]
          show prodN (List.replicate k n ++ []) = _
          rw [List.append_nil]
        rw [e2] at q hJ
        cases hx with
        | cons _ hx =>
          cases hx with
          | cons t1 hx =>
            cases t1
            refine ⟨_, rfl, _, rfl, a, _, _, _, rfl, rfl, SqT.of ha, atI_nat (j := 1) rfl, b, k, _, rfl, rfl, hb, by omega, by omega, ?_, fun p np => ?_⟩
            · show 1 * ((k : Nat) : Int).toNat ≤ sizeLine
              rw [sizeLine_eq]
              omega
            · rw [Int.toNat_natCast, rep_flat]
              exact ⟨_, rfl, mul_of upd_same (fun m hm => by rw [(List.mem_replicate.mp hm).2]; exact hB n (by simp)) hJ (q _ (same_new np))⟩
    · obtain ⟨a, xs, rfl, hz, ha, hx⟩ := head _ _ rfl
      refine ⟨_, rfl, a, _, _, _, rfl, rfl, SqT.of ha, atI_nat (j := 0) rfl, ?_⟩
      refine ⟨_, rfl, .str "decorated", "product", .str _ hz, rfl, _, rfl, if_f rfl ?_⟩
      refine ⟨_, rfl, .str "decorated", "choice", .str _ hz, rfl, _, rfl, if_f rfl ?_⟩
      refine ⟨_, rfl, .str "decorated", "power", .str _ hz, rfl, _, rfl, if_f rfl ?_⟩
      refine ⟨_, rfl, .str "decorated", "decorated", .str _ hz, rfl, _, rfl, if_t rfl ?_⟩
      refine ⟨_, rfl, a, _, [.str "decorated", .tuple cs, .tuple es], rfl, ha, hx, by simp, hc, fun H1 S1 w1 w2 => ?_⟩
      have eW : zWord [.str "decorated", .tuple cs, .tuple es] = multN 0 1 (countsN (.tuple cs)) := rfl
      rw [eW] at w1 w2 ⊢
      obtain ⟨wn, ew, hw1, hwb⟩ := zb_counts hc
      rw [ew]
      have hwb' : wn < bigN := by
        rw [big_nat] at hwb
        omega
      have e2 : jsN (.tuple [.str "decorated", .tuple cs, .tuple es]) ns = prodN ([wn] ++ expand (cs.map fun e => (countOf e).toNat) ns) := by
        show prodN (expand (countsN (.tuple cs)) ns) * (multN 0 1 (countsN (.tuple cs))).toNat = _
        rw [ew, Int.toNat_natCast, prodN_app, Nat.mul_comm]
        show wn * _ = wn * 1 * _
        rw [Nat.mul_one]
        rfl
      rw [e2] at q hJ
      cases hx with
      | cons _ hx =>
        cases hx with
        | @cons x1 _ _ _ t1 hx =>
          cases t1 with
          | @tup a2 ys _ ha2 hy =>
            have hns : ns.length = cs.length := by
              rw [← hl]
              exact hn
            refine ⟨(by show 1 ≤ sizeLine; decide), fun l nl => ?_⟩
            have Sl := S1.trans (same_new (o := HO.lst [V.int (wn : Int)]) nl)
            have hl1 : upd H1 l (.lst [V.int (wn : Int)]) l = some (.lst (vints [wn])) := upd_same
            generalize upd H1 l (.lst [V.int (wn : Int)]) = H2 at Sl hl1 ⊢
            refine ⟨_, rfl, a, _, _, _, rfl, rfl, SqT.of (Sl _ _ ha), atI_nat (j := 1) rfl, _, rfl, a2, b, ys, cs, ns, rfl, Sl _ _ ha2, hy.same Sl, (counts_all hc).1, hc6, Sl _ _ hb, hns, fun r H3 S3 nr hr2 => ?_⟩
            have lb : (expand (cs.map fun e => (countOf e).toNat) ns).length ≤ 400 := by
              rw [expand_len (by rw [List.length_map, hns])]
              exact (counts_all hc).2
            refine ⟨l, r, _, _, rfl, rfl, S3 _ _ hl1, hr2, ?_, fun p np => ?_⟩
            · rw [vints_len, vints_len, sizeLine_eq]
              show 1 + _ ≤ _
              omega
            · rw [← vints_cat]
              refine ⟨_, rfl, mul_of upd_same (fun m hm => ?_) hJ (q _ ((Sl.trans S3).trans (same_new np)))⟩
              rcases List.mem_append.mp hm with z | z
              · rw [List.mem_singleton.mp z]
                exact hwb'
              · exact hB m (expand_mem z)
/-- size_of, of a space of at most k levels -/
def spSzOf (k : Nat) : Sp := fun vs H Q _ => ∃ (v : V) (d : PyData) (l s : Nat), vs = [v] ∧ Dat H v d ∧ wfT k d = true ∧ msN k d = some (l, s) ∧ ∀ H', Same H H' → Q (.int (s : Nat)) H'
theorem scSizeOf : FnScope ["space", "inner"] ["space"] (defScope sSizeOf) := ⟨rfl, rfl, rfl, by decide +kernel, rfl, by decide +kernel, by decide +kernel⟩
theorem sizeof_body {f fN fJ : Addr} {fd fdN fdJ : FuncData} {sp : Sp} (n : Nat) (F : Fun K "size_of" "size_of" sSizeOf f fd) (b : L2.Binds K fd ["space"] []) (g : mg "size_of" = some (.ref f)) (G : FnOk P w K mg base CX0 (10 + n) f fd ["space"] sp)
    (N : DefOk K mg "nested_spaces" sNested ["space"] fN fdN)
    (J : FunD K "joined_size" "joined_size" (defArgs sJSize) (defBody sJSize) (defScope sJSize) [.non] [] fJ fdJ) (bJ : L2.Binds K fdJ ["space", "sizes", "bound"] [Value.none]) (gJ : mg "joined_size" = some (.ref fJ)) (GJ : FnOk P w K mg base CX0 10 fJ fdJ ["space", "sizes", "bound"] spJS0)
    (hn : ∀ m, n = m + 1 → ∀ (x : V) (d : PyData) (l s : Nat) (H : Hp) (R : VK), Dat H x d → wfT m d = true → msN m d = some (l, s) → (∀ H', Same H H' → R (.int (s : Nat)) H') → sp [x] H R E0) : FnOk P w K mg base CX0 (11 + n) f fd ["space"] (spSzOf n) := by
  have GN : FnOk P w K mg base CX0 1 fN fdN ["space"] spNested := ok_nested N.F
  rw [show 11 + n = (10 + n) + 1 by omega]
  refine F.ok scSizeOf (fun vs H Q E h => ?_) (fun cdv A outer s H vs Q E hr h => ?_)
  · obtain ⟨v, d, l, s, rfl, _⟩ := h
    rfl
  · obtain ⟨v, d, lv, sz, rfl, hd, hw, hm, q⟩ := h
    have hr1 : Room 1 _ := hr.mono (by omega)
    have hr10 : Room 10 _ := hr.mono (by omega)
    refine ⟨_, pss_one (ps_ret (pe_call GJ hr10 rfl gJ J.kp bJ (Paired.cons (F := RelV) (a := .non) (b := Value.none) rfl .nil) pass0 (pa_cons (pv 0) (pa_cons (pe_lc (own := [("inner", 1)]) (g := gName 1) (tt := tYes) rfl scSizeOf.nd (pi_tup (pe_call GN hr1 rfl N.g N.F.kp N.b .nil pass0 (pa_cons (pv 0) pa_nil))) (blkOk_by (N := ["space", "inner"]) (sc := defScope sSizeOf) (by decide +kernel))
            (fun _ _ _ _ _ => pg_name (i := 1) scSizeOf.nd rfl (Or.inl rfl)) (fun _ _ _ _ _ => pts_nil) (fun _ _ _ _ _ => pe_call G hr rfl g F.kp b .nil pass0 (pa_cons (pv 1) pa_nil))) pa_nil)))), ?_⟩
    cases n with
    | zero => exact Bool.noConfusion ((show false = true from hw) : false = true)
    | succ m =>
      have hw' : (partB d && (nestedD d).all (wfT m)) = true := hw
      rw [Bool.and_eq_true] at hw'
      obtain ⟨hp, hin⟩ := hw'
      have hin' := List.all_eq_true.mp hin
      have n6 := nested_len hp
      have bdd := ms_bd hm
      rw [msN] at hm
      cases hall : allS ((nestedD d).map (msN m)) with
      | none =>
        rw [hall] at hm
        cases hm
      | some l =>
        rw [hall] at hm
        dsimp only at hm
        have eL := allS_some hall
        have ll : l.length = (nestedD d).length := by
          have z := congrArg List.length eL
          rw [List.length_map, List.length_map] at z
          exact z.symm
        have ej : jsN d (l.map (·.2)) = sz := by
          generalize (if leafD d = true then 1 else jlN d (l.map (·.1))) = A at hm
          generalize jsN d (l.map (·.2)) = B at hm ⊢
          by_cases c : (2000 < A) ∨ bigN ≤ B
          · rw [if_pos c] at hm
            cases hm
          · rw [if_neg c] at hm
            exact (Prod.mk.inj (Option.some.inj hm)).2
        have at_i : ∀ (i : Nat) (e : PyData), (nestedD d)[i]? = some e → msN m e = some (l.getD i (0, 0)) := fun i e h => by
          have z := congrArg (fun r => r[i]?) eL
          simp only [List.getElem?_map, h] at z
          cases hl2 : l[i]? with
          | none =>
            rw [hl2] at z
            cases z
          | some p =>
            rw [hl2] at z
            rw [List.getD_eq_getElem?_getD, hl2]
            exact Option.some.inj z
        refine ⟨_, rfl, _, rfl, v, d, H, rfl, Same.refl H, hd, hp, fun p ys H1 S1 hpy hy => ?_⟩
        have hyl := hy.len
        refine ⟨p, rfl, ⟨_, SqT.of hpy⟩, fun D nD => lc_vals (K := K) (a := p) (xs := ys) (fun i => V.int (((l.getD i (0, 0)).2 : Nat) : Int)) hpy (by omega) nD (fun i x Hx hi S R hR => ?_) mono_name fun H2 S2 hD => ?_⟩
        · obtain ⟨e, hei, te⟩ := hy.get hi
          exact ⟨rfl, _, rfl, hn m rfl x e _ _ Hx _ ((te.same S1).same S) (hin' e (List.mem_of_getElem? hei)) (at_i i e hei) hR⟩
        · rw [hyl, ← ll, range_vints l (·.2) _ (fun i p h => by rw [List.getD_eq_getElem?_getD, h]; rfl)] at hD
          have T2 := S1.trans S2
          refine ⟨v, D, d, l.map (·.2), rfl, hd.same T2, hp, hD, by rw [List.length_map, ll], fun n hn2 => ?_, ?_, fun H3 S3 => ?_⟩
          · obtain ⟨pr, hpr, rfl⟩ := List.mem_map.mp hn2
            have z : some pr ∈ (nestedD d).map (msN m) := by rw [eL]; exact List.mem_map_of_mem hpr
            obtain ⟨e, _, he⟩ := List.mem_map.mp z
            exact (ms_bd he).2
          · rw [ej]
            exact bdd.2
          · rw [ej]
            exact q H3 (T2.trans S3)
theorem ok_sizeof {f fN fJ : Addr} {fd fdN fdJ : FuncData} (F : Fun K "size_of" "size_of" sSizeOf f fd) (b : L2.Binds K fd ["space"] []) (g : mg "size_of" = some (.ref f))
    (N : DefOk K mg "nested_spaces" sNested ["space"] fN fdN)
    (J : FunD K "joined_size" "joined_size" (defArgs sJSize) (defBody sJSize) (defScope sJSize) [.non] [] fJ fdJ) (bJ : L2.Binds K fdJ ["space", "sizes", "bound"] [Value.none]) (gJ : mg "joined_size" = some (.ref fJ)) (GJ : FnOk P w K mg base CX0 10 fJ fdJ ["space", "sizes", "bound"] spJS0) : ∀ n : Nat, FnOk P w K mg base CX0 (11 + n) f fd ["space"] (spSzOf n)
  | 0 => sizeof_body (sp := fun _ _ _ _ => False) 0 F b g fn_none N J bJ gJ GJ fun m e => by cases e
  | n + 1 => by
    have G := ok_sizeof F b g N J bJ gJ GJ n
    rw [show 11 + n = 10 + (n + 1) by omega] at G
    refine sizeof_body (n + 1) F b g G N J bJ gJ GJ fun m e x d l s H R hd hw hm h => ?_
    obtain rfl : n = m := Nat.succ.inj e
    exact ⟨x, d, l, s, rfl, hd, hw, hm, h⟩
end
end K6
set_option maxRecDepth 100000
set_option maxHeartbeats 4000000
namespace K6
open PySem PySem.Spec PyProof.Rows L2
abbrev sDeck : Stmt := top 31
abbrev sDraw : Stmt := top 32
/-! ### the deck of choices -/
/-- a deck at p: its cells at q, the mixed number m, the count c -/
structure DeckAt (H : Hp) (p q : Addr) (ns : List Int) (m c : Int) : Prop where
  ob : H p = some (.lst [.ref q, .int m, .int c])
  ce : H q = some (.lst (ns.map V.int))
  m0 : 0 ≤ m
  m1 : m < 2147483629
  c0 : 0 ≤ c
  c1 : c ≤ 1000000000
  ln : ns.length ≤ 63
theorem DeckAt.ne {H : Hp} {p q : Addr} {ns : List Int} {m c : Int} (D : DeckAt H p q ns m c) : p ≠ q := fun e => by
  have z := D.ce
  rw [← e, D.ob] at z
  have z' := Option.some.inj z
  injection z' with z''
  cases ns with
  | nil => cases z''
  | cons a l => injection z'' with y _; cases y
theorem DeckAt.same {H H' : Hp} {p q : Addr} {ns : List Int} {m c : Int} (D : DeckAt H p q ns m c) (S : Same H H') : DeckAt H' p q ns m c := ⟨S _ _ D.ob, S _ _ D.ce, D.m0, D.m1, D.c0, D.c1, D.ln⟩
/-- what was tracked, but at p and q -/
def Off (p q : Addr) (H H' : Hp) : Prop := ∀ b o, H b = some o → b ≠ p → b ≠ q → H' b = some o
theorem Off.of_same {p q : Addr} {H H' : Hp} (S : Same H H') : Off p q H H' := fun b o e _ _ => S b o e
theorem Off.trans {p q : Addr} {H H1 H2 : Hp} (a : Off p q H H1) (b : Off p q H1 H2) : Off p q H H2 := fun c o e h1 h2 => b c o (a c o e h1 h2) h1 h2
theorem Off.refl {p q : Addr} {H : Hp} : Off p q H H := fun _ _ e _ _ => e
theorem dp_ints {K : PySem.W.Frag} {H : Hp} : ∀ ns : List Int, DpAll K H (ns.map V.int) (ns.map PyData.int)
  | [] => .nil
  | a :: l => .cons (.int a) (dp_ints l)
theorem lay_ints : ∀ ns : List Int, PyData.canLayAll0 (ns.map PyData.int) = true
  | [] => by simp [PyData.canLayAll0]
  | a :: l => by simp [PyData.canLayAll0, PyData.canLay0, lay_ints l]
theorem depth_ints : ∀ ns : List Int, PyData.depthAll (ns.map PyData.int) = 0
  | [] => by simp [PyData.depthAll]
  | a :: l => by simp [PyData.depthAll, PyData.depth, depth_ints l]
theorem shaped_ints (ns : List Int) : SeqAt.shaped (.list (ns.map PyData.int)) = true := by
  have h2 : PyData.depth (.list (ns.map PyData.int)) ≤ 64 := by
    rw [PyData.depth, depth_ints]
    decide
  unfold SeqAt.shaped
  rw [Bool.and_eq_true, PyData.canLay0]
  exact ⟨lay_ints ns, decide_eq_true h2⟩
def spDeck (K : PySem.W.Frag) : Sp := fun vs H Q _ => ∃ (a : Addr) (ns : List Int), vs = [.ref a] ∧ SqL K H a (ns.map V.int) ∧ ns.length ≤ 63 ∧
  ∀ (p q : Addr) (ms : List Int) (m : Int) (H' : Hp), Same H H' → H p = none → H q = none → DeckAt H' p q ms m 0 → Q (.ref p) H'
def spDraw : Sp := fun vs H Q _ => ∃ (p q : Addr) (ns : List Int) (m c n : Int), vs = [.ref p, .int n] ∧ 0 < n ∧ n ≤ 1000000 ∧ DeckAt H p q ns m c ∧ c + 1 ≤ 1000000000 ∧
  ∀ (i : Int) (ns' : List Int) (H' : Hp), 0 ≤ i → i < n → Off p q H H' → DeckAt H' p q ns' m (c + 1) → Q (.int i) H'
section
variable {P : Program} {w : World} {K : PySem.W.Frag} {mg : Str → Option Value} {base : Heap}
theorem scDeck : FnScope ["_law_script", "_law_cells", "_law_mix", "_law_cell"] ["_law_script"] (defScope sDeck) := ⟨rfl, rfl, rfl, by decide +kernel, rfl, by decide +kernel, by decide +kernel⟩
theorem ok_deck {f : Addr} {fd : FuncData} (F : Fun K "_law_deck" "_law_deck" sDeck f fd) (T : Nm mg) (Tl : mg "list" = none) : FnOk P w K mg base CX0 1 f fd ["_law_script"] (spDeck K) := by
  refine F.ok scDeck (fun vs H Q E h => ?_) (fun cdv A outer s H vs Q E hr h => ?_)
  · obtain ⟨a, ns, rfl, _⟩ := h
    rfl
  · obtain ⟨a, ns, rfl, hS, hl, k⟩ := h
    refine ⟨_, pss_cons (ps_par (i := 1) (j := 2) rfl scDeck.nd rfl rfl (by decide) rfl rfl (pa_cons (pe_callTy call_list_of (by rfl) Tl (by decide +kernel) (pa_cons (pe_slice sl_list (pv 0) po_none (po_some pe_int)) pa_nil)) (pa_cons pe_int pa_nil)) (by rfl))
      (pss_cons (ps_for PassesOwn.never rfl (pi_list (pv 1)) (pg_name (i := 3) scDeck.nd rfl (Or.inl rfl))
        (pss_one (ps_set (i := 2) scDeck.nd rfl (Or.inl rfl) (pe_op op_mod (pe_op op_add (pe_op op_add (pe_op op_mul (pv 2) pe_int) (pe_op op_mod (pv 3) pe_int)) pe_int) pe_int))))
      (pss_one (ps_ret (pe_lst (pa_cons (pe_revL (pv 1)) (pa_cons (pv 2) (pa_cons pe_int pa_nil))))))), ?_⟩
    -- script[:63]; list(..)
    refine ⟨_, rfl, 63, rfl, a, _, rfl, hS, fun p1 np1 => ?_⟩
    have hcut : (cutV (ns.map V.int) none (some 63)).length ≤ 63 := by
      have z := cutV_length (ns.map V.int) none (some 63)
      rw [List.length_map] at z
      omega
    obtain ⟨cs, hcs, hcl⟩ : ∃ cs : List Int, cutV (ns.map V.int) none (some 63) = cs.map V.int ∧ cs.length ≤ 63 := by
      refine ⟨(ns.drop (HT.sIx ns.length 0 none)).take (HT.sIx ns.length ns.length (some 63) - HT.sIx ns.length 0 none), ?_, ?_⟩
      · unfold cutV
        rw [List.length_map, List.map_take, List.map_drop]
      · rw [List.length_take, List.length_drop]
        omega
    rw [hcs]
    refine ⟨p1, _, rfl, .inl (.inl (.inl upd_same)), fun q1 nq1 => ⟨_, _, rfl, ?_⟩⟩
    have s1 : Same H (upd (upd H p1 (.lst (cs.map V.int))) q1 (.lst (cs.map V.int))) := (same_new np1).trans (same_new nq1)
    -- the loop
    refine ⟨_, rfl, q1, rfl, ⟨_, .inl (.inl upd_same)⟩, for_list (K := K) (a := q1) (xs := cs.map V.int) (fun i σ H' => ∃ (m : Int) (v : Option V), σ = [some (.ref a), some (.ref q1), some (.int m), v] ∧ H' = upd (upd H p1 (.lst (cs.map V.int))) q1 (.lst (cs.map V.int)) ∧ 0 ≤ m ∧ m < 2147483629)
      ⟨60637, none, rfl, rfl, by decide, by decide⟩ (fun i σ H' _ ⟨_, _, _, e, _⟩ => by rw [e]; exact .inl (.inl upd_same)) ?_ ?_⟩
    · rintro i y σ H' hi ⟨m, v, rfl, rfl, h0, h1⟩
      obtain ⟨z, rfl⟩ : ∃ z, y = V.int z := by
        rw [List.getElem?_map] at hi
        cases e : cs[i]? with
        | none =>
          rw [e] at hi
          cases hi
        | some z =>
          rw [e] at hi
          exact ⟨z, (Option.some.inj hi).symm⟩
      refine ⟨_, rfl, _, _, rfl, rfl, .inl ⟨by omega, by omega⟩, ?_⟩
      refine ⟨_, rfl, _, _, rfl, rfl, (by decide : (0 : Int) < 2147483587), _, _, rfl, rfl, _, _, rfl, rfl, _, _, rfl, rfl, (by decide : (0 : Int) < 2147483629), ?_⟩
      exact ⟨_, _, rfl, rfl, Int.emod_nonneg _ (by decide), Int.emod_lt_of_pos _ (by decide)⟩
    · rintro σ H' ⟨m, v, rfl, rfl, h0, h1⟩
      refine ⟨_, rfl, q1, _, rfl, .inl (.inl upd_same), fun r1 nr1 => ⟨_, rfl, (by show 3 ≤ sizeLine; decide), fun d nd => ?_⟩⟩
      rw [← List.map_reverse] at nd ⊢
      refine k d r1 cs.reverse m _ ((s1.trans (same_new nr1)).trans (same_new nd)) ?_ ?_ ⟨upd_same, ?_, h0, h1, by decide, by decide, by rw [List.length_reverse]; exact hcl⟩
      · exact ((s1.trans (same_new nr1))).free nd
      · exact s1.free nr1
      · rw [upd_ne (ne_of_none upd_same nd), upd_same]
theorem scDraw : FnScope ["_law_deck_here", "_law_bound", "_law_cell", "_law_mixed"] ["_law_deck_here", "_law_bound"] (defScope sDraw) := ⟨rfl, rfl, rfl, by decide +kernel, rfl, by decide +kernel, by decide +kernel⟩
theorem ok_draw {f : Addr} {fd : FuncData} (F : Fun K "_law_draw" "_law_draw" sDraw f fd) : FnOk P w K mg base CX0 1 f fd ["_law_deck_here", "_law_bound"] spDraw := by
  refine F.ok scDraw (fun vs H Q E h => ?_) (fun cdv A outer s H vs Q E hr h => ?_)
  · obtain ⟨p, q, ns, m, c, n, rfl, _⟩ := h
    rfl
  · obtain ⟨p, q, ns, m, c, n, rfl, hn0, hn1, D, hc, k⟩ := h
    have hu := hr.units
    have hpq := D.ne
    refine ⟨_, pss_cons (ps_asg (pe_op op_add (pe_ix ix_list (pv 0) pe_int (fun _ _ => rfl)) pe_int) (pg_sub (pv 0) pe_int set_list (fun _ => rfl)))
      (pss_cons (ps_set (i := 2) scDraw.nd rfl (Or.inl rfl) (pe_ix ix_list (pv 0) pe_int (fun _ _ => rfl)))
      (C8.pss_cut (ps_if (pt_cmpR (op_neD hu) (pe_ix ix_list (pv 0) pe_int (fun _ _ => rfl)) (pe_lst pa_nil) (nomark _))
          (pss_cons (ps_set (i := 2) scDraw.nd rfl (Or.inl rfl) (pe_bm0 PySem.F.plainAttrs_list PySem.F.slot_list_pop PySem.F.type_list_pop mt_pop (pe_ix ix_list (pv 0) pe_int (fun _ _ => rfl))))
          (pss_cons (ps_if (pt_cmpR op_ge (pv 2) (pe_op op_pow pe_int pe_int) (nomark _))
              (pss_cons (ps_expr (pe_bm PySem.F.plainAttrs_list PySem.F.slot_list_append PySem.F.type_list_append mt_append (pe_ix ix_list (pv 0) pe_int (fun _ _ => rfl)) (pa_cons (pe_op op_fdivN (pv 2) (pv 1)) pa_nil)))
              (pss_one (ps_ret (pe_op op_mod (pv 2) (pv 1))))) pss_nil)
          (pss_one (ps_set (i := 2) scDraw.nd rfl (Or.inl rfl) (pe_op op_add (pv 2) (pe_ix ix_list (pv 0) pe_int (fun _ _ => rfl))))))) pss_nil)
      (pss_cons (ps_set (i := 3) scDraw.nd rfl (Or.inl rfl) (pe_op op_mod (pe_op op_mul (pe_op op_add (pe_op op_add (pe_op op_mod (pv 2) pe_int) (pe_op op_mul (pe_op op_mul pe_int (pe_ix ix_list (pv 0) pe_int (fun _ _ => rfl))) (pe_ix ix_list (pv 0) pe_int (fun _ _ => rfl)))) pe_int) pe_int) pe_int))
      (pss_cons (ps_set (i := 3) scDraw.nd rfl (Or.inl rfl) (pe_op op_mod (pe_op op_add (pe_op op_add (pe_op op_mul (pv 3) (pv 3)) (pe_op op_mul pe_int (pe_ix ix_list (pv 0) pe_int (fun _ _ => rfl)))) pe_int) pe_int))
      (pss_one (ps_ret (pe_op op_mod (pe_op op_fdiv (pe_op op_mod (pe_op op_mul (pv 3) pe_int) pe_int) pe_int) (pv 1)))))))), ?_⟩
    have c2 : ∀ {x y z : V}, atI [x, y, z] 2 = some z := fun {x y z} => atI_nat (xs := [x, y, z]) (j := 2) rfl
    have c1 : ∀ {x y z : V}, atI [x, y, z] 1 = some y := fun {x y z} => atI_nat (xs := [x, y, z]) (j := 1) rfl
    have c0 : ∀ {x y z : V}, atI [x, y, z] 0 = some x := fun {x y z} => atI_nat (xs := [x, y, z]) (j := 0) rfl
    -- deck[2] = deck[2] + 1
    refine ⟨_, rfl, p, _, _, _, rfl, rfl, SqL.of D.ob, c2, _, _, rfl, rfl, _, rfl, p, _, _, 2, rfl, rfl, D.ob, rfl, ?_⟩
    have eset : ([V.ref q, V.int m, V.int c].set 2 (V.int (c + 1))) = [V.ref q, V.int m, V.int (c + 1)] := rfl
    rw [eset]
    have D1 : DeckAt (upd H p (.lst [.ref q, .int m, .int (c + 1)])) p q ns m (c + 1) :=
      ⟨upd_same, by rw [upd_ne hpq.symm]; exact D.ce, D.m0, D.m1, by have := D.c0; omega, hc, D.ln⟩
    have off1 : Off p q H (upd H p (.lst [.ref q, .int m, .int (c + 1)])) := fun b o e h1 _ => by rw [upd_ne h1]; exact e
    -- cell = deck[1]
    refine ⟨_, rfl, p, _, _, _, rfl, rfl, SqL.of D1.ob, c1, ?_⟩
    -- if deck[0] != []: .. ; what follows holds for any cell
    refine ⟨fun σ H' => ∃ (z : Int) (ns' : List Int), σ = [some (.ref p), some (.int n), some (.int z), none] ∧ Off p q H H' ∧ DeckAt H' p q ns' m (c + 1), ?_, ?_⟩
    · refine ⟨_, rfl, p, _, _, _, rfl, rfl, SqL.of D1.ob, c0, (by show 0 ≤ sizeLine; decide), fun e ne => ?_⟩
      have D2 : DeckAt (upd (upd H p (.lst [.ref q, .int m, .int (c + 1)])) e (.lst [])) p q ns m (c + 1) := D1.same (same_new ne)
      have off2 : Off p q H (upd (upd H p (.lst [.ref q, .int m, .int (c + 1)])) e (.lst [])) := off1.trans (.of_same (same_new ne))
      refine ⟨.list (ns.map .int), .list [], .lst (SqL.of D2.ce) (dp_ints ns), .lst (SqL.of upd_same) .nil, shaped_ints ns, shaped_ints [], _, rfl, ?_⟩
      generalize hH2 : upd (upd H p (.lst [.ref q, .int m, .int (c + 1)])) e (.lst []) = H2 at D2 off2 ⊢
      cases hns : ns with
      | nil =>
        have e0 : PyData.eqv (.list (([] : List Int).map PyData.int)) (.list []) = true := by simp [PyData.eqv, PyData.eqvAll]
        rw [e0]
        refine iteF ?_
        exact ⟨m, [], rfl, off2, by rw [hns] at D2; exact D2⟩
      | cons a l =>
        have e0 : PyData.eqv (.list ((a :: l).map PyData.int)) (.list []) = false := by simp [PyData.eqv, PyData.eqvAll]
        rw [e0]
        refine iteT ?_
        rw [hns] at D2
        -- cell = deck[0].pop()
        obtain ⟨l', z, hz⟩ : ∃ (l' : List Int) (z : Int), a :: l = l' ++ [z] := ⟨(a :: l).dropLast, (a :: l).getLast (by simp), (List.dropLast_concat_getLast (by simp)).symm⟩
        rw [hz] at D2
        have hln : l'.length + 1 ≤ 63 := by
          have z1 := D2.ln
          rw [List.length_append] at z1
          exact z1
        have elast : ((l' ++ [z]).map V.int)[((l' ++ [z]).map V.int).length - 1]? = some (.int z) := by simp
        have edrop : ((l' ++ [z]).map V.int).dropLast = l'.map V.int := by simp
        refine ⟨_, rfl, p, _, _, _, rfl, rfl, SqL.of D2.ob, c0, .inl ⟨rfl, _, SqL.of D2.ce⟩, q, _, _, rfl, rfl, D2.ce, elast, ?_⟩
        rw [edrop]
        have D3 : DeckAt (upd H2 q (.lst (l'.map V.int))) p q l' m (c + 1) := ⟨by rw [upd_ne hpq]; exact D2.ob, upd_same, D2.m0, D2.m1, D2.c0, D2.c1, by omega⟩
        have off3 : Off p q H (upd H2 q (.lst (l'.map V.int))) := off2.trans fun b o e _ h2 => by rw [upd_ne h2]; exact e
        generalize upd H2 q (.lst (l'.map V.int)) = H3 at D3 off3 ⊢
        -- if cell >= 10 ** 18
        refine ⟨_, rfl, _, _, rfl, rfl, ⟨by decide, by decide, by decide⟩, _, _, rfl, rfl, _, rfl, ?_⟩
        refine ite2 (fun _ => ?_) (fun _ => ?_)
        · refine ⟨_, rfl, p, _, _, _, rfl, rfl, SqL.of D3.ob, c0, .inl ⟨rfl, _, SqL.of D3.ce⟩, _, rfl, _, rfl, _, _, rfl, rfl, ⟨by omega, by omega⟩, q, _, _, rfl, rfl, D3.ce, (by rw [List.length_map, sizeLine_eq]; omega), ?_⟩
          have eapp : l'.map V.int ++ [V.int (z.fdiv n)] = (l' ++ [z.fdiv n]).map V.int := by simp
          rw [eapp]
          have D4 : DeckAt (upd H3 q (.lst ((l' ++ [z.fdiv n]).map V.int))) p q (l' ++ [z.fdiv n]) m (c + 1) :=
            ⟨by rw [upd_ne hpq]; exact D3.ob, upd_same, D3.m0, D3.m1, D3.c0, D3.c1, by rw [List.length_append]; exact hln⟩
          refine ⟨_, rfl, _, rfl, _, _, rfl, rfl, hn0, ?_⟩
          exact k _ _ _ (Int.emod_nonneg _ (by omega)) (Int.emod_lt_of_pos _ hn0) (off3.trans fun b o e _ h2 => by rw [upd_ne h2]; exact e) D4
        · refine ⟨_, rfl, _, rfl, p, _, _, _, rfl, rfl, SqL.of D3.ob, c1, _, _, rfl, rfl, ?_⟩
          exact ⟨_, l', rfl, off3, D3⟩
    · rintro σ' H' ⟨z, ns', rfl, off', D'⟩
      have ix2 := fun (g : Hp → Prop) => g
      refine ⟨_, rfl, _, _, rfl, rfl, (by decide : (0 : Int) < 2147483563), _, rfl, p, _, _, _, rfl, rfl, SqL.of D'.ob, c2, _, _, rfl, rfl, .inl ⟨by decide, by decide⟩, _, rfl, p, _, _, _, rfl, rfl, SqL.of D'.ob, c2, _, _, rfl, rfl, .inl ⟨by have := D'.c0; omega, by have := D'.c1; omega⟩,
        _, _, rfl, rfl, _, _, rfl, rfl, _, _, rfl, rfl, .inr ⟨by decide, by decide⟩, _, _, rfl, rfl, (by decide : (0 : Int) < 2147483647), ?_⟩
      generalize hx : (z % 2147483563 + 73727 * (c + 1) * (c + 1) + 31) * 48271 % 2147483647 = x
      have x0 : 0 ≤ x := by rw [← hx]; exact Int.emod_nonneg _ (by decide)
      have x1 : x < 2147483647 := by rw [← hx]; exact Int.emod_lt_of_pos _ (by decide)
      refine ⟨_, rfl, _, rfl, _, _, rfl, rfl, .inl ⟨by omega, by omega⟩, _, rfl, p, _, _, _, rfl, rfl, SqL.of D'.ob, c2, _, _, rfl, rfl, .inl ⟨by decide, by decide⟩, _, _, rfl, rfl, _, _, rfl, rfl, _, _, rfl, rfl, (by decide : (0 : Int) < 2147483629), ?_⟩
      refine ⟨_, rfl, _, _, rfl, rfl, .inr ⟨by decide, by decide⟩, _, _, rfl, rfl, (by decide : (0 : Int) < 2147483587), _, _, rfl, rfl, ⟨by decide, by decide⟩, _, rfl, _, _, rfl, rfl, hn0, ?_⟩
      exact k _ ns' H' (Int.emod_nonneg _ (by omega)) (Int.emod_lt_of_pos _ hn0) off' D'
/-- one of the items, at some place -/
def spPick : Sp := fun vs H Q _ => ∃ (p q t : Addr) (ns : List Int) (m c : Int) (xs : List V), vs = [.ref p, .ref t] ∧ H t = some (.lst xs) ∧ t ≠ p ∧ t ≠ q ∧ 0 < xs.length ∧ xs.length ≤ 1000 ∧ DeckAt H p q ns m c ∧ c + 1 ≤ 1000000000 ∧
  ∀ (j : Nat) (x : V) (ns' : List Int) (H' : Hp), xs[j]? = some x → Off p q H H' → DeckAt H' p q ns' m (c + 1) → Q x H'
end
end K6
set_option maxRecDepth 100000
set_option maxHeartbeats 4000000
namespace L2
open PySem PySem.Spec PyProof.Rows
section
variable {X : Cx}
/-- a list beside an empty list, a tuple beside an empty tuple -/
def rEmpty (neg : Bool) : R2 := fun x y H Q => ∃ (a b : Addr) (xs : List V), x = .ref a ∧ y = .ref b ∧ ((H a = some (.lst xs) ∧ H b = some (.lst [])) ∨ (H a = some (.tup xs) ∧ H b = some (.tup []))) ∧ Q (.bl (if neg then !xs.isEmpty else xs.isEmpty)) H
theorem nil_of {us : List Value} (r : Vals ([] : List V) us) : us = [] := by
  cases r
  rfl
theorem op_empty (hu : X.A.units < cLine) : OpR X (compareOp .Eq) (rEmpty false) := by
  intro pins s σ H x y v u Q I rx ry h
  obtain ⟨a, b, xs, rfl, rfl, h, q⟩ := h
  cases rx
  cases ry
  rcases h with ⟨ha, hb⟩ | ⟨ha, hb⟩
  · obtain ⟨its, rv, p, _⟩ := I.list (SqL.of ha)
    obtain ⟨its2, rv2, p2, _⟩ := I.list (SqL.of hb)
    obtain rfl := nil_of rv2
    cases xs with
    | nil =>
      obtain rfl := nil_of rv
      exact SeqAt.eq_listAt (e := fun _ => true) p.isList p2.isList rfl hu (fun j h1 h2 => absurd h1 (Nat.not_lt_zero _)) ⟨.bl true, H, I, rfl, q⟩
    | cons x0 l =>
      cases rv with
      | cons r0 rs => exact SeqAt.eq_list_lengthsAt p.isList p2.isList (by simp) hu ⟨.bl false, H, I, rfl, q⟩
  · obtain ⟨its, rv, p, _⟩ := I.tuple (SqT.of ha)
    obtain ⟨its2, rv2, p2, _⟩ := I.tuple (SqT.of hb)
    obtain rfl := nil_of rv2
    cases xs with
    | nil =>
      obtain rfl := nil_of rv
      exact SeqAt.eq_tupleAt (e := fun _ => true) p p2 hu (fun j h1 h2 => absurd h1 (Nat.not_lt_zero _)) ⟨.bl true, H, I, rfl, q⟩
    | cons x0 l =>
      cases rv with
      | cons r0 rs => exact SeqAt.eq_tupleAt (e := fun _ => true) p p2 hu (fun j h1 h2 => absurd h2 (Nat.not_lt_zero _)) ⟨.bl false, H, I, by simp [RelV], q⟩
theorem op_nempty (hu : X.A.units < cLine) : OpR X (compareOp .NotEq) (rEmpty true) := by
  intro pins s σ H x y v u Q I rx ry h
  obtain ⟨a, b, xs, rfl, rfl, h, q⟩ := h
  cases rx
  cases ry
  rcases h with ⟨ha, hb⟩ | ⟨ha, hb⟩
  · obtain ⟨its, rv, p, _⟩ := I.list (SqL.of ha)
    obtain ⟨its2, rv2, p2, _⟩ := I.list (SqL.of hb)
    obtain rfl := nil_of rv2
    cases xs with
    | nil =>
      obtain rfl := nil_of rv
      exact SeqAt.RcNeAt.lists (e := fun _ => true) p.isList p2.isList rfl hu (fun j h1 h2 => absurd h1 (Nat.not_lt_zero _)) _ _ _ _ ⟨.bl false, H, I, rfl, q⟩
    | cons x0 l =>
      cases rv with
      | cons r0 rs => exact SeqAt.RcNeAt.lists_lengths p.isList p2.isList (by simp) hu _ _ _ _ ⟨.bl true, H, I, rfl, q⟩
  · obtain ⟨its, rv, p, _⟩ := I.tuple (SqT.of ha)
    obtain ⟨its2, rv2, p2, _⟩ := I.tuple (SqT.of hb)
    obtain rfl := nil_of rv2
    cases xs with
    | nil =>
      obtain rfl := nil_of rv
      exact SeqAt.RcNeAt.tuples (e := fun _ => true) p p2 hu (fun j h1 h2 => absurd h1 (Nat.not_lt_zero _)) _ _ _ _ ⟨.bl false, H, I, rfl, q⟩
    | cons x0 l =>
      cases rv with
      | cons r0 rs => exact SeqAt.RcNeAt.tuples (e := fun _ => true) p p2 hu (fun j h1 h2 => absurd h2 (Nat.not_lt_zero _)) _ _ _ _ ⟨.bl true, H, I, by simp [RelV], q⟩
end
end L2
namespace K6
open PySem PySem.Spec PyProof.Rows L2
/-! ### the deck stands apart -/
def hide (p q : Addr) (H : Hp) : Hp := fun b => if b = p ∨ b = q then none else H b
/-- a deck at p with its cells at q, at most b choices made -/
def Dk (H : Hp) (p q : Addr) (b : Nat) : Prop := ∃ ns m c, DeckAt H p q ns m c ∧ c ≤ (b : Int)
section
variable {H H' : Hp} {p q t : Addr} {b : Nat}
theorem hide_sub (p q : Addr) (H : Hp) : Same (hide p q H) H := fun c o e => by
  unfold hide at e
  split at e
  · cases e
  · exact e
theorem hide_at {c : Addr} {o : HO} (h : H c = some o) (hp : c ≠ p) (hq : c ≠ q) : hide p q H c = some o := by
  unfold hide
  rw [if_neg (fun z => z.elim hp hq)]
  exact h
theorem hide_same (S : Same H H') : Same (hide p q H) (hide p q H') := fun c o e => by
  unfold hide at e ⊢
  split at e
  · cases e
  · rename_i h
    rw [if_neg h]
    exact S _ _ e
theorem hide_off (O : Off p q H H') : Same (hide p q H) (hide p q H') := fun c o e => by
  unfold hide at e ⊢
  split at e
  · cases e
  · rename_i h
    rw [if_neg h]
    exact O _ _ e (fun z => h (.inl z)) (fun z => h (.inr z))
theorem Dk.same (D : Dk H p q b) (S : Same H H') : Dk H' p q b := by
  obtain ⟨ns, m, c, D, h⟩ := D
  exact ⟨ns, m, c, D.same S, h⟩
theorem Dk.mono {b' : Nat} (D : Dk H p q b) (h : b ≤ b') : Dk H p q b' := by
  obtain ⟨ns, m, c, D, hc⟩ := D
  exact ⟨ns, m, c, D, by omega⟩
theorem Dk.new (D : Dk H p q b) (n : H t = none) : t ≠ p ∧ t ≠ q := by
  obtain ⟨ns, m, c, D, hc⟩ := D
  refine ⟨fun e => ?_, fun e => ?_⟩
  · rw [e, D.ob] at n
    cases n
  · rw [e, D.ce] at n
    cases n
theorem hide_new {o : HO} (D : Dk H p q b) (n : H t = none) : hide p q (upd H t o) t = some o := hide_at upd_same (D.new n).1 (D.new n).2
theorem hide_none (h : hide p q H t = none) (hp : t ≠ p) (hq : t ≠ q) : H t = none := by
  unfold hide at h
  rw [if_neg (fun z => z.elim hp hq)] at h
  exact h
/-- a choice of n -/
theorem draw_of {n : Int} {Q : VK} {E : XK} (D : Dk H p q b) (h0 : 0 < n) (h1 : n ≤ 1000000) (hb : b < 100000000) (k : ∀ (i : Nat) (H' : Hp), (i : Int) < n → Off p q H H' → Dk H' p q (b + 1) → Q (.int (i : Nat)) H') : spDraw [.ref p, .int n] H Q E := by
  obtain ⟨ns, m, c, D, hc⟩ := D
  refine ⟨p, q, ns, m, c, n, rfl, h0, h1, D, by omega, fun i ns' H' i0 i1 off D' => ?_⟩
  obtain ⟨j, rfl⟩ : ∃ j : Nat, i = j := ⟨i.toNat, by omega⟩
  exact k j H' i1 off ⟨ns', m, c + 1, D', by omega⟩
/-- one of the items of a list -/
theorem pick_of {xs : List V} {Q : VK} {E : XK} (D : Dk H p q b) (ht : H t = some (.lst xs)) (tp : t ≠ p) (tq : t ≠ q) (h0 : 0 < xs.length) (h1 : xs.length ≤ 1000) (hb : b < 100000000) (k : ∀ (j : Nat) (x : V) (H' : Hp), xs[j]? = some x → Off p q H H' → Dk H' p q (b + 1) → Q x H') : spPick [.ref p, .ref t] H Q E := by
  obtain ⟨ns, m, c, D, hc⟩ := D
  exact ⟨p, q, t, ns, m, c, xs, rfl, ht, tp, tq, h0, h1, D, by omega, fun j x ns' H' hx off D' => k j x H' hx off ⟨ns', m, c + 1, D', by omega⟩⟩
end
end K6
set_option maxRecDepth 100000
set_option maxHeartbeats 4000000
namespace L2
open PySem PySem.Spec PyProof.Rows
/-! ### repr of any such value, with ints of up to 4,300 digits and empty dicts at any place -/
mutual
def okInt : PyData → Prop
  | .int i => i.natAbs < 10 ^ 4300
  | .list l => okInts l
  | .tuple l => okInts l
  | _ => True
def okInts : List PyData → Prop
  | [] => True
  | d :: ds => okInt d ∧ okInts ds
end
section
variable {prog : Program} {w : World} {A : Around} {E : Value → Shared → Prop} {s : Shared}
theorem call_int_reprS {a : Int} {t : Tok} {Q : Value → Shared → Prop} (hn : s.heap.NoDigits) (hlt : a.natAbs < 10 ^ 4300) (h : Q (.str (toString a) s.toks) { s with toks := s.toks + 1 }) :
    wpAny (model prog w) A (call (.builtin "int.__repr__") [.int a t]) Q E s := by
  (refine wpAny_call_entry F.slot_int_repr (typeIs_int s a t) F.entry_int_repr ?_ (F.args_int_repr_1 _); unfold Builtin.«int.__repr__»)
  show wpAny (model prog w) _ (do let r ← Builtin.overDigitLimit? a; _) _ _ s
  exact wpAny_bind (overDigitLimit_any hn (fun _ => wpAny_bind (wpAny_mkStr (wpAny_pure ⟨_, rfl, h⟩) (int_text_fits10 hlt))) (fun hge => absurd hlt (Nat.not_lt.mpr hge)))
theorem pyReprObj_intS {a : Int} {t : Tok} {Q : Value → Shared → Prop} (hu : A.units < cLine) (hn : s.heap.NoDigits) (hlt : a.natAbs < 10 ^ 4300) (h : Q (.str (toString a) s.toks) { s with toks := s.toks + 1 }) :
    wpAny (model prog w) A (pyReprObj (.int a t)) Q E s :=
  wpAny_pyReprObj_slot hu (typeIs_int s a t) F.slot_int_repr.toG (call_int_reprS hn hlt ⟨_, _, rfl, h⟩)
theorem reprK_int {h₀ : Heap} {as : List Addr} {d : Nat} {a : Int} (t : Tok) (hn : h₀.NoDigits) (hlt : a.natAbs < 10 ^ 4300) : ReprK prog w as h₀ d (.int a t) (toString a) := by
  intro base hb A g E s Q _ _ hu hk0 hQ
  have hn' : base ≤ sizeLine := by omega
  (rw [pyReprUnder_leaf (v := .int a t) hn' (fun _ e => nomatch e)]; unfold pyRepr)
  exact wpAny_bind (pyReprObj_intS (by omega) (hn.keeps hk0) hlt (wpAny_pure (hQ s.heap _ fun _ _ e => e)))
end
end L2
namespace K6
open PySem PySem.Spec PyProof.Rows L2
section
variable {P : Program} {w : World} {H : Hp} {h : Heap}
mutual
theorem dat_repr (ok : HOk P w H h) (nd : h.NoDigits) : ∀ {v : V} {d : PyData} {u : Value}, Dat H v d → RelV v u → okInt d → d.shown.length ≤ sizeLine → ∃ as bs, Reads h u d as ∧ ReadAtMost h d.depth bs ∧ ReprK P w bs h d.depth u d.shown
  | _, _, _, .non, r, _, _ => by
    cases r
    exact ⟨[], [], .none, (fun _ z => nomatch z), by simp only [PyData.shown]; exact .of_is ReprIs.none _ _ _⟩
  | _, _, _, .bl b, r, _, _ => by
    cases r
    exact ⟨[], [], .bool b, (fun _ z => nomatch z), by simp only [PyData.shown]; exact .of_is (ReprIs.bool b) _ _ _⟩
  | _, _, _, .int i, r, hi, _ => by
    obtain ⟨t, rfl⟩ := r
    exact ⟨[], [], .int i t, (fun _ z => nomatch z), by simp only [PyData.shown]; exact reprK_int t nd (by simpa only [okInt] using hi)⟩
  | _, _, _, .str x _, r, _, hz => by
    obtain ⟨t, rfl⟩ := r
    exact ⟨[], [], .str x t, (fun _ z => nomatch z), by simp only [PyData.shown]; exact .of_is (ReprIs.str x t (by simpa only [PyData.shown] using hz)) _ _ _⟩
  | _, _, _, .lst (a := a) (xs := xs) (ds := ds) e t, r, hi, hz => by
    cases r
    obtain ⟨_, its, m, rv, ho⟩ := (show ObjOk P w H h a (.lst xs) from ok a _ e)
    have hz' : (listText (PyData.shownAll ds)).length ≤ sizeLine := by simpa only [PyData.shown] using hz
    obtain ⟨as, bs, ra, hb, hk⟩ := datAll_repr ok nd t rv (by simpa only [okInt] using hi) (fun q hq => Nat.le_trans (listText_mem_le hq) hz')
    have rl : Reads h (.ref a) (.list ds) _ := .list ho rfl rfl ra
    refine ⟨_, a :: bs, rl, ReadAtMost.cons rl (by simp only [PyData.depth]; omega) hb, ?_⟩
    have hna : a ∉ bs := not_mem_of_deeper rl (by simp only [PyData.depth]; omega) hb
    simp only [PyData.depth, PyData.shown]
    cases its with
    | nil =>
      cases ra
      simp only [PyData.shownAll, listText_nil]
      exact ReprK.listEmpty ho rfl rfl
    | cons x l => exact ReprK.list (na := _) ho rfl rfl hna (by simpa using hk.length_eq) (fun i y e' => hk.item i y (by simpa using e'))
  | _, _, _, .tup (a := a) (xs := xs) (ds := ds) e t, r, hi, hz => by
    cases r
    obtain ⟨_, its, rv, o, ho, hc, m, hd⟩ := (show ObjOk P w H h a (.tup xs) from ok a _ e)
    have hz' : (tupleText (PyData.shownAll ds)).length ≤ sizeLine := by simpa only [PyData.shown] using hz
    obtain ⟨as, bs, ra, hb, hk⟩ := datAll_repr ok nd t rv (by simpa only [okInt] using hi) (fun q hq => Nat.le_trans (tupleText_mem_le hq) hz')
    have rl : Reads h (.ref a) (.tuple ds) _ := .tuple ho hc hd ra
    refine ⟨_, a :: bs, rl, ReadAtMost.cons rl (by simp only [PyData.depth]; omega) hb, ?_⟩
    have hna : a ∉ bs := not_mem_of_deeper rl (by simp only [PyData.depth]; omega) hb
    simp only [PyData.depth, PyData.shown]
    exact ReprK.tuple ho hc hd hna hk
  | _, _, _, .d0 (a := a) e, r, _, _ => by
    cases r
    obtain ⟨_, ns, vs, kv, o, es, ep, ho, hx, hd, hk, hp, _⟩ := (show ObjOk P w H h a (.dK []) from ok a _ e)
    cases kv
    have e0 : es.toList = [] := by
      generalize es.toList = l at hp
      cases hp
      rfl
    have rl : Reads h (.ref a) (.dict []) (a :: [] ++ []) := .dict (kvs := []) ho hx.1 hd (by rw [e0]; exact .nil) (by rw [e0]; exact .nil)
    have hsys : (a == sysModules) = false := beq_eq_false_iff_ne.mpr fun z => by
      rw [z] at ns
      simp at ns
    refine ⟨_, [a], rl, ReadAtMost.cons (n := 0) rl (Nat.zero_le _) (fun _ z => nomatch z), ?_⟩
    have k := ReprK.dict (prog := P) (w := w) (as := []) (d := 0) (ps := []) ho hx.1 hd hsys (by simp) (by rw [e0]; exact .nil)
    have k' := k.level_le (d' := (PyData.dict []).depth) (by simp [PyData.depth, PyData.depthKv])
    simpa only [PyData.shown, PyData.shownKv] using k'
theorem datAll_repr (ok : HOk P w H h) (nd : h.NoDigits) : ∀ {vs : List V} {ds : List PyData} {us : List Value}, DatAll H vs ds → Vals vs us → okInts ds → (∀ t ∈ PyData.shownAll ds, t.length ≤ sizeLine) →
    ∃ as bs, ReadsAll h us ds as ∧ ReadAtMost h (PyData.depthAll ds) bs ∧ ReprAllK P w bs h (PyData.depthAll ds) us (PyData.shownAll ds)
  | _, _, _, .nil, .nil, _, _ => ⟨[], [], .nil, (fun _ z => nomatch z), by simp only [PyData.shownAll]; exact .nil⟩
  | _, _, _, .cons (d := d) (ds := ds) t ts, .cons r rs, hi, hz => by
    have hi' : okInt d ∧ okInts ds := by simpa only [okInts] using hi
    obtain ⟨as, b1, ra, hb1, k1⟩ := dat_repr ok nd t r hi'.1 (hz _ (by simp only [PyData.shownAll]; exact List.mem_cons_self ..))
    obtain ⟨cs, b2, rb, hb2, k2⟩ := datAll_repr ok nd ts rs hi'.2 (fun q hq => hz q (by simp only [PyData.shownAll]; exact List.mem_cons_of_mem _ hq))
    refine ⟨as ++ cs, b1 ++ b2, .cons ra rb, ?_, ?_⟩
    · simp only [PyData.depthAll]
      exact (hb1.mono (Nat.le_max_left _ _)).append (hb2.mono (Nat.le_max_right _ _))
    · simp only [PyData.depthAll, PyData.shownAll]
      refine .cons ((k1.more fun b hb => List.mem_append_left _ hb).level_le (Nat.le_max_left _ _)) ?_
      exact k2.more_le (fun b hb => List.mem_append_right _ hb) (Nat.le_max_right _ _)
end
end
section
variable {X : Cx}
theorem nodig {K : PySem.W.Frag} {mg : Str → Option Value} {h : Heap} (M : L2.Mod K mg h) (e : PySem.W.nsIn K cStatics "sys.int_max_str_digits" = some none) : h.NoDigits := by
  obtain ⟨mc, h1, _⟩ := M.nolimit
  exact ⟨mc, h1, PySem.W.ns_none_of M.kin h1 e⟩
def rReprD : List V → Hp → VK → Prop := fun xs H Q => ∃ v d, xs = [v] ∧ Dat H v d ∧ okInt d ∧ d.depth ≤ 64 ∧ d.shown.length ≤ sizeLine ∧ Q (.str d.shown) H
theorem call_reprD (hg : X.A.guards = some []) (hu : X.A.units + 128 < cLine) (e : PySem.W.nsIn X.K cStatics "sys.int_max_str_digits" = some none) : CallR X (.builtin "repr") rReprD := by
  intro pins s σ H xs us Q I r hh
  obtain ⟨v, d, rfl, th, hi, hd, hz, q⟩ := hh
  obtain ⟨u, rfl, ru⟩ := vals1 r
  have nd : s.heap.NoDigits := (nodig I.ok.mod e).keeps I.bk
  have done : ∀ (h' : Heap) (u tk : Nat), (∀ b o, s.heap.get? b = some o → h'.get? b = some o) → EP X pins σ Q (.str d.shown u) { s with heap := h', toks := tk } := fun h' u tk k => ⟨.str _, H, I.kept (t' := tk) k, ⟨_, rfl⟩, q⟩
  cases th with
  | non =>
    cases ru
    exact PySem.P.repr_of_none (by simpa only [PyData.shown] using done s.heap _ _ fun _ _ e => e)
  | bl b =>
    cases ru
    exact PySem.P.repr_of_bool (by simpa only [PyData.shown] using done s.heap _ _ fun _ _ e => e)
  | str x _ =>
    obtain ⟨t, rfl⟩ := ru
    exact PySem.P.repr_of_str (by simpa only [PyData.shown] using done s.heap _ _ fun _ _ e => e) (by simpa only [PyData.shown] using hz)
  | int i =>
    obtain ⟨t, rfl⟩ := ru
    refine call_repr_slot (by omega) (typeIs_int s i t) F.slot_int_repr.toG (call_int_reprS nd (by simpa only [okInt] using hi) ⟨_, _, rfl, ?_⟩)
    simpa only [PyData.shown] using done s.heap _ _ fun _ _ e => e
  | @lst a vs ds e1 t =>
    cases ru
    obtain ⟨_, its, m, rv, ho⟩ := (show ObjOk X.prog X.w H s.heap a (.lst vs) from I.hok a _ e1)
    have hz' : (listText (PyData.shownAll ds)).length ≤ sizeLine := by simpa only [PyData.shown] using hz
    obtain ⟨as, bs, ra, hb, hk⟩ := datAll_repr I.hok nd t rv (by simpa only [okInt] using hi) (fun q hq => Nat.le_trans (listText_mem_le hq) hz')
    have rl : Reads s.heap (.ref a) (.list ds) _ := .list ho rfl rfl ra
    have hna : a ∉ bs := not_mem_of_deeper rl (by simp only [PyData.depth]; omega) hb
    simp only [PyData.depth] at hd
    simp only [PyData.shown] at done
    refine call_repr_slot (by omega) ⟨_, ho, rfl⟩ F.slot_list_repr.toG ?_
    cases its with
    | nil =>
      cases ra
      simp only [PyData.shownAll, listText_nil] at done
      exact call_list_repr_empty ⟨_, ho, rfl⟩ ho rfl ⟨_, _, rfl, done s.heap _ _ fun _ _ e => e⟩
    | cons x l => exact call_list_reprK (h₀ := s.heap) ho rfl rfl hna (by simpa using hk.length_eq) (fun i y e => hk.item i y (by simpa using e)) (A := X.A.in1) (g := []) hg (fun b _ => Clear.nil b) (by show X.A.units + 1 + (PyData.depthAll ds + 1) < cLine; omega) (fun _ _ e => e) (fun h' u tk k => ⟨_, _, rfl, done h' u tk k⟩) hz'
  | @tup a vs ds e1 t =>
    cases ru
    obtain ⟨_, its, rv, o, ho, hc, m, hdd⟩ := (show ObjOk X.prog X.w H s.heap a (.tup vs) from I.hok a _ e1)
    have hz' : (tupleText (PyData.shownAll ds)).length ≤ sizeLine := by simpa only [PyData.shown] using hz
    obtain ⟨as, bs, ra, hb, hk⟩ := datAll_repr I.hok nd t rv (by simpa only [okInt] using hi) (fun q hq => Nat.le_trans (tupleText_mem_le hq) hz')
    have rl : Reads s.heap (.ref a) (.tuple ds) _ := .tuple ho hc hdd ra
    have hna : a ∉ bs := not_mem_of_deeper rl (by simp only [PyData.depth]; omega) hb
    simp only [PyData.depth] at hd
    simp only [PyData.shown] at done
    refine call_repr_slot (by omega) ⟨_, ho, hc⟩ F.slot_tuple_repr ?_
    exact call_tuple_reprK (h₀ := s.heap) ho hc hdd hna hk (A := X.A.in1) (g := []) hg (fun b _ => Clear.nil b) (by show X.A.units + 1 + (PyData.depthAll ds + 1) < cLine; omega) (fun _ _ e => e) (fun h' u tk k => ⟨_, _, rfl, done h' u tk k⟩) hz'
  | @d0 a e1 =>
    cases ru
    obtain ⟨_, ns, vs, kv, o, es, ep, ho, hx, hdd, hk, hp, _⟩ := (show ObjOk X.prog X.w H s.heap a (.dK []) from I.hok a _ e1)
    cases kv
    have e0 : es.toList = [] := by
      generalize es.toList = l at hp
      cases hp
      rfl
    have hsys : (a == sysModules) = false := beq_eq_false_iff_ne.mpr fun z => by
      rw [z] at ns
      simp at ns
    simp only [PyData.shown, PyData.shownKv] at done
    refine call_repr_slot (by omega) ⟨_, ho, hx.1⟩ F.slot_dict_repr ?_
    exact call_dict_reprK (h₀ := s.heap) (as := []) (d := 0) (ps := []) ho hx.1 hdd hsys (by simp) (by rw [e0]; exact .nil) (A := X.A.in1) (g := []) hg (fun b _ => Clear.nil b) (by show X.A.units + 1 + 1 < cLine; omega) (fun _ _ e => e) (fun h' u tk k => ⟨_, _, rfl, done h' u tk k⟩)
end
end K6
set_option maxRecDepth 100000
set_option maxHeartbeats 4000000
namespace L2
open PySem PySem.Spec PyProof.Rows
/-! ### a def that is called where no repr runs -/
structure FnG (P : Program) (w : World) (K : PySem.W.Frag) (mg : Str → Option Value) (base : Heap) (k : Nat) (f : Addr) (fd : FuncData) (ps : List Str) (sp : Sp) : Prop where
  len : ∀ vs H Q E, sp vs H Q E → vs.length = ps.length
  run : ∀ (A : Around) (outer : List Env) (s : Shared) (H : Hp) (args : Args) (us : List Value) (vs : List V) (Q : VK) (E : XK), A.guards = some [] → Room k A → Env0 P w K mg base A outer s H → BindsTo s fd args (ps.zip us) → Vals vs us → sp vs H Q E →
    codeAny (model P w) A (.call (.ref f) args) (CR CX0 outer P w H s Q E) s
section
variable {P : Program} {w : World} {K : PySem.W.Frag} {mg : Str → Option Value} {base : Heap}
theorem Fun.okG {x qual : Str} {st : Stmt} {f : Addr} {fd : FuncData} {N ps : List Str} {k : Nat} {sp : Sp} (F : Fun K x qual st f fd) (S : FnScope N ps (defScope st)) (len : ∀ vs H Q E, sp vs H Q E → vs.length = ps.length)
    (hbody : ∀ (cdv : Value) (A : Around) (outer : List Env) (s : Shared) (H : Hp) (vs : List V) (Q : VK) (E : XK), A.guards = some [] → Room k (A.deeper (envOfC qual (defScope st) s.heap.objs.size f cdv)) → sp vs H Q E →
      ∃ t, PSs (cxOf CX0 P w K mg base N qual (defScope st) f cdv A outer s H E).nox (defBody st) t ∧ t { nx := fun _ H' => Q .non H', rt := Q } (start N vs) H) : FnG P w K mg base (k + 1) f fd ps sp := by
  obtain ⟨oc, od, kV, doc, pm, an, cdv, ct, osl, rfl, lk, hcd⟩ := F.ex
  refine ⟨len, fun A outer s H args us vs Q E hg hr e0 hb r hsp => ?_⟩
  obtain ⟨t, ht, hq⟩ := hbody cdv A outer s H vs Q E hg (hr.deeper _) hsp
  have KX : K.In s.heap := e0.mod.kin.keeps fun b o z => (e0.bs b o z).1
  have inPar : ∀ y ∈ ps.zip us, (defScope st).names.lookup y.1 = some .local ∨ ((defScope st).names.lookup y.1 = some .cell ∧ ((cellsFrom (s.heap.objs.size + 1) (defScope st).names []).lookup y.1).isSome = true) := by
    intro y hy
    have hin : y.1 ∈ ps := (List.of_mem_zip (a := y.1) (b := y.2) hy).1
    rcases S.par y.1 hin with z | z
    · exact .inl z
    · exact .inr ⟨z, PySem.W.cellsFrom_some _ _ _ (.inl z)⟩
  refine codeAny_call_function hr.depth (KX _ _ lk) rfl S.co S.gen rfl (PySem.W.codeRec_of KX hcd) (hb _ _ _ _ ?_)
  refine wpAny_newFunctionEnv_cells S.kind inPar fun env he s1 ic => ?_
  subst he
  have I := inv_start (CX := CX0) (E := E) (cd := cdv) (qual := qual) (f := f) S hr.hd e0 (len _ _ _ _ hsp) r ic
  refine ⟨(e0.mod.nolimit.keeps fun b o z => (e0.bs b o z).1).keeps ic.toInCall.keep, codeAny_func ?_⟩
  refine wpAny_mono (ht.nox.run [] s1 (start N vs) H _ I hq) (fun fl s' q => ?_) fun _ _ z => z
  cases fl with
  | next =>
    obtain ⟨σ', H', J, z⟩ := q
    exact ⟨.non, H', J.os, J.bare, J.base, J.hok, rfl, z⟩
  | ret u =>
    obtain ⟨v, σ', H', J, rv, z⟩ := q
    exact ⟨v, H', J.os, J.bare, J.base, J.hok, rv, z⟩
  | brk =>
    obtain ⟨_, _, _, z⟩ := q
    exact z.elim
  | cont =>
    obtain ⟨_, _, _, z⟩ := q
    exact z.elim
end
section
variable {X : Cx} {k : Nat} {f : Addr} {fd : FuncData} {ps : List Str} {sp : Sp} {x : Str} {p pos : Pos} {e : Expr} {es : List Expr} {t : TA}
theorem pe_callG (F : FnG X.prog X.w X.K X.mg X.base k f fd ps sp) (hg : X.A.guards = some []) (hr : Room k X.A) (gl : Gl X x) (hm : X.mg x = some (.ref f)) (hk : PySem.W.keepIn X.K (.ref f) = true) (hb : Binds X.K fd ps []) (ha : PA X (e :: es) t)
    (hdb : (x == ("__debug__" : Str)) = false := by decide) (he : starEach (e :: es) X.env = (false, eval e X.env) :: starEach es X.env := by rfl) (hpl : (backTo pos (starEach es X.env)).any (·.1) = false := by rfl) :
    PE X (.Call (.Name x p) (e :: es) [] pos) (tCall sp [] E0 t) := by
  refine ⟨fun pins s σ H Q I h => ?_⟩
  refine wpAny_Call_Name_kw (ld_glob I gl hm ?_ hdb)
  refine PySem.W.callWith_K (h₀ := X.base) I.ok.mod.kin hk (thn (ha.run pos pins s σ H _ I h) fun us s1 hh => ?_) he hpl
  obtain ⟨vs, H1, I1, r, q⟩ := hh
  refine ⟨I1.kIn, ?_⟩
  have q' : sp vs H1 Q E0 := by
    have z : sp (vs ++ []) H1 Q E0 := q
    rw [List.append_nil] at z
    exact z
  have hl : us.length = ps.length := r.length.symm.trans (F.len _ _ _ _ q')
  have b := hb s1 us I1.kIn (by rw [List.append_nil]; exact hl)
  rw [List.append_nil] at b
  refine wpAny_call (codeAny_mono (F.run X.A X.stack s1 H1 ⟨us, []⟩ us vs Q E0 hg hr I1.env0 b r q') fun res s' z => ?_)
  cases res with
  | error er => exact False.elim z
  | ok fl =>
    cases fl with
    | ret u => exact I1.after z
    | next => exact False.elim z
    | brk => exact False.elim z
    | cont => exact False.elim z
end
end L2
set_option maxRecDepth 100000
set_option maxHeartbeats 4000000
namespace L2
open PySem PySem.Spec PyProof.Rows
section
variable {P : Program} {w : World} {K : PySem.W.Frag} {mg mb : Str → Option Value} {k : Nat} {fa a : Addr} {fd : FuncData} {x : Str} {sp : Sp} {s1 : Shared} {vs : List Value} {ns : List Int}
/-- the law's call where at most the script is tracked (at a) -/
theorem callG_at (KX : K.In s1.heap) (hns : s1.heap.Ns mainGlobals mg) (hb : s1.heap.Ns builtinsNs mb) (hbb : ∀ x : Str, x ≠ "__name__" → mb x = bootBuiltins x) (hlim : s1.heap.NoLimit) (hg : s1.gens = #[])
    (ha : s1.heap.get? a = some { cls := .type "list", data := .seq vs.toArray }) (hr : Room k callerA) (F : ∀ base : Heap, K.In base → base.Ns mainGlobals mg → FnG P w K mg base k fa fd [x] sp)
    (hbind : ∀ (s : Shared) (u : Value), BindsTo s fd ⟨[u], []⟩ [(x, u)]) (H : Hp) (hO : Only H) (hok : HOk P w H s1.heap) (hA : ∀ b, H b ≠ none → b = a) (hK : H a ≠ none → K.lookup a = none)
    (hsp : sp [.ref a] H (fun v _ => v = .bl true) fun _ _ _ => False) :
    codeAny (model P w) callerA (.call (.ref fa) ⟨[.ref a], []⟩) (fun r s' => r = .ok (.ret (.bool true)) ∧ OldK s1.heap s'.heap ∧ s'.os = s1.os ∧ AllBare s'.gens) s1 := by
  have free : ∀ {b : Addr} {o : Obj}, s1.heap.get? b = some o → o.data ≠ .seq vs.toArray → H b = none := by
    intro b o e hd
    cases q : H b with
    | none => rfl
    | some u =>
      have eb := hA b (by rw [q]; exact fun z => nomatch z)
      rw [eb, ha] at e
      cases e
      exact absurd rfl hd
  have nsB : ∀ {b : Addr} {m : Str → Option Value}, s1.heap.Ns b m → (hidT s1.heap H).Ns b m := by
    intro b m hn
    refine hn.at fun o e => hidT_get e ?_
    obtain ⟨o', es, ep, e', d, -⟩ := hn
    rw [e] at e'
    cases e'
    exact free e (by rw [d]; exact fun z => nomatch z)
  have KB : K.In (hidT s1.heap H) := fun b o e => by
    refine hidT_get (KX b o e) ?_
    cases q : H b with
    | none => rfl
    | some u =>
      have hb0 : H b ≠ none := by rw [q]; exact fun z => nomatch z
      have eb := hA b hb0
      rw [eb] at hb0 e
      rw [hK hb0] at e
      cases e
  have M : Mod K mg (hidT s1.heap H) := ⟨KB, nsB hns, ⟨mb, nsB hb, hbb⟩, by obtain ⟨mc, h1, h2⟩ := hlim; exact ⟨mc, nsB h1, h2⟩⟩
  have e0 : Env0 P w K mg (hidT s1.heap H) callerA [] s1 H := ⟨rfl, M, fun _ _ e => of_hidT e, Nat.le_of_eq (hidT_size _ _), trivial, fun b z => absurd (show b ∈ ([] : List Addr) from z) (List.not_mem_nil), hok, .of_eq hg⟩
  refine codeAny_mono ((F _ KB (nsB hns)).run callerA [] s1 H ⟨[.ref a], []⟩ [.ref a] [.ref a] _ _ rfl hr e0 (hbind s1 (.ref a)) (.cons rfl .nil) hsp) fun r s' z => ?_
  cases r with
  | error e => exact False.elim z
  | ok fl =>
    cases fl with
    | next => exact False.elim z
    | brk => exact False.elim z
    | cont => exact False.elim z
    | ret u =>
      obtain ⟨v, H', os, bare, un, hok', rv, q⟩ := z
      have q' : v = .bl true := q
      subst q'
      obtain rfl : u = Value.bool true := rv
      refine ⟨rfl, OldK.of_keep fun b o e => ?_, os, bare⟩
      cases qb : H b with
      | none => exact un.keep b o e qb (fun z => absurd (show b ∈ ([] : List Addr) from z) (List.not_mem_nil)) (List.not_mem_nil)
      | some y =>
        rcases hO b with z | ⟨ob, xs, z⟩
        · rw [qb] at z
          cases z
        · have e1 := (hok b _ z).1
          have e2 := (hok' b _ (un.frzs b ob _ z)).1
          rw [e] at e1
          cases e1
          exact e2
end
theorem walk_G {l : PySem.W.OpenLaw} {n k : Nat} {q : Program} {loose : List Str} {XP : (Str → Option Value) → Heap → Prop} {YP : World → Heap → Prop} {d : DefRec} {K : Params → PySem.W.Frag} {sp : PySem.W.Frag → Sp} {x : Str}
    (hn : l.most = some n) (hn2 : n ≤ sizeLine) (hdf : d.params.defaults = []) (hr : Room k callerA) (hY : ∀ (w : World) (h : Heap), YP w h → (K w.params).In h)
    (F : ∀ (w : World) (mg : Str → Option Value) (fa : Addr) (h : Heap), (K w.params).In h → h.Ns mainGlobals mg → mg d.name = some (.ref fa) →
      ∃ fd : FuncData, (∀ (s : Shared) (u : Value), BindsTo s fd ⟨[u], []⟩ [(x, u)]) ∧ ∀ base : Heap, (K w.params).In base → base.Ns mainGlobals mg → FnG l.prog w (K w.params) mg base k fa fd [x] (sp (K w.params)))
    (hsp : ∀ (K : PySem.W.Frag) (H : Hp) (a : Addr) (ns : List Int), ns.length ≤ n → Only H → SqL K H a (ns.map V.int) → sp K [.ref a] H (fun v _ => v = .bl true) fun _ _ _ => False) :
    PySem.W.WalkO q loose XP YP l.row.toRowW d [] (fun f vs => PySem.call f vs) := by
  refine Att.attach_call hn hdf fun w s₀ s1 mg mb fa o pm cd doc a vs ns G Y ho hd hcd hmg hobj hints hlen hg => ?_
  have KX := hY w _ Y
  obtain ⟨fd, hb, hF⟩ := F w mg fa _ KX G.T.g hmg
  have hl : ns.length ≤ sizeLine := Nat.le_trans hlen hn2
  have rv := vals_ints hints
  cases hk : (K w.params).lookup a with
  | some oa =>
    have e := KX a oa hk
    rw [hobj] at e
    cases e
    refine callG_at KX G.T.g G.T.b G.T.builtins G.T.nolimit hg hobj hr hF hb (fun _ => none) (fun _ => .inl rfl) (fun b u z => nomatch z) (fun b z => absurd rfl z) (fun z => absurd rfl z) (hsp _ _ a ns hlen (fun _ => .inl rfl) ?_)
    exact .inr ⟨_, vs.toArray, _, hk, rfl, rfl, rfl, by rw [List.size_toArray, hints.length]; exact hl, by simpa using rv⟩
  | none =>
    let H : Hp := fun b => if b = a then some (.frz { cls := .type "list", data := .seq vs.toArray } (.lst (ns.map V.int))) else none
    have Ha : H a = some (.frz { cls := .type "list", data := .seq vs.toArray } (.lst (ns.map V.int))) := if_pos rfl
    have Hn : ∀ {b : Addr}, b ≠ a → H b = none := fun h => if_neg h
    have only : Only H := fun b => by
      by_cases hb : b = a
      · exact .inr ⟨_, _, by rw [hb]; exact Ha⟩
      · exact .inl (Hn hb)
    refine callG_at KX G.T.g G.T.b G.T.builtins G.T.nolimit hg hobj hr hF hb H only (fun b u z => ?_) (fun b z => ?_) (fun _ => hk) (hsp _ H a ns hlen only (.inl (.inr ⟨_, Ha⟩)))
    · by_cases hb : b = a
      · rw [hb, Ha] at z
        cases z
        rw [hb]
        exact ⟨hobj, by rw [List.length_map]; exact hl, vs, _, rv, hobj⟩
      · rw [Hn hb] at z
        cases z
    · by_cases hb : b = a
      · exact hb
      · exact absurd (Hn hb) z
end L2
set_option maxRecDepth 100000
set_option maxHeartbeats 4000000
namespace K6
open PySem PySem.Spec PyProof.Rows L2
/-- without r -/
def noR (r : Addr) (H : Hp) : Hp := fun b => if b = r then none else H b
theorem noR_sub {r : Addr} {H : Hp} : Same (noR r H) H := fun b o e => by
  unfold noR at e
  split at e
  · cases e
  · exact e
theorem noR_upd {r : Addr} {H : Hp} {o : HO} : noR r (upd H r o) = noR r H := by
  funext b
  unfold noR
  by_cases e : b = r
  · rw [if_pos e, if_pos e]
  · rw [if_neg e, if_neg e, upd_ne e]
theorem noR_at {r b : Addr} {H : Hp} {o : HO} (h : H b = some o) (n : b ≠ r) : noR r H b = some o := by
  unfold noR
  rw [if_neg n]
  exact h
theorem noR_off {p q r : Addr} {H H' : Hp} (O : Off p q H H') : Same (hide p q (noR r H)) (hide p q (noR r H')) := fun b o e => by
  unfold hide noR at e ⊢
  split at e
  · cases e
  · rename_i h
    rw [if_neg h]
    split at e
    · cases e
    · rename_i h2
      rw [if_neg h2]
      exact O _ _ e (fun z => h (.inl z)) (fun z => h (.inr z))
theorem noR_hide {p q r : Addr} {H : Hp} : Same (hide p q (noR r H)) (hide p q H) := hide_same noR_sub
theorem dat_rep {H : Hp} {v : V} {d : PyData} (h : Dat H v d) : ∀ n : Nat, DatAll H (List.replicate n [v]).flatten (List.replicate n d)
  | 0 => .nil
  | n + 1 => by
    rw [List.replicate_succ, List.replicate_succ, List.flatten_cons]
    exact .cons h (dat_rep h n)
theorem dk_upd {H : Hp} {p q r : Addr} {b : Nat} {o : HO} (D : Dk H p q b) (h1 : r ≠ p) (h2 : r ≠ q) : Dk (upd H r o) p q b := by
  obtain ⟨ns, m, c, D, hc⟩ := D
  exact ⟨ns, m, c, ⟨by rw [upd_ne h1.symm]; exact D.ob, by rw [upd_ne h2.symm]; exact D.ce, D.m0, D.m1, D.c0, D.c1, D.ln⟩, hc⟩
theorem nat_of {i : Int} (h : 0 ≤ i) : ∃ j : Nat, i = j := ⟨i.toNat, by omega⟩
end K6
set_option maxRecDepth 100000
set_option maxHeartbeats 4000000
namespace K6
open PySem PySem.Spec PyProof.Rows L2
/-! ### displays of data: a reading that makes the datum d from variables whose data are known -/
def EnvOk (G : List (Nat × PyData)) (σ : L2.St) (H : Hp) : Prop := ∀ p ∈ G, ∃ v, σ[p.1]? = some (some v) ∧ Dat H v p.2
theorem EnvOk.same {G : List (Nat × PyData)} {σ : L2.St} {H H' : Hp} (E : EnvOk G σ H) (S : Same H H') : EnvOk G σ H' := fun p hp => by
  obtain ⟨v, a, b⟩ := E p hp
  exact ⟨v, a, b.same S⟩
def Mk (G : List (Nat × PyData)) (t : TE) (d : PyData) : Prop := ∀ (σ : L2.St) (H : Hp) (Q : VK), EnvOk G σ H → (∀ (v : V) (H' : Hp), Same H H' → Dat H' v d → Q v H') → t σ H Q
def Mks (G : List (Nat × PyData)) (t : TA) (ds : List PyData) : Prop := ∀ (σ : L2.St) (H : Hp) (Q : List V → Hp → Prop), EnvOk G σ H → (∀ (vs : List V) (H' : Hp), Same H H' → DatAll H' vs ds → Q vs H') → t σ H Q
theorem mk_str {G : List (Nat × PyData)} {x : Str} (h : x.length ≤ 1000) : Mk G (tC (.str x)) (.str x) := fun _ H Q _ q => q _ H (Same.refl _) (.str x h)
theorem mk_int {G : List (Nat × PyData)} {i : Int} : Mk G (tC (.int i)) (.int i) := fun _ H Q _ q => q _ H (Same.refl _) (.int i)
theorem mk_bl {G : List (Nat × PyData)} {b : Bool} : Mk G (tC (.bl b)) (.bool b) := fun _ H Q _ q => q _ H (Same.refl _) (.bl b)
theorem mk_non {G : List (Nat × PyData)} : Mk G (tC .non) .none := fun _ H Q _ q => q _ H (Same.refl _) .non
theorem mk_var {G : List (Nat × PyData)} {i : Nat} {d : PyData} (h : (i, d) ∈ G) : Mk G (tVar i) d := fun σ H Q E q => by
  obtain ⟨v, a, b⟩ := E _ h
  exact ⟨v, a, q v H (Same.refl _) b⟩
theorem mks_nil {G : List (Nat × PyData)} : Mks G tNil [] := fun _ H Q _ q => q [] H (Same.refl _) .nil
theorem mks_cons {G : List (Nat × PyData)} {t : TE} {u : TA} {d : PyData} {ds : List PyData} (h : Mk G t d) (hs : Mks G u ds) : Mks G (tCons t u) (d :: ds) := fun σ H Q E q =>
  h σ H _ E fun v H1 S1 d1 => hs σ H1 _ (E.same S1) fun vs H2 S2 d2 => q _ H2 (S1.trans S2) (.cons (d1.same S2) d2)
theorem mk_tup {G : List (Nat × PyData)} {u : TA} {ds : List PyData} (hs : Mks G u ds) (hl : ds.length ≤ 1000) : Mk G (tTup u) (.tuple ds) := fun σ H Q E q =>
  hs σ H _ E fun vs H1 S1 d1 => ⟨by rw [d1.len, sizeLine_eq]; omega, fun p np => q _ _ (S1.trans (same_new np)) (.tup upd_same (d1.same (same_new np)))⟩
theorem mk_lst {G : List (Nat × PyData)} {u : TA} {ds : List PyData} (hs : Mks G u ds) (hl : ds.length ≤ 1000) : Mk G (tLst u) (.list ds) := fun σ H Q E q =>
  hs σ H _ E fun vs H1 S1 d1 => ⟨by rw [d1.len, sizeLine_eq]; omega, fun p np => q _ _ (S1.trans (same_new np)) (.lst upd_same (d1.same (same_new np)))⟩
theorem mk_rep {G : List (Nat × PyData)} {K : PySem.W.Frag} {t : TE} {d : PyData} {n : Nat} (h : Mk G t d) (h2 : 2 ≤ n) (h10 : n ≤ 10) : Mk G (tOp (rRepT K) (tTup (tCons t tNil)) (tC (.int (n : Nat)))) (.tuple (List.replicate n d)) := fun σ H Q E q =>
  h σ H _ E fun v H1 S1 d1 => ⟨by show 1 ≤ sizeLine; decide, fun l nl => by
    have S2 := same_new (o := HO.tup [v]) nl
    refine ⟨l, (n : Nat), [v], rfl, rfl, SqT.of upd_same, by simp, by omega, by omega, by show 1 ≤ 1000; decide, fun p np => ?_⟩
    exact q _ _ ((S1.trans S2).trans (same_new np)) (.tup upd_same ((dat_rep (d1.same S2) n).same (same_new np)))⟩
end K6
set_option maxRecDepth 100000
set_option maxHeartbeats 4000000
namespace K6
open PySem PySem.Spec PyProof.Rows L2
/-! ### more displays; a list of data that grows -/
theorem mk_neg {G : List (Nat × PyData)} {i : Int} : Mk G (tUn (rU fun i => .int (-i)) (tC (.int i))) (.int (-i)) := fun _ H Q _ q => ⟨i, rfl, q _ H (Same.refl _) (.int (-i))⟩
theorem dat_isInt {H : Hp} {v : V} {i : Int} (h : Dat H v (.int i)) : v = .int i := by
  cases h
  rfl
theorem mk_op {G : List (Nat × PyData)} {t u : TE} {i j k : Int} {C : Int → Int → Prop} {g : Int → Int → V} (h : Mk G t (.int i)) (h2 : Mk G u (.int j)) (hc : C i j) (e : g i j = .int k) : Mk G (tOp (rI C g) t u) (.int k) := fun σ H Q E q =>
  h σ H _ E fun v H1 S1 d1 => h2 σ H1 _ (E.same S1) fun w H2 S2 d2 => ⟨i, j, dat_isInt d1, dat_isInt d2, hc, by rw [e]; exact q _ H2 (S1.trans S2) (.int k)⟩
theorem mk_op0 {G : List (Nat × PyData)} {t u : TE} {i j k : Int} {g : Int → Int → V} (h : Mk G t (.int i)) (h2 : Mk G u (.int j)) (e : g i j = .int k) : Mk G (tOp (rI0 g) t u) (.int k) := fun σ H Q E q =>
  h σ H _ E fun v H1 S1 d1 => h2 σ H1 _ (E.same S1) fun w H2 S2 d2 => ⟨i, j, dat_isInt d1, dat_isInt d2, by rw [e]; exact q _ H2 (S1.trans S2) (.int k)⟩
theorem mk_repI {G : List (Nat × PyData)} {K : PySem.W.Frag} {t : TE} {d : PyData} {i : Int} {n : Nat} (e : i = (n : Int)) (h : Mk G t d) (h2 : 2 ≤ n) (h10 : n ≤ 10) : Mk G (tOp (rRepT K) (tTup (tCons t tNil)) (tC (.int i))) (.tuple (List.replicate n d)) := by
  subst e
  exact mk_rep h h2 h10
theorem dat_tup {H : Hp} {v : V} {ds : List PyData} (h : Dat H v (.tuple ds)) : ∃ (a : Addr) (xs : List V), v = .ref a ∧ H a = some (.tup xs) ∧ DatAll H xs ds := by
  cases h with
  | tup ha hx => exact ⟨_, _, rfl, ha, hx⟩
theorem mk_catT {G : List (Nat × PyData)} {K : PySem.W.Frag} {t u : TE} {l1 l2 : List PyData} (h : Mk G t (.tuple l1)) (h2 : Mk G u (.tuple l2)) (n1 : l1 ≠ []) (n2 : l2 ≠ []) (hl : l1.length + l2.length ≤ 1000) : Mk G (tOp (rCatT K) t u) (.tuple (l1 ++ l2)) := fun σ H Q E q =>
  h σ H _ E fun v H1 S1 d1 => h2 σ H1 _ (E.same S1) fun w H2 S2 d2 => by
    obtain ⟨a, xs, rfl, ha, hx⟩ := dat_tup (d1.same S2)
    obtain ⟨b, ys, rfl, hb, hy⟩ := dat_tup d2
    have lx := hx.len
    have ly := hy.len
    refine ⟨a, b, xs, ys, rfl, rfl, SqT.of ha, SqT.of hb, fun z => ?_, by rw [lx, ly, sizeLine_eq]; omega, fun z => ?_, fun _ p np => q _ _ ((S1.trans S2).trans (same_new np)) (.tup upd_same (datAll_append (hx.same (same_new np)) (hy.same (same_new np))))⟩
    · rw [z] at lx
      exact n1 (List.length_eq_zero_iff.mp lx.symm)
    · rw [z] at ly
      exact absurd (List.length_eq_zero_iff.mp ly.symm) n2
theorem dat_two {H : Hp} {vs : List V} {d e : PyData} (h : DatAll H vs [d, e]) : ∃ v w : V, vs = [v, w] ∧ Dat H v d ∧ Dat H w e := by
  cases h with
  | cons a h =>
    cases h with
    | cons b h =>
      cases h
      exact ⟨_, _, rfl, a, b⟩
theorem use_tup {G : List (Nat × PyData)} {σ : L2.St} {H : Hp} {Q : VK} {u : TA} {ds : List PyData} (M : Mks G u ds) (hl : ds.length ≤ 1000) (E : EnvOk G σ H) (k : ∀ (vs : List V) (H1 : Hp) (p : Addr), Same H H1 → DatAll H1 vs ds → H1 p = none → Q (.ref p) (upd H1 p (.tup vs))) : tTup u σ H Q :=
  M σ H _ E fun vs H1 S1 dd => ⟨by rw [dd.len, sizeLine_eq]; omega, fun p np => k vs H1 p S1 dd np⟩
theorem use_par {G : List (Nat × PyData)} {σ : L2.St} {H : Hp} {D : Ends} {u : TA} {d e : PyData} {i j : Nat} (M : Mks G u [d, e]) (E : EnvOk G σ H) (k : ∀ (v w : V) (H1 : Hp), Same H H1 → Dat H1 v d → Dat H1 w e → D.nx ((σ.set i (some v)).set j (some w)) H1) : tPar i j u D σ H :=
  M σ H _ E fun vs H1 S1 dd => by
    obtain ⟨v, w, rfl, a, b⟩ := dat_two dd
    exact ⟨v, w, rfl, k v w H1 S1 a b⟩
theorem use_call {G : List (Nat × PyData)} {σ : L2.St} {H : Hp} {Q : VK} {t : TE} {d : PyData} {sp : Sp} {E0 : XK} (M : Mk G t d) (E : EnvOk G σ H) (k : ∀ (v : V) (H1 : Hp), Same H H1 → Dat H1 v d → sp [v] H1 Q E0) : tCall sp [] E0 (tCons t tNil) σ H Q :=
  M σ H _ E fun v H1 S1 dd => k v H1 S1 dd
mutual
/-- no list within -/
def noL : PyData → Bool
  | .list _ => false
  | .tuple l => noLs l
  | _ => true
def noLs : List PyData → Bool
  | [] => true
  | d :: ds => noL d && noLs ds
end
mutual
theorem dat_noL {H : Hp} {L : Addr} {ys : List V} (hL : H L = some (.lst ys)) : ∀ {v : V} {d : PyData}, noL d = true → Dat H v d → Dat (noR L H) v d
  | _, _, _, .non => .non
  | _, _, _, .bl b => .bl b
  | _, _, _, .int i => .int i
  | _, _, _, .str x h => .str x h
  | _, _, h, .lst (a := a) ha hx => by
    rw [noL] at h
    cases h
  | _, _, h, .tup (a := a) ha hx => by
    rw [noL] at h
    refine .tup (noR_at ha fun e => ?_) (dat_noLs hL h hx)
    rw [e, hL] at ha
    cases ha
  | _, _, _, .d0 (a := a) ha => by
    refine .d0 (noR_at ha fun e => ?_)
    rw [e, hL] at ha
    cases ha
theorem dat_noLs {H : Hp} {L : Addr} {ys : List V} (hL : H L = some (.lst ys)) : ∀ {vs : List V} {ds : List PyData}, noLs ds = true → DatAll H vs ds → DatAll (noR L H) vs ds
  | _, _, _, .nil => .nil
  | _, _, h, .cons t u => by
    rw [noLs, Bool.and_eq_true] at h
    exact .cons (dat_noL hL h.1 t) (dat_noLs hL h.2 u)
end
/-- the variable i holds a list of data, which no value holds -/
def ST (Hi : Hp) (G : List (Nat × PyData)) (i : Nat) (ds : List PyData) (σ : L2.St) (H : Hp) : Prop :=
  ∃ (L : Addr) (zs : List V) (H0 : Hp), σ[i]? = some (some (.ref L)) ∧ H L = some (.lst zs) ∧ H0 L = none ∧ Same Hi H0 ∧ Same H0 H ∧ DatAll H0 zs ds ∧ EnvOk G σ H0
theorem ST.env {Hi : Hp} {G : List (Nat × PyData)} {i : Nat} {ds : List PyData} {σ : L2.St} {H : Hp} (S : ST Hi G i ds σ H) : EnvOk G σ H := by
  obtain ⟨L, zs, H0, h1, h2, h3, h4, h5, h6, h7⟩ := S
  exact h7.same h5
theorem EnvOk.set {G : List (Nat × PyData)} {σ : L2.St} {H : Hp} {i : Nat} {v : V} (E : EnvOk G σ H) (hn : ∀ p ∈ G, p.1 ≠ i) : EnvOk G (σ.set i (some v)) H := fun p hp => by
  obtain ⟨u, a, b⟩ := E p hp
  exact ⟨u, by rw [List.getElem?_set_ne (fun z => hn p hp z.symm)]; exact a, b⟩
theorem EnvOk.put {G : List (Nat × PyData)} {σ : L2.St} {H : Hp} {i : Nat} {v : V} {d : PyData} (E : EnvOk G σ H) (hn : ∀ p ∈ G, p.1 ≠ i) (hi : i < σ.length) (h : Dat H v d) : EnvOk ((i, d) :: G) (σ.set i (some v)) H := fun p hp => by
  rcases List.mem_cons.mp hp with rfl | hp
  · exact ⟨v, List.getElem?_set_self hi, h⟩
  · exact E.set hn p hp
theorem at_len {σ : L2.St} {i : Nat} {x : Option V} (h : σ[i]? = some x) : i < σ.length := (List.getElem?_eq_some_iff.mp h).1
/-- found = [..] -/
theorem st_new {G : List (Nat × PyData)} {Hi : Hp} {i : Nat} {ds : List PyData} {σ : L2.St} {H : Hp} {u : TA} {Q : VK} (E : EnvOk G σ H) (S : Same Hi H) (M : Mks G u ds) (hl : ds.length ≤ 1000) (hn : ∀ p ∈ G, p.1 ≠ i) (hi : i < σ.length)
    (k : ∀ (p : Addr) (H' : Hp), ST Hi G i ds (σ.set i (some (.ref p))) H' → Q (.ref p) H') : tLst u σ H Q :=
  M σ H _ E fun vs H1 S1 d1 => ⟨by rw [d1.len, sizeLine_eq]; omega, fun p np => k p _ ⟨p, vs, H1, List.getElem?_set_self hi, upd_same, np, S.trans S1, same_new np, d1, (E.same S1).set hn⟩⟩
/-- found = found + [..] -/
theorem st_cat {G : List (Nat × PyData)} {Hi : Hp} {i : Nat} {ds es : List PyData} {σ : L2.St} {H : Hp} {u : TA} {Q : VK} (S : ST Hi G i ds σ H) (M : Mks G u es) (hl : ds.length + es.length ≤ 1000) (hn : ∀ p ∈ G, p.1 ≠ i)
    (k : ∀ (p : Addr) (H' : Hp), ST Hi G i (ds ++ es) (σ.set i (some (.ref p))) H' → Q (.ref p) H') : tOp rCat (tVar i) (tLst u) σ H Q := by
  obtain ⟨L, zs, H0, h1, h2, h3, h4, h5, h6, h7⟩ := S
  refine ⟨_, h1, M σ H _ (h7.same h5) fun vs H1 S1 d1 => ⟨by rw [d1.len, sizeLine_eq]; omega, fun l nl => ?_⟩⟩
  have Sl := same_new (o := HO.lst vs) nl
  have T := (h5.trans S1).trans Sl
  have lz := h6.len
  have lv := d1.len
  refine ⟨L, l, zs, vs, rfl, rfl, Sl _ _ (S1 _ _ h2), upd_same, by rw [lz, lv, sizeLine_eq]; omega, fun p np => ?_⟩
  exact k p _ ⟨p, zs ++ vs, _, List.getElem?_set_self (at_len h1), upd_same, np, h4.trans T, same_new np, datAll_append (h6.same T) (d1.same Sl), (h7.same T).set hn⟩
theorem noR_same {L : Addr} {H0 H : Hp} (n : H0 L = none) (S : Same H0 H) : Same H0 (noR L H) := fun b o e => noR_at (S b o e) fun z => by
  rw [z, n] at e
  cases e
theorem noR_to {L : Addr} {H : Hp} {o : HO} : Same (noR L H) (upd H L o) := fun b x e => by
  unfold noR at e
  by_cases c : b = L
  · rw [if_pos c] at e
    cases e
  · rw [if_neg c] at e
    rw [upd_ne c]
    exact e
/-- found.append(..) -/
theorem st_app {K : PySem.W.Frag} {G : List (Nat × PyData)} {Hi : Hp} {i : Nat} {ds : List PyData} {d : PyData} {σ : L2.St} {H : Hp} {t : TE} {Q : VK} (S : ST Hi G i ds σ H) (M : Mk G t d) (hf : noL d = true) (hl : ds.length ≤ 1000)
    (k : ∀ H' : Hp, ST Hi G i (ds ++ [d]) σ H' → Q .non H') : tBM K "list" rAppend (tVar i) (tCons t tNil) σ H Q := by
  obtain ⟨L, zs, H0, h1, h2, h3, h4, h5, h6, h7⟩ := S
  refine ⟨_, h1, .inl ⟨rfl, _, SqL.of h2⟩, M σ H _ (h7.same h5) fun v H1 S1 d1 => ?_⟩
  have lz := h6.len
  have hL := S1 _ _ h2
  have T := noR_same h3 (h5.trans S1)
  refine ⟨L, zs, v, rfl, rfl, hL, by rw [lz, sizeLine_eq]; omega, k _ ⟨L, zs ++ [v], noR L H1, h1, upd_same, if_pos rfl, h4.trans T, noR_to, datAll_append (h6.same T) (.cons (dat_noL hL hf d1) .nil), h7.same T⟩⟩
/-- another variable is stored -/
theorem st_set {G : List (Nat × PyData)} {Hi : Hp} {i j : Nat} {ds : List PyData} {d : PyData} {σ : L2.St} {H : Hp} {v : V} (S : ST Hi G i ds σ H) {H1 : Hp} (S1 : Same H H1) (d1 : Dat H1 v d) (hf : noL d = true) (hn : ∀ p ∈ G, p.1 ≠ j) (hij : j ≠ i) (hj : j < σ.length) :
    ST Hi ((j, d) :: G) i ds (σ.set j (some v)) H1 := by
  obtain ⟨L, zs, H0, h1, h2, h3, h4, h5, h6, h7⟩ := S
  have hL := S1 _ _ h2
  have T := noR_same h3 (h5.trans S1)
  exact ⟨L, zs, noR L H1, by rw [List.getElem?_set_ne hij]; exact h1, hL, if_pos rfl, h4.trans T, noR_sub, h6.same T, (h7.same T).put hn hj (dat_noL hL hf d1)⟩
theorem ST.out {Hi : Hp} {G : List (Nat × PyData)} {i : Nat} {ds : List PyData} {σ : L2.St} {H : Hp} (S : ST Hi G i ds σ H) : ∃ (L : Addr) (zs : List V), σ[i]? = some (some (.ref L)) ∧ H L = some (.lst zs) ∧ Same Hi H ∧ DatAll H zs ds := by
  obtain ⟨L, zs, H0, h1, h2, h3, h4, h5, h6, h7⟩ := S
  exact ⟨L, zs, h1, h2, h4.trans h5, h6.same h5⟩
/-! statements -/
section
variable {G : List (Nat × PyData)} {Hi : Hp} {i : Nat} {ds es : List PyData} {σ : L2.St} {H : Hp} {u : TA} {D : Ends} {R : TS}
theorem sq_tup {g : TG} (M : Mks G u ds) (hl : ds.length ≤ 1000) (E : EnvOk G σ H) (k : ∀ (vs : List V) (H1 : Hp) (p : Addr), Same H H1 → DatAll H1 vs ds → H1 p = none → g (.ref p) σ (upd H1 p (.tup vs)) (R D)) : tSeq (tAsg (tTup u) g) R D σ H := use_tup (Q := fun v H1 => g v σ H1 (R D)) M hl E k
theorem sq_new (E : EnvOk G σ H) (S : Same Hi H) (M : Mks G u ds) (hl : ds.length ≤ 1000) (hn : ∀ p ∈ G, p.1 ≠ i) (hi : i < σ.length)
    (k : ∀ (p : Addr) (H' : Hp), ST Hi G i ds (σ.set i (some (.ref p))) H' → R D (σ.set i (some (.ref p))) H') : tSeq (tAsg (tLst u) (gName i)) R D σ H := st_new (Q := fun v H1 => R D (σ.set i (some v)) H1) E S M hl hn hi k
theorem sq_cat (S : ST Hi G i ds σ H) (M : Mks G u es) (hl : ds.length + es.length ≤ 1000) (hn : ∀ p ∈ G, p.1 ≠ i)
    (k : ∀ (p : Addr) (H' : Hp), ST Hi G i (ds ++ es) (σ.set i (some (.ref p))) H' → R D (σ.set i (some (.ref p))) H') : tSeq (tAsg (tOp rCat (tVar i) (tLst u)) (gName i)) R D σ H := st_cat (Q := fun v H1 => R D (σ.set i (some v)) H1) S M hl hn k
theorem rt_cat (S : ST Hi G i ds σ H) (M : Mks G u es) (hl : ds.length + es.length ≤ 1000) (hn : ∀ p ∈ G, p.1 ≠ i)
    (k : ∀ (p : Addr) (H' : Hp), ST Hi G i (ds ++ es) (σ.set i (some (.ref p))) H' → D.rt (.ref p) H') : tRet (tOp rCat (tVar i) (tLst u)) D σ H := st_cat (Q := D.rt) S M hl hn k
theorem sq_app {K : PySem.W.Frag} {d : PyData} {t : TE} (S : ST Hi G i ds σ H) (M : Mk G t d) (hf : noL d = true) (hl : ds.length ≤ 1000)
    (k : ∀ H' : Hp, ST Hi G i (ds ++ [d]) σ H' → R D σ H') : tSeq (tDrop (tBM K "list" rAppend (tVar i) (tCons t tNil))) R D σ H := st_app (Q := fun _ H1 => R D σ H1) S M hf hl k
theorem sq_par {d e : PyData} {i j : Nat} (M : Mks G u [d, e]) (E : EnvOk G σ H) (k : ∀ (v w : V) (H1 : Hp), Same H H1 → Dat H1 v d → Dat H1 w e → R D ((σ.set i (some v)).set j (some w)) H1) : tSeq (tPar i j u) R D σ H := use_par (D := { D with nx := R D }) M E k
end
end K6
set_option maxRecDepth 100000
set_option maxHeartbeats 8000000
namespace K6
open PySem PySem.Spec PyProof.Rows L2
/-! ### sizes, as the table gives them -/
theorem at_size {z : Str} {m : Nat} {p : List PyData → Bool} {sz : List PyData → Int} (hz : ∀ ds, zOf z ds = sz ds) (hb : ∀ ds : List PyData, p ds = true → ∃ n : Nat, sz ds = ((n : Nat) : Int) ∧ ((n : Nat) : Int) < big)
    (H : Hp) (a : Addr) (xs : List V) (ds : List PyData) (Q : VK) (ha : H a = some (.tup xs)) (hx : DatAll H xs ds) (hl : ds.length = m) (hp : p ds = true) (q : ∀ (H' : Hp) (n : Nat), Same H H' → n = (zOf z ds).toNat → n < bigN → Q (.int (n : Nat)) H') : spSize m p sz [.ref a] H Q E0 :=
  ⟨a, xs, ds, rfl, ha, hx, hl, hp, fun H' S => by
    obtain ⟨n, e, hn⟩ := hb ds hp
    rw [e]
    exact q H' n S (by rw [hz, e, Int.toNat_natCast]) (by rw [big_nat] at hn; omega)⟩
theorem at_word (H : Hp) (a : Addr) (xs : List V) (ds : List PyData) (Q : VK) (ha : H a = some (.tup xs)) (hx : DatAll H xs ds) (hl : ds.length = 2) (hp : pWord ds = true) (q : ∀ (H' : Hp) (n : Nat), Same H H' → n = (zOf "word" ds).toNat → n < bigN → Q (.int (n : Nat)) H') : spWordSize [.ref a] H Q E0 :=
  ⟨a, xs, ds, rfl, ha, hx, Nat.le_of_eq hl.symm, hp, fun H' S h1 h2 => by
    obtain ⟨n, e, hn⟩ := zb_word ds hp
    have hz : zOf "word" ds = zWord ds := rfl
    rw [e]
    exact q H' n S (by rw [hz, e, Int.toNat_natCast]) (by rw [big_nat] at hn; omega)⟩
/-! ### the tables -/
theorem lk_mem {α β : Type} [BEq α] [LawfulBEq α] {z : α} {c : β} : ∀ {l : List (α × β)}, l.lookup z = some c → (z, c) ∈ l
  | [], h => by cases h
  | (k, v) :: l, h => by
    rw [List.lookup] at h
    cases e : z == k with
    | true =>
      rw [e] at h
      cases h
      rw [eq_of_beq e]
      exact List.mem_cons_self ..
    | false =>
      rw [e] at h
      exact List.mem_cons_of_mem _ (lk_mem h)
theorem lk_none {α β : Type} [BEq α] [LawfulBEq α] {z : α} : ∀ {l : List (α × β)}, l.lookup z = none → z ∉ l.map (·.1)
  | [], _, h => by cases h
  | (k, v) :: l, h, hm => by
    rw [List.lookup] at h
    cases e : z == k with
    | true =>
      rw [e] at h
      cases h
    | false =>
      rw [e] at h
      rcases List.mem_cons.mp hm with x | x
      · rw [show z = k from x, beq_self_eq_true] at e
        cases e
      · exact lk_none h x
theorem lk_nodup {β : Type} {a : Addr} {c : β} : ∀ {l : List (Addr × β)}, (l.map (·.1)).Nodup → (a, c) ∈ l → l.lookup a = some c
  | [], _, h => by cases h
  | (k, v) :: l, nd, h => by
    have nd' := List.nodup_cons.mp nd
    rw [List.lookup]
    rcases List.mem_cons.mp h with x | x
    · cases x
      rw [beq_self_eq_true]
    · have ne : (a == k) = false := beq_eq_false_iff_ne.mpr fun e => nd'.1 (List.mem_map.mpr ⟨(a, c), x, e⟩)
      rw [ne]
      exact lk_nodup nd'.2 x
theorem lk_map {α β γ : Type} [BEq α] (g : β → γ) (z : α) : ∀ l : List (α × β), (l.map fun q => (q.1, g q.2)).lookup z = (l.lookup z).map g
  | [] => rfl
  | (k, v) :: l => by
    rw [List.map_cons, List.lookup, List.lookup]
    cases e : z == k with
    | true => rfl
    | false => exact lk_map g z l
def keyS (e : DictEntry) : Option Str := match e.key with
  | .str x _ => some x
  | _ => none
theorem nsIn_miss {K : PySem.W.Frag} {d : Addr} {oc : Value} {od : Option Addr} {es : Array DictEntry} {n : Nat} {sl : Array (Option Value)} (h : K.lookup d = some ⟨oc, od, .dict es n, sl⟩) (ks : List Str) (hk : es.toList.map keyS = ks.map some) {z : Str} (hz : z ∉ ks) : PySem.W.nsIn K d z = some none := by
  have e1 : es.toList.find? (·.key.isStr z) = none := by
    rw [List.find?_eq_none]
    intro e he hs
    have hm : keyS e ∈ ks.map some := by
      rw [← hk]
      exact List.mem_map.mpr ⟨e, he, rfl⟩
    obtain ⟨x, hx, ex⟩ := List.mem_map.mp hm
    cases hkey : e.key with
    | str y t =>
      unfold keyS at ex
      rw [hkey] at ex hs
      have e0 : x = y := Option.some.inj ex
      have e3 : y = z := eq_of_beq hs
      rw [← e3, ← e0] at hz
      exact hz hx
    | _ =>
      rw [hkey] at hs
      cases hs
  have e2 : es.toList.any (·.refKey) = false := by
    rw [List.any_eq_false]
    intro e he hr
    have hm : keyS e ∈ ks.map some := by
      rw [← hk]
      exact List.mem_map.mpr ⟨e, he, rfl⟩
    obtain ⟨x, hx, ex⟩ := List.mem_map.mp hm
    cases hkey : e.key with
    | str y t =>
      unfold DictEntry.refKey at hr
      rw [hkey] at hr
      cases hr
    | _ =>
      unfold keyS at ex
      rw [hkey] at ex
      cases ex
  unfold PySem.W.nsIn
  rw [h]
  dsimp only
  rw [e1, e2]
  rfl
def tbl (f_subset f_word f_arr f_walk f_cycle f_matching f_perm f_tree f_string f_row f_power f_deco : Addr) : List (Str × Kind) := [("subset", ⟨3, f_subset, pSubset⟩), ("word", ⟨2, f_word, pWord⟩), ("arrangement", ⟨2, f_arr, pArr⟩), ("walk", ⟨6, f_walk, pWalk⟩), ("cycle", ⟨2, f_cycle, pCycle⟩), ("matching", ⟨2, f_matching, pMatching⟩), ("permutation", ⟨3, f_perm, pPerm⟩), ("tree", ⟨2, f_tree, pTree⟩), ("string", ⟨3, f_string, pString⟩), ("product", ⟨2, f_row, pRow⟩), ("choice", ⟨2, f_row, pRow⟩), ("power", ⟨3, f_power, pPower⟩), ("decorated", ⟨3, f_deco, pDeco⟩)]
def sps (f_subset f_word f_arr f_walk f_cycle f_matching f_perm f_tree f_string f_row f_power f_deco : Addr) : List (Addr × Sp) := [(f_subset, spT 3 pSubset), (f_word, spT 2 pWord), (f_arr, spT 2 pArr), (f_walk, spT 6 pWalk), (f_cycle, spT 2 pCycle), (f_matching, spT 2 pMatching), (f_perm, spT 3 pPerm), (f_tree, spT 2 pTree), (f_string, spT 3 pString), (f_row, spT 2 pRow), (f_power, spT 3 pPower), (f_deco, spT 3 pDeco)]
def szs (f_subsize f_wordsize f_arrsize f_walksize f_cycsize f_matsize f_permsize f_treesize f_strsize : Addr) : List (Addr × Sp) := [(f_subsize, spSize 3 pSubset zSubset), (f_wordsize, spWordSize), (f_arrsize, spSize 2 pArr zArr), (f_walksize, spSize 6 pWalk zWalk), (f_cycsize, spSize 2 pCycle zCycle), (f_matsize, spSize 2 pMatching zMatch), (f_permsize, spSize 3 pPerm zPerm), (f_treesize, spSize 2 pTree zTree), (f_strsize, spSize 3 pString zStr)]
theorem tbl_all {Q : Str → Nat → Addr → Prop} {f_subset f_word f_arr f_walk f_cycle f_matching f_perm f_tree f_string f_row f_power f_deco : Addr} (h0 : Q "subset" 3 f_subset) (h1 : Q "word" 2 f_word) (h2 : Q "arrangement" 2 f_arr) (h3 : Q "walk" 6 f_walk) (h4 : Q "cycle" 2 f_cycle) (h5 : Q "matching" 2 f_matching) (h6 : Q "permutation" 3 f_perm) (h7 : Q "tree" 2 f_tree) (h8 : Q "string" 3 f_string) (h9 : Q "product" 2 f_row) (h10 : Q "choice" 2 f_row) (h11 : Q "power" 3 f_power) (h12 : Q "decorated" 3 f_deco) : ∀ q ∈ tbl f_subset f_word f_arr f_walk f_cycle f_matching f_perm f_tree f_string f_row f_power f_deco, Q q.1 q.2.len q.2.f := by
  intro q hq
  unfold tbl at hq
  rcases List.mem_cons.mp hq with rfl | hq
  · exact h0
  rcases List.mem_cons.mp hq with rfl | hq
  · exact h1
  rcases List.mem_cons.mp hq with rfl | hq
  · exact h2
  rcases List.mem_cons.mp hq with rfl | hq
  · exact h3
  rcases List.mem_cons.mp hq with rfl | hq
  · exact h4
  rcases List.mem_cons.mp hq with rfl | hq
  · exact h5
  rcases List.mem_cons.mp hq with rfl | hq
  · exact h6
  rcases List.mem_cons.mp hq with rfl | hq
  · exact h7
  rcases List.mem_cons.mp hq with rfl | hq
  · exact h8
  rcases List.mem_cons.mp hq with rfl | hq
  · exact h9
  rcases List.mem_cons.mp hq with rfl | hq
  · exact h10
  rcases List.mem_cons.mp hq with rfl | hq
  · exact h11
  rcases List.mem_cons.mp hq with rfl | hq
  · exact h12
  cases hq
theorem tbl_sps {f_subset f_word f_arr f_walk f_cycle f_matching f_perm f_tree f_string f_row f_power f_deco : Addr} : ∀ q ∈ tbl f_subset f_word f_arr f_walk f_cycle f_matching f_perm f_tree f_string f_row f_power f_deco, (q.2.f, spT q.2.len q.2.p) ∈ sps f_subset f_word f_arr f_walk f_cycle f_matching f_perm f_tree f_string f_row f_power f_deco := by
  intro q hq
  unfold tbl at hq
  rcases List.mem_cons.mp hq with rfl | hq
  · exact List.mem_of_getElem? (i := 0) rfl
  rcases List.mem_cons.mp hq with rfl | hq
  · exact List.mem_of_getElem? (i := 1) rfl
  rcases List.mem_cons.mp hq with rfl | hq
  · exact List.mem_of_getElem? (i := 2) rfl
  rcases List.mem_cons.mp hq with rfl | hq
  · exact List.mem_of_getElem? (i := 3) rfl
  rcases List.mem_cons.mp hq with rfl | hq
  · exact List.mem_of_getElem? (i := 4) rfl
  rcases List.mem_cons.mp hq with rfl | hq
  · exact List.mem_of_getElem? (i := 5) rfl
  rcases List.mem_cons.mp hq with rfl | hq
  · exact List.mem_of_getElem? (i := 6) rfl
  rcases List.mem_cons.mp hq with rfl | hq
  · exact List.mem_of_getElem? (i := 7) rfl
  rcases List.mem_cons.mp hq with rfl | hq
  · exact List.mem_of_getElem? (i := 8) rfl
  rcases List.mem_cons.mp hq with rfl | hq
  · exact List.mem_of_getElem? (i := 9) rfl
  rcases List.mem_cons.mp hq with rfl | hq
  · exact List.mem_of_getElem? (i := 9) rfl
  rcases List.mem_cons.mp hq with rfl | hq
  · exact List.mem_of_getElem? (i := 10) rfl
  rcases List.mem_cons.mp hq with rfl | hq
  · exact List.mem_of_getElem? (i := 11) rfl
  cases hq
theorem kindP_part {f_subset f_word f_arr f_walk f_cycle f_matching f_perm f_tree f_string f_row f_power f_deco : Addr} : kindP (fun z => (tbl f_subset f_word f_arr f_walk f_cycle f_matching f_perm f_tree f_string f_row f_power f_deco).lookup z) = partB := by
  funext d
  have e : ∀ z, kinds.lookup z = ((tbl f_subset f_word f_arr f_walk f_cycle f_matching f_perm f_tree f_string f_row f_power f_deco).lookup z).map fun c => (c.len, c.p) := fun z => lk_map (fun c : Kind => (c.len, c.p)) z (tbl f_subset f_word f_arr f_walk f_cycle f_matching f_perm f_tree f_string f_row f_power f_deco)
  cases d with
  | tuple l =>
    cases l with
    | nil => rfl
    | cons x ds =>
      cases x with
      | str z =>
        show (match (tbl f_subset f_word f_arr f_walk f_cycle f_matching f_perm f_tree f_string f_row f_power f_deco).lookup z with
          | some c => decide (ds.length + 1 = c.len) && c.p (.str z :: ds)
          | none => false) = (match kinds.lookup z with
          | some c => decide (ds.length + 1 = c.1) && c.2 (.str z :: ds)
          | none => false)
        rw [e z]
        cases (tbl f_subset f_word f_arr f_walk f_cycle f_matching f_perm f_tree f_string f_row f_power f_deco).lookup z <;> rfl
      | _ => rfl
  | _ => rfl
section
variable {P : Program} {w : World} {K : PySem.W.Frag} {mg : Str → Option Value} {base : Heap}
theorem kinds_mk {dL dC f_subset f_word f_arr f_walk f_cycle f_matching f_perm f_tree f_string f_row f_power f_deco : Addr} (gL : mg "LENGTHS" = some (.ref dL)) (gC : mg "CHECKS" = some (.ref dC)) (kL : ∃ es n, KDict K w dL es n) (kC : ∃ es n, KDict K w dC es n)
    (miss : ∀ z, z ∉ (tbl f_subset f_word f_arr f_walk f_cycle f_matching f_perm f_tree f_string f_row f_power f_deco).map (·.1) → PySem.W.nsIn K dL z = some none) (hL : ∀ q ∈ tbl f_subset f_word f_arr f_walk f_cycle f_matching f_perm f_tree f_string f_row f_power f_deco, ∃ t, PySem.W.nsIn K dL q.1 = some (some (.int q.2.len t))) (hC : ∀ q ∈ tbl f_subset f_word f_arr f_walk f_cycle f_matching f_perm f_tree f_string f_row f_power f_deco, PySem.W.nsIn K dC q.1 = some (some (.ref q.2.f)))
    (nd : ((sps f_subset f_word f_arr f_walk f_cycle f_matching f_perm f_tree f_string f_row f_power f_deco).map (·.1)).Nodup) (held : ∀ q ∈ sps f_subset f_word f_arr f_walk f_cycle f_matching f_perm f_tree f_string f_row f_power f_deco, Held P w K mg base 10 q.1 q.2) : Kinds P w K mg base (fun z => (tbl f_subset f_word f_arr f_walk f_cycle f_matching f_perm f_tree f_string f_row f_power f_deco).lookup z) dL dC fun f => (sps f_subset f_word f_arr f_walk f_cycle f_matching f_perm f_tree f_string f_row f_power f_deco).lookup f :=
  ⟨gL, gC, kL, kC, fun z h => miss z (lk_none h), fun z c h => hL _ (lk_mem h), fun z c h => hC _ (lk_mem h), fun f sp h => held _ (lk_mem h), fun z c h => ⟨_, lk_nodup nd (tbl_sps _ (lk_mem h)), fun H a xs ds Q ha hx hl _ q => ⟨a, xs, ds, rfl, ha, hx, hl, q⟩⟩⟩
theorem sizes_mk {dS f_subsize f_wordsize f_arrsize f_walksize f_cycsize f_matsize f_permsize f_treesize f_strsize : Addr} (g : mg "LEAF_SIZES" = some (.ref dS)) (k : ∃ es n, KDict K w dS es n) (nd : ((szs f_subsize f_wordsize f_arrsize f_walksize f_cycsize f_matsize f_permsize f_treesize f_strsize).map (·.1)).Nodup) (held : ∀ q ∈ szs f_subsize f_wordsize f_arrsize f_walksize f_cycsize f_matsize f_permsize f_treesize f_strsize, Held P w K mg base 9 q.1 q.2)
    (h0 : PySem.W.nsIn K dS "subset" = some (some (.ref f_subsize))) (h1 : PySem.W.nsIn K dS "word" = some (some (.ref f_wordsize))) (h2 : PySem.W.nsIn K dS "arrangement" = some (some (.ref f_arrsize))) (h3 : PySem.W.nsIn K dS "walk" = some (some (.ref f_walksize))) (h4 : PySem.W.nsIn K dS "cycle" = some (some (.ref f_cycsize))) (h5 : PySem.W.nsIn K dS "matching" = some (some (.ref f_matsize))) (h6 : PySem.W.nsIn K dS "permutation" = some (some (.ref f_permsize))) (h7 : PySem.W.nsIn K dS "tree" = some (some (.ref f_treesize))) (h8 : PySem.W.nsIn K dS "string" = some (some (.ref f_strsize))) : Sizes P w K mg base dS fun f => (szs f_subsize f_wordsize f_arrsize f_walksize f_cycsize f_matsize f_permsize f_treesize f_strsize).lookup f := by
  refine ⟨g, k, fun f sp h => held _ (lk_mem h), fun z len p h hn => ?_⟩
  have hm := lk_mem h
  unfold kinds at hm
  rcases List.mem_cons.mp hm with e | hm
  · cases e
    exact ⟨_, _, h0, lk_nodup nd (List.mem_of_getElem? (i := 0) rfl), at_size (fun _ => rfl) zb_subset⟩
  rcases List.mem_cons.mp hm with e | hm
  · cases e
    exact ⟨_, _, h1, lk_nodup nd (List.mem_of_getElem? (i := 1) rfl), at_word⟩
  rcases List.mem_cons.mp hm with e | hm
  · cases e
    exact ⟨_, _, h2, lk_nodup nd (List.mem_of_getElem? (i := 2) rfl), at_size (fun _ => rfl) zb_arr⟩
  rcases List.mem_cons.mp hm with e | hm
  · cases e
    exact ⟨_, _, h3, lk_nodup nd (List.mem_of_getElem? (i := 3) rfl), at_size (fun _ => rfl) zb_walk⟩
  rcases List.mem_cons.mp hm with e | hm
  · cases e
    exact ⟨_, _, h4, lk_nodup nd (List.mem_of_getElem? (i := 4) rfl), at_size (fun _ => rfl) zb_cycle⟩
  rcases List.mem_cons.mp hm with e | hm
  · cases e
    exact ⟨_, _, h5, lk_nodup nd (List.mem_of_getElem? (i := 5) rfl), at_size (fun _ => rfl) zb_match⟩
  rcases List.mem_cons.mp hm with e | hm
  · cases e
    exact ⟨_, _, h6, lk_nodup nd (List.mem_of_getElem? (i := 6) rfl), at_size (fun _ => rfl) zb_perm⟩
  rcases List.mem_cons.mp hm with e | hm
  · cases e
    exact ⟨_, _, h7, lk_nodup nd (List.mem_of_getElem? (i := 7) rfl), at_size (fun _ => rfl) zb_tree⟩
  rcases List.mem_cons.mp hm with e | hm
  · cases e
    exact ⟨_, _, h8, lk_nodup nd (List.mem_of_getElem? (i := 8) rfl), at_size (fun _ => rfl) zb_str⟩
  rcases List.mem_cons.mp hm with e | hm
  · cases e
    exact absurd hn (by decide +kernel)
  rcases List.mem_cons.mp hm with e | hm
  · cases e
    exact absurd hn (by decide +kernel)
  rcases List.mem_cons.mp hm with e | hm
  · cases e
    exact absurd hn (by decide +kernel)
  rcases List.mem_cons.mp hm with e | hm
  · cases e
    exact absurd hn (by decide +kernel)
  cases hm
end
end K6
set_option maxRecDepth 100000
set_option maxHeartbeats 4000000
namespace L2
open PySem PySem.Spec PyProof.Rows
section
variable {X : Cx} {a b c d : Expr} {ta tb tc td : TE} {pos : Pos}
/-- a op b op' c op'' d -/
def tChain3 (r r' r'' : R2) (ta tb tc td : TE) : TE := fun σ H Q => ta σ H fun x H1 => tb σ H1 fun y H2 => r x y H2 fun z H3 => ∃ k, z = .bl k ∧
  (if k = true then tc σ H3 fun w H4 => r' y w H4 fun z2 H5 => ∃ k2, z2 = .bl k2 ∧ (if k2 = true then td σ H5 fun t H6 => r'' w t H6 Q else Q (.bl false) H5) else Q (.bl false) H3)
theorem pe_chain3 {op op' op'' : CmpOp} {r r' r'' : R2} (ho : OpR X (compareOp op) r) (ho' : OpR X (compareOp op') r') (ho'' : OpR X (compareOp op'') r'') (ha : PE X a ta) (hb : PE X b tb) (hc : PE X c tc) (hd : PE X d td)
    (hm : lastMarks [op, op', op''] [b, c, d] = false := by with_unfolding_all rfl) : PE X (.Compare a [op, op', op''] [b, c, d] pos) (tChain3 r r' r'' ta tb tc td) := by
  refine ⟨fun pins s σ H Q I h => ?_⟩
  refine Compare_chain (thn (ha.run pins s σ H _ I h) fun v s1 ⟨x, H1, I1, r1, q1⟩ => chain_link (thn (hb.run pins s1 σ H1 _ I1 q1) fun u s2 ⟨y, H2, I2, r2, q2⟩ =>
    thn (ho pins s2 σ H2 x y v u _ I2 r1 r2 q2) fun d s3 ⟨z, H3, I3, r3, k, e, q3⟩ => ?_)) hm
  subst e
  cases r3
  refine wpAny_truthy_bool ?_
  cases k with
  | false => exact ite_ff ⟨.bl false, H3, I3, rfl, q3⟩
  | true =>
    refine ite_tt (chain_link (thn (hc.run pins s3 σ H3 _ I3 q3) fun w' s4 ⟨z', H4, I4, r4, q4⟩ => thn (ho' pins s4 σ H4 y z' u w' _ I4 r2 r4 q4) fun d' s5 ⟨z2, H5, I5, r5, k2, e2, q5⟩ => ?_))
    subst e2
    cases r5
    refine wpAny_truthy_bool ?_
    cases k2 with
    | false => exact ite_ff ⟨.bl false, H5, I5, rfl, q5⟩
    | true => exact ite_tt (chain_last (thn (hd.run pins s5 σ H5 _ I5 q5) fun t' s6 ⟨z3, H6, I6, r6, q6⟩ => ho'' pins s6 σ H6 z' z3 w' t' Q I6 r4 r6 q6))
end
/-- a comprehension over a range with a step -/
theorem lc_rangeC {lo c : Int} {n : Nat} {g : TG} {tt : TT} {te : TE} {vs : List Nat} {σ : St} {H1 : Hp} {D : Addr} {Qd : Hp → Prop} (Pv : Nat → Hp → Prop) (h0 : Pv 0 (upd H1 D (.lst [])))
    (hs : ∀ i H, i < n → Pv i H → g (.int (lo + (i : Nat) * c)) (wipe σ vs) H fun σ2 H2 => wipe σ2 vs = wipe σ vs ∧ tt σ2 H2 fun b H3 =>
      if b = true then te σ2 H3 fun y H4 => ∃ acc, H4 D = some (.lst acc) ∧ acc.length < sizeLine ∧ Pv (i + 1) (upd H4 D (.lst (acc ++ [y]))) else Pv (i + 1) H3) (hd : ∀ H, Pv n H → Qd H) :
    ∃ W : Nat → Nat → Hp → Prop, (∃ m, W 0 m (upd H1 D (.lst []))) ∧ ∀ i m H, W i m H →
      ((Itc lo c n).stop i H ∧ Qd H) ∨ ((Itc lo c n).go i H ∧ ∃ Nx : Hp → Prop, (∀ H', Nx H' → ∃ m', m' < m ∧ W (i + 1) m' H') ∧ ∀ x H', (Itc lo c n).yld i H x H' → g x (wipe σ vs) H' fun σ2 H2 => wipe σ2 vs = wipe σ vs ∧ tt σ2 H2 fun b H3 =>
        if b = true then te σ2 H3 fun y H4 => ∃ acc, H4 D = some (.lst acc) ∧ acc.length < sizeLine ∧ Nx (upd H4 D (.lst (acc ++ [y]))) else Nx H3) := by
  refine ⟨fun i m H => m = n - i ∧ i ≤ n ∧ Pv i H, ⟨n, by simp, Nat.zero_le _, h0⟩, ?_⟩
  rintro i m H ⟨rfl, hi, p⟩
  by_cases hlt : i < n
  · refine .inr ⟨hlt, Pv (i + 1), fun H' p' => ⟨n - (i + 1), by omega, rfl, hlt, p'⟩, fun x H' y => ?_⟩
    obtain ⟨e, y⟩ := y
    subst e y
    exact hs i _ hlt p
  · have e : i = n := by omega
    subst e
    exact .inl ⟨Nat.le_refl _, hd H p⟩
/-- a comprehension over a text -/
theorem lc_str {z : Str} {g : TG} {tt : TT} {te : TE} {vs : List Nat} {σ : St} {H1 : Hp} {D : Addr} {Qd : Hp → Prop} (Pv : Nat → Hp → Prop) (h0 : Pv 0 (upd H1 D (.lst [])))
    (hs : ∀ i c H, z.cps[i]? = some c → Pv i H → g (.str ⟨#[c]⟩) (wipe σ vs) H fun σ2 H2 => wipe σ2 vs = wipe σ vs ∧ tt σ2 H2 fun b H3 =>
      if b = true then te σ2 H3 fun y H4 => ∃ acc, H4 D = some (.lst acc) ∧ acc.length < sizeLine ∧ Pv (i + 1) (upd H4 D (.lst (acc ++ [y]))) else Pv (i + 1) H3) (hd : ∀ H, Pv z.cps.size H → Qd H) :
    ∃ W : Nat → Nat → Hp → Prop, (∃ m, W 0 m (upd H1 D (.lst []))) ∧ ∀ i m H, W i m H →
      ((Its z).stop i H ∧ Qd H) ∨ ((Its z).go i H ∧ ∃ Nx : Hp → Prop, (∀ H', Nx H' → ∃ m', m' < m ∧ W (i + 1) m' H') ∧ ∀ x H', (Its z).yld i H x H' → g x (wipe σ vs) H' fun σ2 H2 => wipe σ2 vs = wipe σ vs ∧ tt σ2 H2 fun b H3 =>
        if b = true then te σ2 H3 fun y H4 => ∃ acc, H4 D = some (.lst acc) ∧ acc.length < sizeLine ∧ Nx (upd H4 D (.lst (acc ++ [y]))) else Nx H3) := by
  refine ⟨fun i m H => m = z.cps.size - i ∧ i ≤ z.cps.size ∧ Pv i H, ⟨z.cps.size, by simp, Nat.zero_le _, h0⟩, ?_⟩
  rintro i m H ⟨rfl, hi, p⟩
  by_cases hlt : i < z.cps.size
  · refine .inr ⟨hlt, Pv (i + 1), fun H' p' => ⟨z.cps.size - (i + 1), by omega, rfl, hlt, p'⟩, fun x H' y => ?_⟩
    obtain ⟨e, c, hc, y⟩ := y
    subst e y
    exact hs i c _ hc p
  · have e : i = z.cps.size := by omega
    subst e
    exact .inl ⟨Nat.le_refl _, hd H p⟩
end L2
namespace K6
open PySem PySem.Spec PyProof.Rows L2
/-! ### size_of a leaf -/
theorem leaf_sz {z : Str} {ds : List PyData} {m : Nat} {p : List PyData → Bool} (hk : kinds.lookup z = some (m, p)) (hn : nestW z = false) (hl : ds.length + 1 = m) (hp : p (.str z :: ds) = true) :
    partB (.tuple (.str z :: ds)) = true ∧ leafD (.tuple (.str z :: ds)) = true ∧ nestedD (.tuple (.str z :: ds)) = [] := by
  have hB : partB (.tuple (.str z :: ds)) = true := by
    show (match kinds.lookup z with
      | some c => decide (ds.length + 1 = c.1) && c.2 (.str z :: ds)
      | none => false) = true
    rw [hk]
    show (decide (ds.length + 1 = m) && p (.str z :: ds)) = true
    rw [hp, decide_eq_true hl]
    rfl
  have hD : leafD (.tuple (.str z :: ds)) = true := by
    show (!nestW z) = true
    rw [hn]
    rfl
  exact ⟨hB, hD, leaf_nest hB hD⟩
theorem leaf_ms {z : Str} {ds : List PyData} {m : Nat} {p : List PyData → Bool} (hk : kinds.lookup z = some (m, p)) (hn : nestW z = false) (hl : ds.length + 1 = m) (hp : p (.str z :: ds) = true) (k : Nat) :
    wfT (k + 1) (.tuple (.str z :: ds)) = true ∧ msN (k + 1) (.tuple (.str z :: ds)) = some (1, (zOf z (.str z :: ds)).toNat) ∧ (zOf z (.str z :: ds)).toNat < bigN := by
  obtain ⟨hB, hD, en⟩ := leaf_sz hk hn hl hp
  have hlt : leafN (.tuple (.str z :: ds)) < bigN := by
    obtain ⟨n, e, h⟩ := zb_of hk hn hp
    show (zOf z (.str z :: ds)).toNat < bigN
    rw [e, Int.toNat_natCast]
    rw [big_nat] at h
    omega
  have ej : jsN (.tuple (.str z :: ds)) [] = leafN (.tuple (.str z :: ds)) := by
    unfold jsN
    rw [if_pos hD]
  refine ⟨?_, ?_, hlt⟩
  · show (partB _ && (nestedD _).all (wfT k)) = true
    rw [en, hB]
    rfl
  · rw [msN, en]
    show (if (2000 < (if leafD (.tuple (.str z :: ds)) = true then 1 else _)) ∨ bigN ≤ jsN (.tuple (.str z :: ds)) [] then none else some ((if leafD (.tuple (.str z :: ds)) = true then 1 else _), jsN (.tuple (.str z :: ds)) [])) = _
    rw [if_pos hD]
    have hb : ¬ (2000 < 1 ∨ bigN ≤ jsN (.tuple (.str z :: ds)) []) := by
      rw [ej]
      omega
    refine (if_neg hb).trans ?_
    show some (1, jsN (.tuple (.str z :: ds)) []) = _
    rw [ej]
    rfl
/-- size_of(a leaf) -/
theorem sz_leaf {z : Str} {ds : List PyData} {m : Nat} {p : List PyData → Bool} (hk : kinds.lookup z = some (m, p)) (hn : nestW z = false) (hl : ds.length + 1 = m) (hp : p (.str z :: ds) = true) {n : Nat} (hz : zOf z (.str z :: ds) = ((n : Nat) : Int))
    {v : V} {H : Hp} {Q : VK} {E : XK} (hd : Dat H v (.tuple (.str z :: ds))) (q : ∀ H', Same H H' → Q (.int ((n : Nat) : Int)) H') : spSzOf 2 [v] H Q E := by
  obtain ⟨a, b, _⟩ := leaf_ms hk hn hl hp 1
  rw [hz, Int.toNat_natCast] at b
  exact ⟨v, _, 1, n, rfl, hd, a, b, q⟩
theorem btw_of {lo hi i : Int} (h1 : lo ≤ i) (h2 : i ≤ hi) : btw lo hi (.int i) = true := by
  show (decide (lo ≤ i) && decide (i ≤ hi)) = true
  rw [decide_eq_true h1, decide_eq_true h2]
  rfl
section
variable {v : V} {H : Hp} {Q : VK} {E : XK}
theorem sz_subset {n k : Nat} (hk : k ≤ n) (hn : n ≤ 400) (hd : Dat H v (.tuple [.str "subset", .int (n : Int), .int (k : Int)])) (q : ∀ H', Same H H' → Q (.int ((chN n k : Nat) : Int)) H') : spSzOf 2 [v] H Q E := by
  refine sz_leaf (z := "subset") (m := 3) (p := pSubset) rfl (by decide +kernel) rfl ?_ ?_ hd q
  · show (btw 0 400 (.int (n : Int)) && btw 0 (n : Int) (.int (k : Int))) = true
    rw [btw_of (by omega) (by omega), btw_of (by omega) (by omega)]
    rfl
  · exact comb_ch hk
theorem sz_cycle {n : Nat} (h1 : 1 ≤ n) (hn : n ≤ 400) (hd : Dat H v (.tuple [.str "cycle", .int (n : Int)])) (q : ∀ H', Same H H' → Q (.int ((fac (n - 1) : Nat) : Int)) H') : spSzOf 2 [v] H Q E := by
  refine sz_leaf (z := "cycle") (m := 2) (ds := [.int (n : Int)]) (p := pCycle) rfl (by decide +kernel) rfl (show btw 1 400 (.int (n : Int)) = true from btw_of (by omega) (by omega)) ?_ hd q
  show ((Builtin.Math.factorialNat ((n : Int) - 1).toNat : Nat) : Int) = _
  rw [show ((n : Int) - 1).toNat = n - 1 by omega]
  rfl
theorem sz_tree {n : Nat} (h1 : 1 ≤ n) (hn : n ≤ 400) (hd : Dat H v (.tuple [.str "tree", .int (n : Int)])) (q : ∀ H', Same H H' → Q (.int ((n ^ (n - 2) : Nat) : Int)) H') : spSzOf 2 [v] H Q E := by
  refine sz_leaf (z := "tree") (m := 2) (ds := [.int (n : Int)]) (p := pTree) rfl (by decide +kernel) rfl (show btw 1 400 (.int (n : Int)) = true from btw_of (by omega) (by omega)) ?_ hd q
  show ((((n : Int).toNat ^ ((n : Int).toNat - 2) : Nat)) : Int) = _
  rw [Int.toNat_natCast]
theorem sz_match {m : Nat} (hm : m ≤ 200) (hd : Dat H v (.tuple [.str "matching", .int (m : Int)])) (q : ∀ H', Same H H' → Q (.int ((prodN (odds m) : Nat) : Int)) H') : spSzOf 2 [v] H Q E := by
  refine sz_leaf (z := "matching") (m := 2) (ds := [.int (m : Int)]) (p := pMatching) rfl (by decide +kernel) rfl (show btw 0 200 (.int (m : Int)) = true from btw_of (by omega) (by omega)) ?_ hd q
  show ((prodN (odds (m : Int).toNat) : Nat) : Int) = _
  rw [Int.toNat_natCast]
theorem sz_walk {n : Nat} {s e lo hi : Int} (hn : n ≤ 60) (h1 : -60 ≤ lo) (h2 : hi ≤ 60) (h3 : lo ≤ s) (h4 : s ≤ hi) (h5 : lo ≤ e) (h6 : e ≤ hi) (hd : Dat H v (.tuple [.str "walk", .int (n : Int), .int s, .int e, .int lo, .int hi]))
    (q : ∀ H', Same H H' → Q (.int ((walkW lo hi s n e : Nat) : Int)) H') : spSzOf 2 [v] H Q E := by
  refine sz_leaf (z := "walk") (m := 6) (p := pWalk) rfl (by decide +kernel) rfl ?_ ?_ hd q
  · show (([PyData.int s, .int e, .int lo, .int hi].all (btw (-60) 60)) && (btw 0 60 (.int (n : Int)) && (decide (lo ≤ s) && decide (s ≤ hi) && (decide (lo ≤ e) && decide (e ≤ hi))))) = true
    simp only [List.all_cons, List.all_nil]
    rw [btw_of (by omega) (by omega), btw_of (by omega) (by omega), btw_of (by omega) (by omega), btw_of (by omega) (by omega), btw_of (by omega) (by omega), decide_eq_true h3, decide_eq_true h4, decide_eq_true h5, decide_eq_true h6]
    rfl
  · show ((walkW lo hi s (n : Int).toNat e : Nat) : Int) = _
    rw [Int.toNat_natCast]
end
end K6
set_option maxRecDepth 100000
set_option maxHeartbeats 4000000
namespace K6
open PySem PySem.Spec PyProof.Rows L2
/-! ### readings that make known data: more of them -/
section
variable {G : List (Nat × PyData)} {t u w ta tb : TE}
/-- a test whose answer is known -/
def MkT (G : List (Nat × PyData)) (t : TT) (b : Bool) : Prop := ∀ (σ : L2.St) (H : Hp) (Q : Bool → Hp → Prop), EnvOk G σ H → (∀ H' : Hp, Same H H' → Q b H') → t σ H Q
theorem dat_bl {H : Hp} {v : V} {b : Bool} (h : Dat H v (.bool b)) : v = .bl b := by
  cases h
  rfl
theorem mkt {b : Bool} (h : Mk G t (.bool b)) : MkT G (tTest t) b := fun σ H Q E q => h σ H _ E fun v H1 S d => ⟨b, dat_bl d, q H1 S⟩
theorem mkt_b {b : Bool} (h : Mk G t (.bool b)) : MkT G (tB t) b := fun σ H Q E q => h σ H _ E fun v H1 S d => ⟨b, dat_bl d, q H1 S⟩
theorem mk_ifT {c : TT} {d : PyData} (h : MkT G c true) (ha : Mk G ta d) : Mk G (tIf c ta tb) d := fun σ H Q E q => h σ H _ E fun H1 S1 => (if_pos rfl : (if true = true then ta σ H1 Q else tb σ H1 Q) = _) ▸ ha σ H1 Q (E.same S1) fun v H2 S2 d2 => q v H2 (S1.trans S2) d2
theorem mk_ifF {c : TT} {d : PyData} (h : MkT G c false) (hb : Mk G tb d) : Mk G (tIf c ta tb) d := fun σ H Q E q => h σ H _ E fun H1 S1 => (if_neg Bool.false_ne_true : (if false = true then ta σ H1 Q else tb σ H1 Q) = _) ▸ hb σ H1 Q (E.same S1) fun v H2 S2 d2 => q v H2 (S1.trans S2) d2
theorem mk_cmp {i j : Int} {b : Bool} {g : Int → Int → V} (h : Mk G t (.int i)) (h2 : Mk G u (.int j)) (e : g i j = .bl b) : Mk G (tOp (rI0 g) t u) (.bool b) := fun σ H Q E q =>
  h σ H _ E fun v H1 S1 d1 => h2 σ H1 _ (E.same S1) fun w H2 S2 d2 => ⟨i, j, dat_isInt d1, dat_isInt d2, by rw [e]; exact q _ H2 (S1.trans S2) (.bl b)⟩
theorem mk_eq {i j : Int} {b : Bool} (h : Mk G t (.int i)) (h2 : Mk G u (.int j)) (e : decide (i = j) = b) : Mk G (tOp rEq t u) (.bool b) := fun σ H Q E q =>
  h σ H _ E fun v H1 S1 d1 => h2 σ H1 _ (E.same S1) fun w H2 S2 d2 => by
    rw [dat_isInt d1, dat_isInt d2]
    refine ⟨rfl, ?_⟩
    have z : decide (V.int i = V.int j) = b := by
      rw [← e]
      exact decide_eq_decide.mpr ⟨fun h => V.int.inj h, fun h => by rw [h]⟩
    rw [z]
    exact q _ H2 (S1.trans S2) (.bl b)
theorem mk_ne {i j : Int} {b : Bool} (h : Mk G t (.int i)) (h2 : Mk G u (.int j)) (e : decide (i = j) = !b) : Mk G (tOp rNe t u) (.bool b) := fun σ H Q E q =>
  h σ H _ E fun v H1 S1 d1 => h2 σ H1 _ (E.same S1) fun w H2 S2 d2 => by
    rw [dat_isInt d1, dat_isInt d2]
    refine ⟨rfl, ?_⟩
    have z : (!decide (V.int i = V.int j)) = b := by
      have y : decide (V.int i = V.int j) = decide (i = j) := decide_eq_decide.mpr ⟨fun h => V.int.inj h, fun h => by rw [h]⟩
      rw [y, e, Bool.not_not]
    rw [z]
    exact q _ H2 (S1.trans S2) (.bl b)
/-- a == b == c == d, all the same -/
theorem mk_chain3 {x : TE} {i : Int} (h1 : Mk G t (.int i)) (h2 : Mk G u (.int i)) (h3 : Mk G w (.int i)) (h4 : Mk G x (.int i)) : Mk G (tChain3 rEq rEq rEq t u w x) (.bool true) := fun σ H Q E q =>
  h1 σ H _ E fun v1 H1 S1 d1 => h2 σ H1 _ (E.same S1) fun v2 H2 S2 d2 => by
    rw [dat_isInt d1, dat_isInt d2]
    refine ⟨rfl, _, rfl, ?_⟩
    rw [decide_eq_true rfl, if_pos rfl]
    refine h3 σ H2 _ (E.same (S1.trans S2)) fun v3 H3 S3 d3 => ?_
    rw [dat_isInt d3]
    refine ⟨rfl, _, rfl, ?_⟩
    rw [decide_eq_true rfl, if_pos rfl]
    refine h4 σ H3 _ (E.same ((S1.trans S2).trans S3)) fun v4 H4 S4 d4 => ?_
    rw [dat_isInt d4]
    refine ⟨rfl, ?_⟩
    rw [decide_eq_true rfl]
    exact q _ H4 (((S1.trans S2).trans S3).trans S4) (.bl true)
theorem mk_chainLe {lo x hi : Int} {b : Bool} (h1 : Mk G t (.int lo)) (h2 : Mk G u (.int x)) (h3 : Mk G w (.int hi)) (e : (decide (lo ≤ x) && decide (x ≤ hi)) = b) : Mk G (tChain (rI0 fun i j => .bl (decide (i ≤ j))) (rI0 fun i j => .bl (decide (i ≤ j))) t u w) (.bool b) := fun σ H Q E q =>
  h1 σ H _ E fun v1 H1 S1 d1 => h2 σ H1 _ (E.same S1) fun v2 H2 S2 d2 => by
    refine ⟨lo, x, dat_isInt d1, dat_isInt d2, _, rfl, ?_⟩
    by_cases c : lo ≤ x
    · rw [decide_eq_true c] at e ⊢
      rw [if_pos rfl]
      refine h3 σ H2 _ (E.same (S1.trans S2)) fun v3 H3 S3 d3 => ⟨x, hi, dat_isInt d2, dat_isInt d3, ?_⟩
      have e' : decide (x ≤ hi) = b := e
      show Q (.bl (decide (x ≤ hi))) H3
      rw [e']
      exact q _ H3 ((S1.trans S2).trans S3) (.bl b)
    · rw [decide_eq_false c] at e ⊢
      rw [if_neg Bool.false_ne_true]
      obtain rfl : false = b := e
      exact q _ H2 (S1.trans S2) (.bl false)
theorem mk_orT (h : Mk G t (.bool true)) : Mk G (tOrV t u) (.bool true) := fun σ H Q E q => h σ H _ E fun v H1 S d => ⟨true, dat_bl d, (if_pos rfl : (if true = true then Q (.bl true) H1 else u σ H1 Q) = _) ▸ q _ H1 S (.bl true)⟩
theorem mk_orF {d : PyData} (h : Mk G t (.bool false)) (h2 : Mk G u d) : Mk G (tOrV t u) d := fun σ H Q E q => h σ H _ E fun v H1 S1 d1 => ⟨false, dat_bl d1, (if_neg Bool.false_ne_true : (if false = true then Q (.bl true) H1 else u σ H1 Q) = _) ▸ h2 σ H1 _ (E.same S1) fun w H2 S2 d2 => q _ H2 (S1.trans S2) d2⟩
theorem mk_andT {d : PyData} (h : Mk G t (.bool true)) (h2 : Mk G u d) : Mk G (tAndV t u) d := fun σ H Q E q => h σ H _ E fun v H1 S1 d1 => ⟨true, dat_bl d1, (if_pos rfl : (if true = true then u σ H1 Q else Q (.bl false) H1) = _) ▸ h2 σ H1 _ (E.same S1) fun w H2 S2 d2 => q _ H2 (S1.trans S2) d2⟩
theorem mk_isN {b : Bool} {d : PyData} (h : Mk G t d) (e : ∀ v H, Dat H v d → decide (v = V.non) = b) : Mk G (tOp (fun x y H Q => y = .non ∧ Q (.bl (decide (x = .non))) H) t (tC .non)) (.bool b) := fun σ H Q E q => h σ H _ E fun v H1 S d1 => ⟨rfl, by rw [e v H1 d1]; exact q _ H1 S (.bl b)⟩
theorem dat_lst {H : Hp} {v : V} {ds : List PyData} (h : Dat H v (.list ds)) : ∃ (a : Addr) (xs : List V), v = .ref a ∧ H a = some (.lst xs) ∧ DatAll H xs ds := by
  cases h with
  | lst ha hx => exact ⟨_, _, rfl, ha, hx⟩
theorem dat_ints {H : Hp} : ∀ {ns : List Int} {xs : List V}, DatAll H xs (ns.map PyData.int) → xs = ns.map V.int
  | [], _, .nil => rfl
  | n :: ns, _, .cons a b => by
    rw [dat_isInt a, dat_ints b]
    rfl
theorem mk_sum {K : PySem.W.Frag} {ns : List Int} (h : Mk G t (.list (ns.map PyData.int))) : Mk G (tCB (rSum K) (tCons t tNil)) (.int ns.sum) := fun σ H Q E q => h σ H _ E fun v H1 S d => by
  obtain ⟨a, xs, rfl, ha, hx⟩ := dat_lst d
  rw [dat_ints hx] at ha
  exact ⟨a, ns, rfl, SqL.of ha, q _ H1 S (.int _)⟩
theorem ints_dp {K : PySem.W.Frag} {H : Hp} : ∀ ns : List Int, DpAll K H (ns.map V.int) (ns.map PyData.int)
  | [] => .nil
  | n :: ns => .cons (.int n) (ints_dp ns)
theorem ints_shaped (ns : List Int) : SeqAt.shaped (.list (ns.map PyData.int)) = true := by
  have h1 : ∀ l : List Int, PyData.canLayAll0 (l.map PyData.int) = true := by
    intro l
    induction l with
    | nil => rfl
    | cons a l ih =>
      show (PyData.canLay0 (.int a) && PyData.canLayAll0 (l.map PyData.int)) = true
      rw [ih]
      rfl
  have h2 : ∀ l : List Int, PyData.depthAll (l.map PyData.int) = 0 := by
    intro l
    induction l with
    | nil => rfl
    | cons a l ih =>
      rw [List.map_cons, PyData.depthAll, ih]
      rfl
  unfold SeqAt.shaped
  rw [PyData.depth, h2]
  show (PyData.canLayAll0 (ns.map PyData.int) && true) = true
  rw [h1]
  rfl
/-- two lists of the same ints -/
theorem mk_eqL {K : PySem.W.Frag} {ns : List Int} (h : Mk G t (.list (ns.map PyData.int))) (h2 : Mk G u (.list (ns.map PyData.int))) : Mk G (tOp (rEqD K) t u) (.bool true) := fun σ H Q E q =>
  h σ H _ E fun v H1 S1 d1 => h2 σ H1 _ (E.same S1) fun w H2 S2 d2 => by
    obtain ⟨a, xs, rfl, ha, hx⟩ := dat_lst d1
    obtain ⟨b, ys, rfl, hb, hy⟩ := dat_lst d2
    rw [dat_ints hx] at ha
    rw [dat_ints hy] at hb
    refine ⟨_, _, .lst (SqL.of (S2 _ _ ha)) (ints_dp ns), .lst (SqL.of hb) (ints_dp ns), ints_shaped ns, ints_shaped ns, ?_⟩
    have e : PyData.eqv (.list (ns.map PyData.int)) (.list (ns.map PyData.int)) = true := SeqAt.eqv_refl _ (SeqAt.canLay_of_shaped (ints_shaped ns))
    rw [e]
    exact q _ H2 (S1.trans S2) (.bl true)
theorem mk_catL {l1 l2 : List PyData} (h : Mk G t (.list l1)) (h2 : Mk G u (.list l2)) (hl : l1.length + l2.length ≤ 1000) : Mk G (tOp rCat t u) (.list (l1 ++ l2)) := fun σ H Q E q =>
  h σ H _ E fun v H1 S1 d1 => h2 σ H1 _ (E.same S1) fun w H2 S2 d2 => by
    obtain ⟨a, xs, rfl, ha, hx⟩ := dat_lst (d1.same S2)
    obtain ⟨b, ys, rfl, hb, hy⟩ := dat_lst d2
    have lx := hx.len
    have ly := hy.len
    exact ⟨a, b, xs, ys, rfl, rfl, ha, hb, by rw [lx, ly, sizeLine_eq]; omega, fun p np => q _ _ ((S1.trans S2).trans (same_new np)) (.lst upd_same (datAll_append (hx.same (same_new np)) (hy.same (same_new np))))⟩
theorem mk_ixT {K : PySem.W.Frag} {ds : List PyData} {d : PyData} {i : Int} {j : Nat} (h : Mk G t (.tuple ds)) (e : i = (j : Int)) (hj : ds[j]? = some d) : Mk G (tOp (rIxT K) t (tC (.int i))) d := fun σ H Q E q => h σ H _ E fun v H1 S1 d1 => by
  obtain ⟨a, xs, rfl, ha, hx⟩ := dat_tup d1
  have hl := hx.len
  obtain ⟨x, hx1⟩ : ∃ x, xs[j]? = some x := ⟨xs[j]'(by rw [hl]; exact (List.getElem?_eq_some_iff.mp hj).1), List.getElem?_eq_getElem _⟩
  obtain ⟨d', hd', dx⟩ := hx.get hx1
  rw [hj] at hd'
  obtain rfl := Option.some.inj hd'
  subst e
  exact ⟨a, xs, _, x, rfl, rfl, SqT.of ha, atI_nat hx1, q _ H1 S1 dx⟩
/-- size_of -/
theorem mk_sz {d : PyData} {n : Nat} (h : Mk G t d) (f : ∀ (v : V) (H : Hp) (Q : VK), Dat H v d → (∀ H', Same H H' → Q (.int ((n : Nat) : Int)) H') → spSzOf 2 [v] H Q E0) : Mk G (tCall (spSzOf 2) [] E0 (tCons t tNil)) (.int ((n : Nat) : Int)) := fun σ H Q E q =>
  h σ H _ E fun v H1 S1 d1 => f v H1 Q d1 fun H2 S2 => q _ H2 (S1.trans S2) (.int _)
end
end K6
set_option maxRecDepth 100000
set_option maxHeartbeats 4000000
namespace K6
open PySem PySem.Spec PyProof.Rows L2
/-! ### the law's powers, factorials, binomials, names -/
abbrev s_power : Stmt := top 33
abbrev s_factorial : Stmt := top 34
abbrev s_binomial : Stmt := top 35
abbrev s_names : Stmt := top 37
def spPow : Sp := fun vs H Q _ => ∃ b e : Nat, vs = [.int (b : Nat), .int (e : Nat)] ∧ 1 ≤ b ∧ e ≤ 1000 ∧ b < 2 ^ 200 ∧ b ^ e < 2 ^ 4000 ∧ Q (.int ((b ^ e : Nat) : Int)) H
def spFact : Sp := fun vs H Q _ => ∃ n : Nat, vs = [.int (n : Nat)] ∧ n ≤ 400 ∧ Q (.int ((fac n : Nat) : Int)) H
def spBin : Sp := fun vs H Q _ => ∃ n k : Nat, vs = [.int (n : Nat), .int (k : Nat)] ∧ k ≤ n ∧ n ≤ 400 ∧ Q (.int ((chN n k : Nat) : Int)) H
/-- two letters -/
def nmT (k : Nat) : Str := (⟨#[97 + k / 26]⟩ : Str) ++ ⟨#[97 + k % 26]⟩
def nmsL (a m : Nat) : List Str := (List.range m).map fun i => nmT (a + i)
theorem nms_len {a m : Nat} : (nmsL a m).length = m := by
  unfold nmsL
  rw [List.length_map, List.length_range]
theorem nms_succ {a m : Nat} : nmsL a (m + 1) = nmsL a m ++ [nmT (a + m)] := by
  unfold nmsL
  rw [List.range_succ, List.map_append]
  rfl
theorem letter_at : ∀ j : Fin 26, atI ("abcdefghijklmnopqrstuvwxyz" : Str).cps.toList ((j.val : Nat) : Int) = some (97 + j.val) := by decide +kernel
def spNm : Sp := fun vs H Q _ => ∃ (p q : Addr) (b m : Nat), vs = [.ref p, .int (m : Nat)] ∧ m ≤ 400 ∧ Dk H p q b ∧ b + 1 ≤ 100000000 ∧ ∀ (r : Addr) (a : Nat) (H' : Hp), H r = none → a < 200 → Off p q H H' → Dk H' p q (b + 1) → H' r = some (.lst ((nmsL a m).map V.str)) → Q (.ref r) H'
theorem fac_lt {n : Nat} (h : n ≤ 400) : fac n < 2 ^ 3601 := Nat.lt_of_le_of_lt (fac_big h) (Nat.pow_lt_pow_right (by decide) (by decide))
section
variable {P : Program} {w : World} {K : PySem.W.Frag} {mg : Str → Option Value} {base : Heap}
theorem sc_power : FnScope ["_law_base", "_law_exponent", "_law_found", "_law_turn"] ["_law_base", "_law_exponent"] (defScope s_power) := ⟨rfl, rfl, rfl, by decide +kernel, rfl, by decide +kernel, by decide +kernel⟩
theorem okl_power {f : Addr} {fd : FuncData} (F : Fun K "_law_power" "_law_power" s_power f fd) (T : Nm mg) : FnOk P w K mg base CX0 1 f fd ["_law_base", "_law_exponent"] spPow := by
  refine F.ok sc_power (fun vs H Q E h => ?_) (fun cdv A outer s H vs Q E hr h => ?_)
  · obtain ⟨b, e, rfl, _⟩ := h
    rfl
  · obtain ⟨b, e, rfl, h1, he, hb, hp, k⟩ := h
    refine ⟨_, (pss_cons (ps_set (i := 2) sc_power.nd rfl (Or.inl rfl) pe_int)
      (pss_cons (ps_for PassesOwn.never rfl (pi_range1 rfl T.range (pa_cons (pv 1) pa_nil)) (pg_name (i := 3) sc_power.nd rfl (Or.inl rfl))
        (pss_one (ps_set (i := 2) sc_power.nd rfl (Or.inl rfl) (pe_op op_mulW (pv 2) (pv 0)))))
      (pss_one (ps_ret (pv 2))))), ?_⟩
    refine ⟨_, rfl, (e : Int), rfl, by omega, by omega, for_range (n := e) (fun i σ Hx => ∃ x3 : Option V, σ = [some (.int (b : Nat)), some (.int (e : Nat)), some (.int ((b ^ i : Nat) : Int)), x3] ∧ Hx = H) ⟨none, rfl, rfl⟩ ?_ ?_⟩
    · rintro i σ Hx hi ⟨x3, rfl, rfl⟩
      have b0 : b ^ i < 2 ^ 4000 := Nat.lt_of_le_of_lt (Nat.pow_le_pow_right h1 (by omega)) hp
      refine ⟨_, rfl, _, rfl, _, _, rfl, rfl, wide_mul (a := 4000) (b := 200) (by rw [Int.natAbs_natCast]; exact b0) (by rw [Int.natAbs_natCast]; exact hb) (by decide) (by decide) (by decide), some (.int (0 + (i : Int))), ?_, rfl⟩
      rw [Nat.pow_succ, Int.natCast_mul]
      rfl
    · rintro σ Hx ⟨x3, rfl, rfl⟩
      exact ⟨_, rfl, k⟩
theorem sc_factorial : FnScope ["_law_n", "_law_found", "_law_factor"] ["_law_n"] (defScope s_factorial) := ⟨rfl, rfl, rfl, by decide +kernel, rfl, by decide +kernel, by decide +kernel⟩
theorem okl_factorial {f : Addr} {fd : FuncData} (F : Fun K "_law_factorial" "_law_factorial" s_factorial f fd) (T : Nm mg) : FnOk P w K mg base CX0 1 f fd ["_law_n"] spFact := by
  refine F.ok sc_factorial (fun vs H Q E h => ?_) (fun cdv A outer s H vs Q E hr h => ?_)
  · obtain ⟨n, rfl, _⟩ := h
    rfl
  · obtain ⟨n, rfl, hn, k⟩ := h
    refine ⟨_, (pss_cons (ps_set (i := 1) sc_factorial.nd rfl (Or.inl rfl) pe_int)
      (pss_cons (ps_for PassesOwn.never rfl (pi_range2 rfl T.range (pa_cons pe_int (pa_cons (pe_op op_add (pv 0) pe_int) pa_nil))) (pg_name (i := 2) sc_factorial.nd rfl (Or.inl rfl))
        (pss_one (ps_set (i := 1) sc_factorial.nd rfl (Or.inl rfl) (pe_op op_mulW (pv 1) (pv 2)))))
      (pss_one (ps_ret (pv 1))))), ?_⟩
    refine ⟨_, rfl, _, _, rfl, rfl, 2, (n : Int) + 1, rfl, ⟨by decide, by decide, by omega, by omega⟩, for_range (lo := 2) (n := ((n : Int) + 1 - 2).toNat) (fun i σ Hx => ∃ x2 : Option V, σ = [some (.int (n : Nat)), some (.int ((fac (i + 1) : Nat) : Int)), x2] ∧ Hx = H) ⟨none, rfl, rfl⟩ ?_ ?_⟩
    · rintro i σ Hx hi ⟨x2, rfl, rfl⟩
      have e2 : (2 : Int) + (i : Int) = ((i + 2 : Nat) : Int) := by omega
      rw [e2]
      refine ⟨_, rfl, _, rfl, _, _, rfl, rfl, wide_mul (a := 3601) (b := 200) (by rw [Int.natAbs_natCast]; exact fac_lt (by omega)) (by rw [Int.natAbs_natCast]; exact Nat.lt_of_lt_of_le (show i + 2 < 2 ^ 10 by omega) (by decide)) (by decide) (by decide) (by decide), some (.int ((i + 2 : Nat) : Int)), ?_, rfl⟩
      rw [fac_succ (i + 1), Int.natCast_mul (fac (i + 1))]
      rfl
    · rintro σ Hx ⟨x2, rfl, rfl⟩
      refine ⟨_, rfl, ?_⟩
      have e : fac (((n : Int) + 1 - 2).toNat + 1) = fac n := by
        cases n with
        | zero => rfl
        | succ m => rw [show (((m + 1 : Nat) : Int) + 1 - 2).toNat + 1 = m + 1 by omega]
      rw [e]
      exact k
theorem sc_binomial : FnScope ["_law_n", "_law_k"] ["_law_n", "_law_k"] (defScope s_binomial) := ⟨rfl, rfl, rfl, by decide +kernel, rfl, by decide +kernel, by decide +kernel⟩
theorem okl_binomial {f fF : Addr} {fd fdF : FuncData} (F : Fun K "_law_binomial" "_law_binomial" s_binomial f fd) (T : Nm mg) (D_factorial : DefOk K mg "_law_factorial" s_factorial ["_law_n"] fF fdF) : FnOk P w K mg base CX0 2 f fd ["_law_n", "_law_k"] spBin := by
  have G_factorial : FnOk P w K mg base CX0 1 fF fdF ["_law_n"] spFact := okl_factorial D_factorial.F T
  refine F.ok sc_binomial (fun vs H Q E h => ?_) (fun cdv A outer s H vs Q E hr h => ?_)
  · obtain ⟨n, m, rfl, _⟩ := h
    rfl
  · obtain ⟨n, m, rfl, hm, hn, k⟩ := h
    refine ⟨_, (pss_one (ps_ret (pe_op op_fdivW (pe_op op_fdivW (pe_call G_factorial hr rfl D_factorial.g D_factorial.F.kp D_factorial.b .nil pass0 (pa_cons (pv 0) pa_nil)) (pe_call G_factorial hr rfl D_factorial.g D_factorial.F.kp D_factorial.b .nil pass0 (pa_cons (pv 1) pa_nil))) (pe_call G_factorial hr rfl D_factorial.g D_factorial.F.kp D_factorial.b .nil pass0 (pa_cons (pe_op op_sub (pv 0) (pv 1)) pa_nil))))), ?_⟩
    have e1 : (n : Int) - (m : Int) = ((n - m : Nat) : Int) := by omega
    have dv : ∀ j, j ≤ 400 → ∀ i : Int, CDivW i ((fac j : Nat) : Int) := fun j hj i => wide_div (b := 3601) (by have := fac_pos j; omega) (by rw [Int.natAbs_natCast]; exact fac_lt hj) (by decide) (by decide)
    refine ⟨_, rfl, n, rfl, hn, _, rfl, m, rfl, by omega, _, _, rfl, rfl, dv m (by omega) _, _, rfl, _, rfl, _, _, rfl, rfl, n - m, congrArg (fun z => [V.int z]) e1, by omega, _, _, rfl, rfl, dv (n - m) (by omega) _, ?_⟩
    rw [← binom_of hm, Int.natCast_ediv, Int.natCast_ediv] at k
    exact k
theorem sc_names : FnScope ["_law_deck_here", "_law_many", "_law_letters", "_law_found", "_law_at", "_law_k"] ["_law_deck_here", "_law_many"] (defScope s_names) := ⟨rfl, rfl, rfl, by decide +kernel, rfl, by decide +kernel, by decide +kernel⟩
theorem okl_names {f fD : Addr} {fd fdD : FuncData} (F : Fun K "_law_names" "_law_names" s_names f fd) (T : Nm mg) (D_draw : DefOk K mg "_law_draw" sDraw ["_law_deck_here", "_law_bound"] fD fdD) : FnOk P w K mg base CX0 2 f fd ["_law_deck_here", "_law_many"] spNm := by
  have G_draw : FnOk P w K mg base CX0 1 fD fdD ["_law_deck_here", "_law_bound"] spDraw := ok_draw D_draw.F
  refine F.ok sc_names (fun vs H Q E h => ?_) (fun cdv A outer s H vs Q E hr h => ?_)
  · obtain ⟨p, q, b, m, rfl, _⟩ := h
    rfl
  · obtain ⟨p, q, b, m, rfl, hm, D, hb, k⟩ := h
    refine ⟨_, (pss_cons (ps_par (i := 2) (j := 3) rfl sc_names.nd rfl rfl (by decide) rfl rfl (pa_cons pe_str (pa_cons (pe_lst pa_nil) pa_nil)) (by rfl))
      (pss_cons (ps_set (i := 4) sc_names.nd rfl (Or.inl rfl) (pe_call G_draw hr rfl D_draw.g D_draw.F.kp D_draw.b .nil pass0 (pa_cons (pv 0) (pa_cons pe_int pa_nil))))
      (pss_cons (ps_for PassesOwn.never rfl (pi_range2 rfl T.range (pa_cons (pv 4) (pa_cons (pe_op op_add (pv 4) (pv 1)) pa_nil))) (pg_name (i := 5) sc_names.nd rfl (Or.inl rfl))
        (pss_one (ps_expr (pe_bm PySem.F.plainAttrs_list PySem.F.slot_list_append PySem.F.type_list_append mt_append (pv 3) (pa_cons (pe_op op_add_str (pe_ix ix_str (pv 2) (pe_op op_fdivNN (pv 5) pe_int) (fun _ _ => rfl)) (pe_ix ix_str (pv 2) (pe_op op_mod (pv 5) pe_int) (fun _ _ => rfl))) pa_nil)))))
      (pss_one (ps_ret (pv 3)))))), ?_⟩
    refine ⟨(by show 0 ≤ sizeLine; decide), fun r nr => ?_⟩
    obtain ⟨rp, rq⟩ := D.new nr
    have Sr := same_new (o := HO.lst []) nr
    have er : upd H r (.lst []) r = some (.lst []) := upd_same
    have D0 := D.same Sr
    refine ⟨_, _, rfl, ?_⟩
    obtain ⟨dsd, mxd, cd, Dd, hcd⟩ := D0
    refine ⟨_, rfl, p, q, dsd, mxd, cd, 200, rfl, by decide, by decide, Dd, by omega, fun a0 ds2 H2 a00 ha O2 D2' => ?_⟩
    obtain ⟨a, rfl⟩ := nat_of a00
    have D2 : Dk H2 p q (b + 1) := ⟨_, _, _, D2', by omega⟩
    have h2r := O2 _ _ er rp rq
    have ha' : a < 200 := by omega
    refine ⟨_, rfl, _, rfl, _, rfl, _, _, rfl, rfl, (a : Int), (a : Int) + (m : Int), rfl, ⟨by omega, by omega, by omega, by omega⟩, for_range (lo := (a : Int)) (n := ((a : Int) + (m : Int) - (a : Int)).toNat) (fun i σ Hx => ∃ x5 : Option V, σ = [some (.ref p), some (.int (m : Nat)), some (.str "abcdefghijklmnopqrstuvwxyz"), some (.ref r), some (.int (a : Nat)), x5] ∧ Off p q H Hx ∧ Dk Hx p q (b + 1) ∧ Hx r = some (.lst ((nmsL a i).map V.str)))
      ⟨none, rfl, (Off.of_same Sr).trans O2, D2, h2r⟩ ?_ ?_⟩
    · rintro i σ Hx hi ⟨x5, rfl, O, Dx, hx⟩
      have hi' : i < m := by omega
      have e1 : (a : Int) + (i : Int) = ((a + i : Nat) : Int) := by omega
      rw [e1]
      have em : ((a + i : Nat) : Int) % 26 = (((a + i) % 26 : Nat) : Int) := by omega
      refine ⟨_, rfl, .inl ⟨rfl, _, SqL.of hx⟩, _, rfl, _, rfl, a + i, 26, rfl, rfl, ⟨by decide, by decide⟩, "abcdefghijklmnopqrstuvwxyz", _, 97 + (a + i) / 26, rfl, rfl, by decide, letter_at ⟨(a + i) / 26, by omega⟩, ?_⟩
      refine ⟨_, rfl, _, rfl, _, _, rfl, rfl, (show (0 : Int) < 26 by decide), "abcdefghijklmnopqrstuvwxyz", (((a + i) % 26 : Nat) : Int), 97 + (a + i) % 26, rfl, congrArg V.int em, by decide, letter_at ⟨(a + i) % 26, Nat.mod_lt _ (by decide)⟩, ?_⟩
      refine ⟨_, _, rfl, rfl, (by show 1 + 1 ≤ sizeLine; decide), r, _, _, rfl, rfl, hx, by rw [List.length_map, nms_len, sizeLine_eq]; omega, some (.int ((a + i : Nat) : Int)), rfl, ?_, dk_upd Dx rp rq, ?_⟩
      · intro c o e h1 h2
        have cr : c ≠ r := fun z => by
          rw [z, nr] at e
          cases e
        rw [upd_ne cr]
        exact O c o e h1 h2
      · rw [nms_succ, List.map_append]
        exact upd_same
    · rintro σ Hx ⟨x5, rfl, O, Dx, hx⟩
      rw [show ((a : Int) + (m : Int) - (a : Int)).toNat = m by omega] at hx
      exact ⟨_, rfl, k r a Hx nr ha' O Dx hx⟩
end
section
variable {G : List (Nat × PyData)} {t u : TE}
theorem mk_fact {n : Nat} (h : Mk G t (.int ((n : Nat) : Int))) (hn : n ≤ 400) : Mk G (tCall spFact [] E0 (tCons t tNil)) (.int ((fac n : Nat) : Int)) := fun σ H Q E q => h σ H _ E fun v H1 S1 d1 => ⟨n, by rw [dat_isInt d1]; rfl, hn, q _ H1 S1 (.int _)⟩
theorem mk_pow {b e : Nat} (h : Mk G t (.int ((b : Nat) : Int))) (h2 : Mk G u (.int ((e : Nat) : Int))) (h1 : 1 ≤ b) (he : e ≤ 1000) (hb : b < 2 ^ 200) (hp : b ^ e < 2 ^ 4000) : Mk G (tCall spPow [] E0 (tCons t (tCons u tNil))) (.int ((b ^ e : Nat) : Int)) := fun σ H Q E q =>
  h σ H _ E fun v H1 S1 d1 => h2 σ H1 _ (E.same S1) fun w H2 S2 d2 => ⟨b, e, by rw [dat_isInt d1, dat_isInt d2]; rfl, h1, he, hb, hp, q _ H2 (S1.trans S2) (.int _)⟩
theorem mk_bin {n k : Nat} (h : Mk G t (.int ((n : Nat) : Int))) (h2 : Mk G u (.int ((k : Nat) : Int))) (hk : k ≤ n) (hn : n ≤ 400) : Mk G (tCall spBin [] E0 (tCons t (tCons u tNil))) (.int ((chN n k : Nat) : Int)) := fun σ H Q E q =>
  h σ H _ E fun v H1 S1 d1 => h2 σ H1 _ (E.same S1) fun w H2 S2 d2 => ⟨n, k, by rw [dat_isInt d1, dat_isInt d2]; rfl, hk, hn, q _ H2 (S1.trans S2) (.int _)⟩
end
end K6
set_option maxRecDepth 100000
set_option maxHeartbeats 8000000
namespace K6
open PySem PySem.Spec PyProof.Rows L2
/-! ### statements over known data -/
def spR : Sp := fun vs H Q _ => ∃ (p q : Addr) (b : Nat), vs = [.ref p] ∧ Dk H p q b ∧ b + 100 ≤ 100000000 ∧ ∀ H', Dk H' p q (b + 100) → Q (.bl true) H'
theorem dat_int' {H : Hp} {i j : Int} (e : i = j) : Dat H (.int i) (.int j) := by
  subst e
  exact .int i
section
variable {G : List (Nat × PyData)} {i : Nat} {d : PyData} {σ : L2.St} {H : Hp} {te : TE} {D : Ends} {R A : TS} {c : TT}
theorem sq_set (M : Mk G te d) (E : EnvOk G σ H) (hn : G.all (fun p => p.1 != i) = true) (hi : i < σ.length) (k : ∀ (v : V) (H' : Hp), Same H H' → EnvOk ((i, d) :: G) (σ.set i (some v)) H' → R D (σ.set i (some v)) H') : tSeq (tAsg te (gName i)) R D σ H :=
  M σ H (fun v H1 => R D (σ.set i (some v)) H1) E fun v H1 S d1 => k v H1 S ((E.same S).put (fun p hp => bne_iff_ne.mp (List.all_eq_true.mp hn p hp)) hi d1)
theorem rt_mk (M : Mk G te d) (E : EnvOk G σ H) (k : ∀ (v : V) (H' : Hp), Same H H' → Dat H' v d → D.rt v H') : tRet te D σ H := M σ H D.rt E k
theorem sq_if0 (M : MkT G c false) (E : EnvOk G σ H) (k : ∀ H' : Hp, Same H H' → R D σ H') : tSeq (tIfS c A tNext) R D σ H := M σ H _ E fun H1 S => (if_neg Bool.false_ne_true : (if false = true then A { D with nx := R D } σ H1 else tNext { D with nx := R D } σ H1) = _) ▸ k H1 S
theorem sq_if1 {B : TS} (M : MkT G c true) (E : EnvOk G σ H) (k : ∀ H' : Hp, Same H H' → A { D with nx := R D } σ H') : tSeq (tIfS c A B) R D σ H := M σ H _ E fun H1 S => (if_pos rfl : (if true = true then A { D with nx := R D } σ H1 else B { D with nx := R D } σ H1) = _) ▸ k H1 S
end
section
variable {G : List (Nat × PyData)} {t u : TE} {c c2 : TT}
theorem mk_orTT {b : Bool} (h : MkT G c false) (h2 : MkT G c2 b) : MkT G (tOr c c2) b := fun σ H Q E q => h σ H _ E fun H1 S1 => (if_neg Bool.false_ne_true : (if false = true then Q true H1 else c2 σ H1 Q) = _) ▸ h2 σ H1 Q (E.same S1) fun H2 S2 => q H2 (S1.trans S2)
theorem mk_subN {x y z : Nat} (h : Mk G t (.int ((x : Nat) : Int))) (h2 : Mk G u (.int ((y : Nat) : Int))) (e : y + z = x) : Mk G (tOp (rI0 fun i j => .int (i - j)) t u) (.int ((z : Nat) : Int)) := mk_op0 h h2 (by
  show V.int ((x : Int) - (y : Int)) = _
  rw [show (x : Int) - (y : Int) = (z : Int) by omega])
theorem mk_addN {x y z : Nat} (h : Mk G t (.int ((x : Nat) : Int))) (h2 : Mk G u (.int ((y : Nat) : Int))) (e : x + y = z) : Mk G (tOp (rI0 fun i j => .int (i + j)) t u) (.int ((z : Nat) : Int)) := mk_op0 h h2 (by
  show V.int ((x : Int) + (y : Int)) = _
  rw [show (x : Int) + (y : Int) = (z : Int) by omega])
theorem mk_mulN {x y z : Nat} (h : Mk G t (.int ((x : Nat) : Int))) (h2 : Mk G u (.int ((y : Nat) : Int))) (hx : x < 2 ^ 14000) (hy : y < 2 ^ 14000) (e : x * y = z) : Mk G (tOp (rI CMulW fun i j => .int (i * j)) t u) (.int ((z : Nat) : Int)) :=
  mk_op h h2 (wide_mul (a := 14000) (b := 14000) (by rw [Int.natAbs_natCast]; exact hx) (by rw [Int.natAbs_natCast]; exact hy) (by decide) (by decide) (by decide)) (by rw [← e, Int.natCast_mul])
theorem mk_nat {y : Nat} {i : Int} (e : i = (y : Int)) : Mk G (tC (.int i)) (.int ((y : Nat) : Int)) := by
  subst e
  exact mk_int
theorem mk_eqN {x : Nat} (h : Mk G t (.int ((x : Nat) : Int))) (h2 : Mk G u (.int ((x : Nat) : Int))) : Mk G (tOp rEq t u) (.bool true) := mk_eq h h2 (decide_eq_true rfl)
theorem mk_neN {x : Nat} (h : Mk G t (.int ((x : Nat) : Int))) (h2 : Mk G u (.int ((x : Nat) : Int))) : Mk G (tOp rNe t u) (.bool false) := mk_ne h h2 (decide_eq_true rfl)
end
theorem lt_big {x y a : Nat} (h : x < 2 ^ a) (ha : a ≤ 14000) : x < 2 ^ 14000 := Nat.lt_of_lt_of_le h (Nat.pow_le_pow_right (by decide) ha)
theorem fac_14 {n : Nat} (h : n ≤ 400) : fac n < 2 ^ 14000 := lt_big (y := 0) (fac_lt h) (by decide)
abbrev s_subsets_right : Stmt := top 38
abbrev s_seats_right : Stmt := top 42
section
variable {P : Program} {w : World} {K : PySem.W.Frag} {mg : Str → Option Value} {base : Heap}
theorem sc_subsets_right : FnScope ["_law_deck_here", "_law_n", "_law_k", "_law_size", "_law_below"] ["_law_deck_here"] (defScope s_subsets_right) := ⟨rfl, rfl, rfl, by decide +kernel, rfl, by decide +kernel, by decide +kernel⟩
theorem okl_subsets_right {f fD fZ fF fB : Addr} {fd fdD fdZ fdF fdB : FuncData} (F : Fun K "_law_subsets_right" "_law_subsets_right" s_subsets_right f fd) (T : Nm mg)  (D_draw : DefOk K mg "_law_draw" sDraw ["_law_deck_here", "_law_bound"] fD fdD) (D_size_of : DefOk K mg "size_of" sSizeOf ["space"] fZ fdZ) (D_factorial : DefOk K mg "_law_factorial" s_factorial ["_law_n"] fF fdF) (D_binomial : DefOk K mg "_law_binomial" s_binomial ["_law_n", "_law_k"] fB fdB) (G_size_of : FnOk P w K mg base CX0 13 fZ fdZ ["space"] (spSzOf 2)) : FnOk P w K mg base CX0 14 f fd ["_law_deck_here"] spR := by
  have G_draw : FnOk P w K mg base CX0 1 fD fdD ["_law_deck_here", "_law_bound"] spDraw := ok_draw D_draw.F
  have G_factorial : FnOk P w K mg base CX0 1 fF fdF ["_law_n"] spFact := okl_factorial D_factorial.F T
  have G_binomial : FnOk P w K mg base CX0 2 fB fdB ["_law_n", "_law_k"] spBin := okl_binomial D_binomial.F T D_factorial
  refine F.ok sc_subsets_right (fun vs H Q E h => ?_) (fun cdv A outer s H vs Q E hr h => ?_)
  · obtain ⟨p, q, b, rfl, _⟩ := h
    rfl
  · obtain ⟨p, q, b, rfl, D, hb, k⟩ := h
    have hu0 := hr.units0
    have hr1 : Room 1 _ := hr.mono (by decide)
    have hr2 : Room 2 _ := hr.mono (by decide)
    have hr5 : Room 5 _ := hr.mono (by decide)
    refine ⟨_, (pss_cons (ps_set (i := 1) sc_subsets_right.nd rfl (Or.inl rfl) (pe_op op_add pe_int (pe_call G_draw hr1 rfl D_draw.g D_draw.F.kp D_draw.b .nil pass0 (pa_cons (pv 0) (pa_cons pe_int pa_nil)))))
      (pss_cons (ps_set (i := 2) sc_subsets_right.nd rfl (Or.inl rfl) (pe_op op_add pe_int (pe_call G_draw hr1 rfl D_draw.g D_draw.F.kp D_draw.b .nil pass0 (pa_cons (pv 0) (pa_cons (pv 1) pa_nil)))))
      (pss_cons (ps_set (i := 3) sc_subsets_right.nd rfl (Or.inl rfl) (pe_call G_size_of hr rfl D_size_of.g D_size_of.F.kp D_size_of.b .nil pass0 (pa_cons (pe_tup (pa_cons pe_str (pa_cons (pv 1) (pa_cons (pv 2) pa_nil)))) pa_nil)))
      (pss_cons (ps_set (i := 4) sc_subsets_right.nd rfl (Or.inl rfl) (pe_lst (pa_cons (pe_call G_size_of hr rfl D_size_of.g D_size_of.F.kp D_size_of.b .nil pass0 (pa_cons (pe_tup (pa_cons pe_str (pa_cons (pe_op op_sub (pv 1) pe_int) (pa_cons (pe_op op_sub (pv 2) pe_int) pa_nil)))) pa_nil)) (pa_cons (pe_ifExp (pt_cmpR op_lt (pv 2) (pv 1) (nomark _)) (pe_call G_size_of hr rfl D_size_of.g D_size_of.F.kp D_size_of.b .nil pass0 (pa_cons (pe_tup (pa_cons pe_str (pa_cons (pe_op op_sub (pv 1) pe_int) (pa_cons (pv 2) pa_nil)))) pa_nil)) pe_int) pa_nil))))
      (pss_one (ps_ret (pe_chain3 op_eq op_eq op_eq (pv 3) (pe_callB (cr_sum rfl) (by rfl) T.sum boot_sum (pa_cons (pv 4) pa_nil)) (pe_call G_size_of hr rfl D_size_of.g D_size_of.F.kp D_size_of.b .nil pass0 (pa_cons (pe_tup (pa_cons pe_str (pa_cons (pv 1) (pa_cons (pe_op op_sub (pv 1) (pv 2)) pa_nil)))) pa_nil)) (pe_call G_binomial hr2 rfl D_binomial.g D_binomial.F.kp D_binomial.b .nil pass0 (pa_cons (pv 1) (pa_cons (pv 2) pa_nil)))))))))), ?_⟩
    obtain ⟨ds0, m0, c0, D0, hc0⟩ := D
    refine ⟨_, rfl, p, q, ds0, m0, c0, 400, rfl, by decide, by decide, D0, by omega, fun x0 ds1 H1 x00 x01 O1 D1 => ?_⟩
    obtain ⟨x, rfl⟩ := nat_of x00
    refine ⟨_, _, rfl, rfl, ?_⟩
    generalize hn : 1 + x = n
    have en : (1 : Int) + (x : Int) = ((n : Nat) : Int) := by omega
    refine ⟨_, rfl, _, rfl, p, q, ds1, m0, c0 + 1, (1 : Int) + (x : Int), rfl, by omega, by omega, D1, by omega, fun y0 ds2 H2 y00 y01 O2 D2 => ?_⟩
    obtain ⟨y, rfl⟩ := nat_of y00
    refine ⟨_, _, rfl, rfl, ?_⟩
    generalize hj : 1 + y = j
    have ej : (1 : Int) + (y : Int) = ((j : Nat) : Int) := by omega
    have n4 : n ≤ 400 := by omega
    have j1 : 1 ≤ j := by omega
    have jn : j ≤ n := by omega
    have DD : Dk H2 p q (b + 100) := ⟨_, _, _, D2, by omega⟩
    have E0' : EnvOk [(2, .int ((j : Nat) : Int)), (1, .int ((n : Nat) : Int))] [some (.ref p), some (.int ((1 : Int) + (x : Int))), some (.int ((1 : Int) + (y : Int))), none, none] H2 := fun z hz => by
      rcases List.mem_cons.mp hz with rfl | hz
      · exact ⟨_, rfl, dat_int' ej⟩
      rcases List.mem_cons.mp hz with rfl | hz
      · exact ⟨_, rfl, dat_int' en⟩
      cases hz
    refine sq_set (mk_sz (n := chN n j) (mk_tup (mks_cons (mk_str (by decide)) (mks_cons (mk_var (.tail _ (.head _))) (mks_cons (mk_var (.head _)) mks_nil))) (by show 3 ≤ 1000; decide)) fun v H Q hd k => sz_subset jn n4 hd k) E0' (by rfl) (Nat.le_of_ble_eq_true (by rfl)) fun v3 H3 S3 E3 => ?_
    refine sq_set (d := .list (([((chN (n - 1) (j - 1) : Nat) : Int), ((if j < n then chN (n - 1) j else 0 : Nat) : Int)] : List Int).map PyData.int)) (mk_lst (mks_cons (mk_sz (n := chN (n - 1) (j - 1)) (mk_tup (mks_cons (mk_str (by decide)) (mks_cons (mk_subN (mk_var (.tail _ (.tail _ (.head _)))) (mk_nat (y := 1) rfl) (z := n - 1) (by omega)) (mks_cons (mk_subN (mk_var (.tail _ (.head _))) (mk_nat (y := 1) rfl) (z := j - 1) (by omega)) mks_nil))) (by show 3 ≤ 1000; decide)) fun v H Q hd k => sz_subset (by omega) (by omega) hd k)
      (mks_cons ?_ mks_nil)) (by show 2 ≤ 1000; decide)) E3 (by rfl) (Nat.le_of_ble_eq_true (by rfl)) fun v4 H4 S4 E4 => ?_
    · by_cases hlt : j < n
      · rw [if_pos hlt]
        exact mk_ifT (mkt (mk_cmp (mk_var (.tail _ (.head _))) (mk_var (.tail _ (.tail _ (.head _)))) (b := true) (by show V.bl (decide ((j : Int) < (n : Int))) = _; rw [decide_eq_true (by omega)]))) (mk_sz (n := chN (n - 1) j) (mk_tup (mks_cons (mk_str (by decide)) (mks_cons (mk_subN (mk_var (.tail _ (.tail _ (.head _)))) (mk_nat (y := 1) rfl) (z := n - 1) (by omega)) (mks_cons (mk_var (.tail _ (.head _))) mks_nil))) (by show 3 ≤ 1000; decide)) fun v H Q hd k => sz_subset (by omega) (by omega) hd k)
      · rw [if_neg hlt]
        exact mk_ifF (mkt (mk_cmp (mk_var (.tail _ (.head _))) (mk_var (.tail _ (.tail _ (.head _)))) (b := false) (by show V.bl (decide ((j : Int) < (n : Int))) = _; rw [decide_eq_false (by omega)]))) mk_int
    have eS : ([((chN (n - 1) (j - 1) : Nat) : Int), ((if j < n then chN (n - 1) j else 0 : Nat) : Int)] : List Int).sum = ((chN n j : Nat) : Int) := by
      rw [ch_below j1 jn]
      simp
    have X4 := mk_sum (G := [(4, .list (([((chN (n - 1) (j - 1) : Nat) : Int), ((if j < n then chN (n - 1) j else 0 : Nat) : Int)] : List Int).map PyData.int)), (3, .int ((chN n j : Nat) : Int)), (2, .int ((j : Nat) : Int)), (1, .int ((n : Nat) : Int))]) (K := K) (mk_var (i := 4) (.head _))
    rw [eS] at X4
    refine rt_mk (d := .bool true) (mk_chain3 (mk_var (.tail _ (.head _))) X4 (mk_sz (n := chN n j) (mk_tup (mks_cons (mk_str (by decide)) (mks_cons (mk_var (.tail _ (.tail _ (.tail _ (.head _))))) (mks_cons (mk_subN (mk_var (.tail _ (.tail _ (.tail _ (.head _))))) (mk_var (.tail _ (.tail _ (.head _)))) (z := n - j) (by omega)) mks_nil))) (by show 3 ≤ 1000; decide)) fun v H Q hd k => sz_subset (k := n - j) (by omega) n4 hd (by rw [ch_sym jn]; exact k)) (mk_bin (mk_var (.tail _ (.tail _ (.tail _ (.head _))))) (mk_var (.tail _ (.tail _ (.head _)))) jn n4)) E4 fun v H5 S5 d5 => ?_
    rw [dat_bl d5]
    exact k _ (((DD.same S3).same S4).same S5)
theorem sc_seats_right : FnScope ["_law_deck_here", "_law_n", "_law_m"] ["_law_deck_here"] (defScope s_seats_right) := ⟨rfl, rfl, rfl, by decide +kernel, rfl, by decide +kernel, by decide +kernel⟩
theorem okl_seats_right {f fD fZ fF fW : Addr} {fd fdD fdZ fdF fdW : FuncData} (F : Fun K "_law_seats_right" "_law_seats_right" s_seats_right f fd) (T : Nm mg)  (D_draw : DefOk K mg "_law_draw" sDraw ["_law_deck_here", "_law_bound"] fD fdD) (D_size_of : DefOk K mg "size_of" sSizeOf ["space"] fZ fdZ) (D_factorial : DefOk K mg "_law_factorial" s_factorial ["_law_n"] fF fdF) (D_power : DefOk K mg "_law_power" s_power ["_law_base", "_law_exponent"] fW fdW) (G_size_of : FnOk P w K mg base CX0 13 fZ fdZ ["space"] (spSzOf 2)) : FnOk P w K mg base CX0 14 f fd ["_law_deck_here"] spR := by
  have G_draw : FnOk P w K mg base CX0 1 fD fdD ["_law_deck_here", "_law_bound"] spDraw := ok_draw D_draw.F
  have G_factorial : FnOk P w K mg base CX0 1 fF fdF ["_law_n"] spFact := okl_factorial D_factorial.F T
  have G_power : FnOk P w K mg base CX0 1 fW fdW ["_law_base", "_law_exponent"] spPow := okl_power D_power.F T
  refine F.ok sc_seats_right (fun vs H Q E h => ?_) (fun cdv A outer s H vs Q E hr h => ?_)
  · obtain ⟨p, q, b, rfl, _⟩ := h
    rfl
  · obtain ⟨p, q, b, rfl, D, hb, k⟩ := h
    have hu0 := hr.units0
    have hr1 : Room 1 _ := hr.mono (by decide)
    have hr2 : Room 2 _ := hr.mono (by decide)
    have hr5 : Room 5 _ := hr.mono (by decide)
    refine ⟨_, (pss_cons (ps_par (i := 1) (j := 2) rfl sc_seats_right.nd rfl rfl (by decide) rfl rfl (pa_cons (pe_op op_add pe_int (pe_call G_draw hr1 rfl D_draw.g D_draw.F.kp D_draw.b .nil pass0 (pa_cons (pv 0) (pa_cons pe_int pa_nil)))) (pa_cons (pe_call G_draw hr1 rfl D_draw.g D_draw.F.kp D_draw.b .nil pass0 (pa_cons (pv 0) (pa_cons pe_int pa_nil))) pa_nil)) (by rfl))
      (pss_cons (ps_if (pt_cmpR op_ne (pe_call G_size_of hr rfl D_size_of.g D_size_of.F.kp D_size_of.b .nil pass0 (pa_cons (pe_tup (pa_cons pe_str (pa_cons (pv 1) pa_nil))) pa_nil)) (pe_call G_factorial hr1 rfl D_factorial.g D_factorial.F.kp D_factorial.b .nil pass0 (pa_cons (pe_op op_sub (pv 1) pe_int) pa_nil)) (nomark _))
        (pss_one (ps_ret pe_bl))
        pss_nil)
      (pss_cons (ps_if (pt_cmpR op_ne (pe_op op_mulW (pe_op op_mulW (pe_call G_size_of hr rfl D_size_of.g D_size_of.F.kp D_size_of.b .nil pass0 (pa_cons (pe_tup (pa_cons pe_str (pa_cons (pv 2) pa_nil))) pa_nil)) (pe_call G_power hr1 rfl D_power.g D_power.F.kp D_power.b .nil pass0 (pa_cons pe_int (pa_cons (pv 2) pa_nil)))) (pe_call G_factorial hr1 rfl D_factorial.g D_factorial.F.kp D_factorial.b .nil pass0 (pa_cons (pv 2) pa_nil))) (pe_call G_factorial hr1 rfl D_factorial.g D_factorial.F.kp D_factorial.b .nil pass0 (pa_cons (pe_op op_mulW pe_int (pv 2)) pa_nil)) (nomark _))
        (pss_one (ps_ret pe_bl))
        pss_nil)
      (pss_one (ps_ret (pe_cmpR op_eq (pe_call G_size_of hr rfl D_size_of.g D_size_of.F.kp D_size_of.b .nil pass0 (pa_cons (pe_tup (pa_cons pe_str (pa_cons (pv 1) pa_nil))) pa_nil)) (pe_ifExp (pt_cmpR op_eq (pv 1) pe_int (nomark _)) pe_int (pe_call G_power hr1 rfl D_power.g D_power.F.kp D_power.b .nil pass0 (pa_cons (pv 1) (pa_cons (pe_op op_sub (pv 1) pe_int) pa_nil)))) (nomark _))))))), ?_⟩
    obtain ⟨ds0, m0, c0, D0, hc0⟩ := D
    refine ⟨_, rfl, p, q, ds0, m0, c0, 400, rfl, by decide, by decide, D0, by omega, fun x0 ds1 H1 x00 x01 O1 D1 => ?_⟩
    obtain ⟨x, rfl⟩ := nat_of x00
    refine ⟨_, _, rfl, rfl, ?_⟩
    generalize hn : 1 + x = n
    have en : (1 : Int) + (x : Int) = ((n : Nat) : Int) := by omega
    refine ⟨_, rfl, p, q, ds1, m0, c0 + 1, 201, rfl, by decide, by decide, D1, by omega, fun y0 ds2 H2 y00 y01 O2 D2 => ?_⟩
    obtain ⟨m, rfl⟩ := nat_of y00
    refine ⟨_, _, rfl, ?_⟩
    have n4 : n ≤ 400 := by omega
    have n1 : 1 ≤ n := by omega
    have m2 : m ≤ 200 := by omega
    have DD : Dk H2 p q (b + 100) := ⟨_, _, _, D2, by omega⟩
    have E0' : EnvOk [(2, .int ((m : Nat) : Int)), (1, .int ((n : Nat) : Int))] [some (.ref p), some (.int ((1 : Int) + (x : Int))), some (.int (m : Int))] H2 := fun z hz => by
      rcases List.mem_cons.mp hz with rfl | hz
      · exact ⟨_, rfl, .int _⟩
      rcases List.mem_cons.mp hz with rfl | hz
      · exact ⟨_, rfl, dat_int' en⟩
      cases hz
    have p2 : ∀ e, e ≤ 200 → (2 : Nat) ^ e < 2 ^ 4000 := fun e he => Nat.pow_lt_pow_right (by decide) (by omega)
    have o1 := odds_fac m
    have f2 := fac_14 (n := 2 * m) (by omega)
    have fp := fac_pos m
    have pp : 1 ≤ 2 ^ m := Nat.pos_of_ne_zero (by simp)
    have q1 : prodN (odds m) * 2 ^ m ≤ fac (2 * m) := by
      rw [← o1]
      exact Nat.le_mul_of_pos_right _ fp
    have q0 : prodN (odds m) ≤ fac (2 * m) := Nat.le_trans (Nat.le_mul_of_pos_right _ pp) q1
    refine sq_if0 (mkt (mk_neN (x := fac (n - 1)) (mk_sz (mk_tup (mks_cons (mk_str (by decide)) (mks_cons (mk_var (.tail _ (.head _))) mks_nil)) (by show 2 ≤ 1000; decide)) fun v H Q hd k => sz_cycle n1 n4 hd k) (mk_fact (mk_subN (mk_var (.tail _ (.head _))) (mk_nat (y := 1) rfl) (by omega)) (by omega)))) E0' fun H3 S3 => ?_
    refine sq_if0 (mkt (mk_neN (x := fac (2 * m)) (mk_mulN (mk_mulN (mk_sz (mk_tup (mks_cons (mk_str (by decide)) (mks_cons (mk_var (.head _)) mks_nil)) (by show 2 ≤ 1000; decide)) fun v H Q hd k => sz_match m2 hd k) (mk_pow (mk_nat (y := 2) rfl) (mk_var (.head _)) (by decide) (by omega) (by decide) (p2 m m2)) (Nat.lt_of_le_of_lt q0 f2) (lt_big (y := 0) (p2 m m2) (by decide)) rfl) (mk_fact (mk_var (.head _)) (by omega)) (Nat.lt_of_le_of_lt q1 f2) (fac_14 (by omega)) o1) (mk_fact (mk_mulN (mk_nat (y := 2) rfl) (mk_var (.head _)) (by decide) (lt_big (y := 0) (a := 10) (by omega) (by decide)) rfl) (by omega)))) (E0'.same S3) fun H4 S4 => ?_
    have E4 := (E0'.same S3).same S4
    have pn : n ^ (n - 2) < 2 ^ 4000 := by
      refine Nat.lt_of_le_of_lt (Nat.pow_le_pow_left n4 _) (Nat.lt_of_le_of_lt (Nat.pow_le_pow_right (by decide) (show n - 2 ≤ 398 by omega)) (by decide +kernel))
    refine rt_mk (d := .bool true) (mk_eqN (x := n ^ (n - 2)) (mk_sz (mk_tup (mks_cons (mk_str (by decide)) (mks_cons (mk_var (.tail _ (.head _))) mks_nil)) (by show 2 ≤ 1000; decide)) fun v H Q hd k => sz_tree n1 n4 hd k) ?_) E4 fun v H5 S5 d5 => ?_
    · by_cases h1 : n = 1
      · subst h1
        exact mk_ifT (mkt (mk_eqN (x := 1) (mk_var (.tail _ (.head _))) (mk_nat rfl))) (mk_nat rfl)
      · refine mk_ifF (mkt (mk_eq (mk_var (.tail _ (.head _))) mk_int (decide_eq_false fun z => h1 (by omega)))) (mk_pow (mk_var (.tail _ (.head _))) (mk_subN (mk_var (.tail _ (.head _))) (mk_nat (y := 2) rfl) (by omega)) n1 (by omega) (Nat.lt_of_le_of_lt n4 (by decide)) pn)
    · rw [dat_bl d5]
      exact k _ (((DD.same S3).same S4).same S5)
end
end K6
set_option maxRecDepth 100000
set_option maxHeartbeats 8000000
namespace K6
open PySem PySem.Spec PyProof.Rows L2
/-! ### permutations, walks -/
theorem atI_back {α : Type} {xs : List α} {v : α} (j : Nat) (h1 : 1 ≤ j) (hj : j ≤ xs.length) (h : xs[xs.length - j]? = some v) : atI xs (-(j : Int)) = some v := by
  have e : ixN xs.length (-(j : Int)) = some (xs.length - j) := by
    unfold ixN
    rw [if_neg (by omega), if_pos (by omega)]
    congr 1
    omega
  unfold atI
  rw [e]
  exact h
def manyL (m : Nat) : List Int := (List.range m).map fun j => ((manyP j : Nat) : Int)
theorem many_len (m : Nat) : (manyL m).length = m := by
  unfold manyL
  rw [List.length_map, List.length_range]
theorem many_at {m j : Nat} (h : j < m) : (manyL m)[j]? = some ((manyP j : Nat) : Int) := by
  unfold manyL
  rw [List.getElem?_map, List.getElem?_range h]
  rfl
theorem many_lt : ∀ n : Fin 61, manyP n.val < 2 ^ 300 := by decide +kernel
theorem many_succ (m : Nat) : manyL (m + 1) = manyL m ++ [((manyP m : Nat) : Int)] := by
  unfold manyL
  rw [List.range_succ, List.map_append]
  rfl
def rngD (n : Nat) : List PyData := (List.range n).map fun i => .int ((i : Nat) : Int)
section
variable {G : List (Nat × PyData)} {t u : TE}
theorem mk_ixL {K : PySem.W.Frag} {ds : List PyData} {d : PyData} {j : Nat} (h : Mk G t (.list ds)) (h2 : Mk G u (.int ((j : Nat) : Int))) (hj : ds[j]? = some d) : Mk G (tOp (rIxL K) t u) d := fun σ H Q E q => h σ H _ E fun v H1 S1 d1 => h2 σ H1 _ (E.same S1) fun w H2 S2 d2 => by
  obtain ⟨a, xs, rfl, ha, hx⟩ := dat_lst (d1.same S2)
  have hl := hx.len
  obtain ⟨x, hx1⟩ : ∃ x, xs[j]? = some x := ⟨xs[j]'(by rw [hl]; exact (List.getElem?_eq_some_iff.mp hj).1), List.getElem?_eq_getElem _⟩
  obtain ⟨d', hd', dx⟩ := hx.get hx1
  rw [hj] at hd'
  obtain rfl := Option.some.inj hd'
  exact ⟨a, xs, _, x, rfl, dat_isInt d2, SqL.of ha, atI_nat hx1, q _ H2 (S1.trans S2) dx⟩
theorem ints_all (H : Hp) : ∀ ns : List Int, DatAll H (ns.map V.int) (ns.map PyData.int)
  | [] => .nil
  | n :: ns => .cons (.int n) (ints_all H ns)
theorem mk_tupRg {n : Nat} (h : Mk G t (.int ((n : Nat) : Int))) (hn : n ≤ 1000) : Mk G (tTupRg (tRg1 t)) (.tuple (rngD n)) := fun σ H Q E q => h σ H _ E fun v H1 S1 d1 => by
  refine ⟨(n : Int), dat_isInt d1, .of_le (by decide) (by omega) (by decide) (by omega), fun r nr => q _ _ (S1.trans (same_new nr)) (.tup upd_same ?_)⟩
  have e1 : rgV 0 ((n : Nat) : Int) = ((List.range n).map fun i : Nat => ((i : Nat) : Int)).map V.int := by
    unfold rgV
    rw [List.map_map, show (((n : Nat) : Int) - 0).toNat = n by omega]
    exact List.map_congr_left fun i _ => by
      show V.int (0 + (i : Int)) = V.int (i : Int)
      rw [Int.zero_add]
  have e2 : rngD n = ((List.range n).map fun i : Nat => ((i : Nat) : Int)).map PyData.int := by
    unfold rngD
    rw [List.map_map]
    rfl
  rw [e1, e2]
  exact ints_all _ _
end
theorem perm_rng : ∀ n : Fin 61, pPerm [.str "permutation", .int ((n.val : Nat) : Int), .tuple (rngD n.val)] = true := by decide +kernel
theorem perm_nil : ∀ n : Fin 61, pPerm [.str "permutation", .int ((n.val : Nat) : Int), .tuple []] = true := by decide +kernel
theorem perm_p {n j : Nat} (hn : n ≤ 60) (hj : j < n) : pPerm [.str "permutation", .int ((n : Nat) : Int), .tuple [.int ((j : Nat) : Int)]] = true := by
  show (btw 0 60 (.int (n : Int)) && (decide ((0 : Int) ≤ ((1 : Nat) : Int)) && decide (((1 : Nat) : Int) ≤ (n : Int))) && ((btw 0 ((n : Int) - 1) (.int (j : Int)) && true) && ascB [.int (j : Int)])) = true
  rw [btw_of (by omega) (by omega), btw_of (by omega) (by omega), decide_eq_true (by decide), decide_eq_true (by omega)]
  rfl
section
variable {v : V} {H : Hp} {Q : VK} {E : XK}
theorem sz_perm {n : Nat} {ms : List PyData} (hp : pPerm [.str "permutation", .int ((n : Nat) : Int), .tuple ms] = true) {N : Nat} (hz : permN n ms.length (ms.length + 1) = ((N : Nat) : Int)) (hd : Dat H v (.tuple [.str "permutation", .int ((n : Nat) : Int), .tuple ms])) (q : ∀ H', Same H H' → Q (.int ((N : Nat) : Int)) H') : spSzOf 2 [v] H Q E := by
  refine sz_leaf (z := "permutation") (m := 3) (ds := [.int ((n : Nat) : Int), .tuple ms]) (p := pPerm) rfl (by decide +kernel) rfl hp ?_ hd q
  show permN ((n : Nat) : Int).toNat ms.length (ms.length + 1) = _
  rw [Int.toNat_natCast]
  exact hz
end
theorem rng_len (n : Nat) : (rngD n).length = n := by
  unfold rngD
  rw [List.length_map, List.length_range]
abbrev s_permutations_right : Stmt := top 43
section
variable {P : Program} {w : World} {K : PySem.W.Frag} {mg : Str → Option Value} {base : Heap}
theorem sc_permutations_right : FnScope ["_law_deck_here", "_law_n", "_law_many", "_law_k", "_law_p"] ["_law_deck_here"] (defScope s_permutations_right) := ⟨rfl, rfl, rfl, by decide +kernel, rfl, by decide +kernel, by decide +kernel⟩
theorem okl_permutations_right {f fD fZ fF : Addr} {fd fdD fdZ fdF : FuncData} (F : Fun K "_law_permutations_right" "_law_permutations_right" s_permutations_right f fd) (T : Nm mg)  (D_draw : DefOk K mg "_law_draw" sDraw ["_law_deck_here", "_law_bound"] fD fdD) (D_size_of : DefOk K mg "size_of" sSizeOf ["space"] fZ fdZ) (D_factorial : DefOk K mg "_law_factorial" s_factorial ["_law_n"] fF fdF) (G_size_of : FnOk P w K mg base CX0 13 fZ fdZ ["space"] (spSzOf 2)) : FnOk P w K mg base CX0 14 f fd ["_law_deck_here"] spR := by
  have G_draw : FnOk P w K mg base CX0 1 fD fdD ["_law_deck_here", "_law_bound"] spDraw := ok_draw D_draw.F
  have G_factorial : FnOk P w K mg base CX0 1 fF fdF ["_law_n"] spFact := okl_factorial D_factorial.F T
  refine F.ok sc_permutations_right (fun vs H Q E h => ?_) (fun cdv A outer s H vs Q E hr h => ?_)
  · obtain ⟨p, q, b, rfl, _⟩ := h
    rfl
  · obtain ⟨p, q, b, rfl, D, hb, k⟩ := h
    have hu0 := hr.units0
    have hr1 : Room 1 _ := hr.mono (by decide)
    have hr2 : Room 2 _ := hr.mono (by decide)
    have hr5 : Room 5 _ := hr.mono (by decide)
    refine ⟨_, (pss_cons (ps_par (i := 1) (j := 2) rfl sc_permutations_right.nd rfl rfl (by decide) rfl rfl (pa_cons (pe_call G_draw hr1 rfl D_draw.g D_draw.F.kp D_draw.b .nil pass0 (pa_cons (pv 0) (pa_cons pe_int pa_nil))) (pa_cons (pe_lst (pa_cons pe_int (pa_cons pe_int pa_nil))) pa_nil)) (by rfl))
      (pss_cons (ps_for PassesOwn.never rfl (pi_range2 rfl T.range (pa_cons pe_int (pa_cons (pe_op op_add (pv 1) pe_int) pa_nil))) (pg_name (i := 3) sc_permutations_right.nd rfl (Or.inl rfl))
        (pss_one (ps_expr (pe_bm PySem.F.plainAttrs_list PySem.F.slot_list_append PySem.F.type_list_append mt_append (pv 2) (pa_cons (pe_op op_mulW (pe_op op_sub (pv 3) pe_int) (pe_op op_add (pe_ix ix_list (pv 2) (pe_un un_neg pe_int) (fun _ _ => rfl)) (pe_ix ix_list (pv 2) (pe_un un_neg pe_int) (fun _ _ => rfl)))) pa_nil)))))
      (pss_cons (ps_if (PW.pt (pw_or (pt_cmpR op_ne (pe_call G_size_of hr rfl D_size_of.g D_size_of.F.kp D_size_of.b .nil pass0 (pa_cons (pe_tup (pa_cons pe_str (pa_cons (pv 1) (pa_cons (pe_tup pa_nil) pa_nil)))) pa_nil)) (pe_call G_factorial hr1 rfl D_factorial.g D_factorial.F.kp D_factorial.b .nil pass0 (pa_cons (pv 1) pa_nil)) (nomark _)) (pw_or1 (pt_cmpR op_ne (pe_call G_size_of hr rfl D_size_of.g D_size_of.F.kp D_size_of.b .nil pass0 (pa_cons (pe_tup (pa_cons pe_str (pa_cons (pv 1) (pa_cons (pe_tupRg rfl (by rfl) T.tuple (prg_1 (by rfl) T.range (pv 1))) pa_nil)))) pa_nil)) (pe_ix ix_list (pv 2) (pv 1) (fun _ _ => rfl)) (nomark _)))))
        (pss_one (ps_ret pe_bl))
        pss_nil)
      (pss_cons (ps_if (pt_cmpR op_eq (pv 1) pe_int (nomark _))
        (pss_one (ps_ret pe_bl))
        pss_nil)
      (pss_cons (ps_set (i := 4) sc_permutations_right.nd rfl (Or.inl rfl) (pe_call G_draw hr1 rfl D_draw.g D_draw.F.kp D_draw.b .nil pass0 (pa_cons (pv 0) (pa_cons (pv 1) pa_nil))))
      (pss_one (ps_ret (pe_cmpR op_eq (pe_call G_size_of hr rfl D_size_of.g D_size_of.F.kp D_size_of.b .nil pass0 (pa_cons (pe_tup (pa_cons pe_str (pa_cons (pv 1) (pa_cons (pe_tup (pa_cons (pv 4) pa_nil)) pa_nil)))) pa_nil)) (pe_op op_sub (pe_call G_factorial hr1 rfl D_factorial.g D_factorial.F.kp D_factorial.b .nil pass0 (pa_cons (pv 1) pa_nil)) (pe_call G_factorial hr1 rfl D_factorial.g D_factorial.F.kp D_factorial.b .nil pass0 (pa_cons (pe_op op_sub (pv 1) pe_int) pa_nil))) (nomark _))))))))), ?_⟩
    obtain ⟨ds0, m0, c0, D0, hc0⟩ := D
    refine ⟨_, rfl, p, q, ds0, m0, c0, 61, rfl, by decide, by decide, D0, by omega, fun x0 ds1 H1 x00 x01 O1 D1 => ?_⟩
    obtain ⟨n, rfl⟩ := nat_of x00
    have n6 : n ≤ 60 := by omega
    refine ⟨(by show 2 ≤ sizeLine; decide), fun r nr => ⟨_, _, rfl, ?_⟩⟩
    have D1' : Dk H1 p q (b + 1) := ⟨_, _, _, D1, by omega⟩
    obtain ⟨rp, rq⟩ := D1'.new nr
    have Dr := D1'.same (same_new (o := HO.lst [.int 1, .int 0]) nr)
    have er : upd H1 r (.lst [.int 1, .int 0]) r = some (.lst ((manyL 2).map V.int)) := upd_same
    generalize upd H1 r (.lst [.int 1, .int 0]) = H2 at Dr er ⊢
    refine ⟨_, rfl, _, _, rfl, rfl, 2, (n : Int) + 1, rfl, ⟨by decide, by decide, by omega, by omega⟩, for_range (lo := 2) (n := ((n : Int) + 1 - 2).toNat) (fun i σ Hx => ∃ x3 : Option V, σ = [some (.ref p), some (.int (n : Nat)), some (.ref r), x3, none] ∧ Dk Hx p q (b + 1) ∧ Hx r = some (.lst ((manyL (i + 2)).map V.int)))
      ⟨none, rfl, Dr, er⟩ ?_ ?_⟩
    · rintro i σ Hx hi ⟨x3, rfl, Dx, hx⟩
      have hi' : i + 2 ≤ n := by omega
      have e2 : (2 : Int) + (i : Int) = ((i + 2 : Nat) : Int) := by omega
      rw [e2]
      have lm : ((manyL (i + 2)).map V.int).length = i + 2 := by rw [List.length_map, many_len]
      have a1 : atI ((manyL (i + 2)).map V.int) (-1) = some (.int ((manyP (i + 1) : Nat) : Int)) := atI_back 1 (by decide) (by omega) (by rw [lm, List.getElem?_map, show i + 2 - 1 = i + 1 by omega, many_at (by omega)]; rfl)
      have a2 : atI ((manyL (i + 2)).map V.int) (-2) = some (.int ((manyP i : Nat) : Int)) := atI_back 2 (by decide) (by omega) (by rw [lm, List.getElem?_map, show i + 2 - 2 = i by omega, many_at (by omega)]; rfl)
      have l1 := many_lt ⟨i + 1, by omega⟩
      have l0 := many_lt ⟨i, by omega⟩
      have ev : (((i + 2 : Nat) : Int) - 1) * (((manyP (i + 1) : Nat) : Int) + ((manyP i : Nat) : Int)) = ((manyP (i + 2) : Nat) : Int) := by
        show _ = (((i + 1) * (manyP (i + 1) + manyP i) : Nat) : Int)
        rw [Int.natCast_mul, Int.natCast_add (manyP (i + 1))]
        congr 1
        omega
      refine ⟨_, rfl, .inl ⟨rfl, _, SqL.of hx⟩, _, rfl, _, _, rfl, rfl, _, rfl, 1, rfl, r, _, _, _, rfl, rfl, SqL.of hx, a1, _, rfl, 2, rfl, r, _, _, _, rfl, rfl, SqL.of hx, a2, _, _, rfl, rfl, _, _, rfl, rfl, wide_mul (a := 300) (b := 400) ?_ ?_ (by decide) (by decide) (by decide), r, _, _, rfl, rfl, hx, by rw [lm, sizeLine_eq]; omega, some (.int ((i + 2 : Nat) : Int)), rfl, dk_upd Dx rp rq, ?_⟩
      · rw [show ((i + 2 : Nat) : Int) - 1 = ((i + 1 : Nat) : Int) by omega, Int.natAbs_natCast]
        exact Nat.lt_of_lt_of_le (show i + 1 < 2 ^ 10 by omega) (by decide)
      · rw [← Int.natCast_add, Int.natAbs_natCast]
        have z := Nat.add_lt_add l1 l0
        exact Nat.lt_of_lt_of_le z (by decide +kernel)
      · show upd Hx r (.lst ((manyL (i + 2)).map V.int ++ [.int ((((i + 2 : Nat) : Int) - 1) * (((manyP (i + 1) : Nat) : Int) + ((manyP i : Nat) : Int)))])) r = _
        rw [ev, upd_same, many_succ (i + 2), List.map_append]
        rfl
    · rintro σ H3 ⟨x3, rfl, D3, h3⟩
      generalize hM : ((n : Int) + 1 - 2).toNat + 2 = M at h3
      have nM : n < M := by omega
      have E3 : EnvOk [(2, .list ((manyL M).map PyData.int)), (1, .int ((n : Nat) : Int))] [some (.ref p), some (.int (n : Nat)), some (.ref r), x3, none] H3 := fun z hz => by
        rcases List.mem_cons.mp hz with rfl | hz
        · exact ⟨_, rfl, .lst h3 (ints_all _ _)⟩
        rcases List.mem_cons.mp hz with rfl | hz
        · exact ⟨_, rfl, .int _⟩
        cases hz
      refine sq_if0 (mk_orTT (mkt (mk_neN (x := fac n) (mk_sz (mk_tup (mks_cons (mk_str (by decide)) (mks_cons (mk_var (.tail _ (.head _))) (mks_cons (mk_tup mks_nil (by decide)) mks_nil))) (by show 3 ≤ 1000; decide)) fun v H Q hd k => sz_perm (perm_nil ⟨n, by omega⟩) (perm_zero n) hd k) (mk_fact (mk_var (.tail _ (.head _))) (by omega))))
        (mkt (mk_neN (x := manyP n) (mk_sz (mk_tup (mks_cons (mk_str (by decide)) (mks_cons (mk_var (.tail _ (.head _))) (mks_cons (mk_tupRg (mk_var (.tail _ (.head _))) (by omega)) mks_nil))) (by show 3 ≤ 1000; decide)) fun v H Q hd k => sz_perm (perm_rng ⟨n, by omega⟩) (by rw [rng_len]; exact perm_all ⟨n, by omega⟩) hd k) (mk_ixL (mk_var (.head _)) (mk_var (.tail _ (.head _))) (by rw [List.getElem?_map, many_at nM]; rfl))))) E3 fun H4 S4 => ?_
      have D4 := D3.same S4
      have E4 := E3.same S4
      by_cases h0 : n = 0
      · refine sq_if1 (mkt (mk_eq (mk_var (.tail _ (.head _))) mk_int (decide_eq_true (by omega)))) E4 fun H5 S5 => ?_
        exact k _ ((D4.same S5).mono (by omega))
      · refine sq_if0 (mkt (mk_eq (mk_var (.tail _ (.head _))) mk_int (decide_eq_false (by omega)))) E4 fun H5 S5 => ?_
        obtain ⟨ds5, m5, c5, D5, hc5⟩ := D4.same S5
        refine ⟨_, rfl, _, rfl, p, q, ds5, m5, c5, (n : Int), rfl, by omega, by omega, D5, by omega, fun y0 ds6 H6 y00 y01 O6 D6 => ?_⟩
        obtain ⟨y, rfl⟩ := nat_of y00
        have hy : y < n := by omega
        have D6' : Dk H6 p q (b + 100) := ⟨_, _, _, D6, by omega⟩
        have E6 : EnvOk [(4, .int ((y : Nat) : Int)), (1, .int ((n : Nat) : Int))] [some (.ref p), some (.int (n : Nat)), some (.ref r), x3, some (.int (y : Nat))] H6 := fun z hz => by
          rcases List.mem_cons.mp hz with rfl | hz
          · exact ⟨_, rfl, .int _⟩
          rcases List.mem_cons.mp hz with rfl | hz
          · exact ⟨_, rfl, .int _⟩
          cases hz
        have fm : fac (n - 1) ≤ fac n := fac_mono (by omega)
        refine rt_mk (d := .bool true) (mk_eqN (x := fac n - fac (n - 1)) (mk_sz (mk_tup (mks_cons (mk_str (by decide)) (mks_cons (mk_var (.tail _ (.head _))) (mks_cons (mk_tup (mks_cons (mk_var (.head _)) mks_nil) (by show 1 ≤ 1000; decide)) mks_nil))) (by show 3 ≤ 1000; decide)) fun v H Q hd k => sz_perm (perm_p n6 hy) (perm_one (by omega)) hd k) (mk_subN (mk_fact (mk_var (.tail _ (.head _))) (by omega)) (mk_fact (mk_subN (mk_var (.tail _ (.head _))) (mk_nat (y := 1) rfl) (z := n - 1) (by omega)) (by omega)) (by omega))) E6 fun v H7 S7 d7 => ?_
        rw [dat_bl d7]
        exact k _ (D6'.same S7)
end
end K6
set_option maxRecDepth 100000
set_option maxHeartbeats 8000000
namespace K6
open PySem PySem.Spec PyProof.Rows L2
abbrev s_walks_right : Stmt := top 41
section
variable {P : Program} {w : World} {K : PySem.W.Frag} {mg : Str → Option Value} {base : Heap}
theorem sc_walks_right : FnScope ["_law_deck_here", "_law_n", "_law_up", "_law_start", "_law_half", "_law_end", "_law_free", "_law_reached", "_law_catalan", "_law_above", "_law_odd"] ["_law_deck_here"] (defScope s_walks_right) := ⟨rfl, rfl, rfl, by decide +kernel, rfl, by decide +kernel, by decide +kernel⟩
theorem okl_walks_right {f fD fZ fF fB : Addr} {fd fdD fdZ fdF fdB : FuncData} (F : Fun K "_law_walks_right" "_law_walks_right" s_walks_right f fd) (T : Nm mg) (Tmin : mg "min" = none) (D_draw : DefOk K mg "_law_draw" sDraw ["_law_deck_here", "_law_bound"] fD fdD) (D_size_of : DefOk K mg "size_of" sSizeOf ["space"] fZ fdZ) (D_factorial : DefOk K mg "_law_factorial" s_factorial ["_law_n"] fF fdF) (D_binomial : DefOk K mg "_law_binomial" s_binomial ["_law_n", "_law_k"] fB fdB) (G_size_of : FnOk P w K mg base CX0 13 fZ fdZ ["space"] (spSzOf 2)) : FnOk P w K mg base CX0 14 f fd ["_law_deck_here"] spR := by
  have G_draw : FnOk P w K mg base CX0 1 fD fdD ["_law_deck_here", "_law_bound"] spDraw := ok_draw D_draw.F
  have G_factorial : FnOk P w K mg base CX0 1 fF fdF ["_law_n"] spFact := okl_factorial D_factorial.F T
  have G_binomial : FnOk P w K mg base CX0 2 fB fdB ["_law_n", "_law_k"] spBin := okl_binomial D_binomial.F T D_factorial
  refine F.ok sc_walks_right (fun vs H Q E h => ?_) (fun cdv A outer s H vs Q E hr h => ?_)
  · obtain ⟨p, q, b, rfl, _⟩ := h
    rfl
  · obtain ⟨p, q, b, rfl, D, hb, k⟩ := h
    have hu0 := hr.units0
    have hr1 : Room 1 _ := hr.mono (by decide)
    have hr2 : Room 2 _ := hr.mono (by decide)
    have hr5 : Room 5 _ := hr.mono (by decide)
    refine ⟨_, (pss_cons (ps_par (i := 1) (j := 2) rfl sc_walks_right.nd rfl rfl (by decide) rfl rfl (pa_cons (pe_call G_draw hr1 rfl D_draw.g D_draw.F.kp D_draw.b .nil pass0 (pa_cons (pv 0) (pa_cons pe_int pa_nil))) (pa_cons (pe_call G_draw hr1 rfl D_draw.g D_draw.F.kp D_draw.b .nil pass0 (pa_cons (pv 0) (pa_cons pe_int pa_nil))) pa_nil)) (by rfl))
      (pss_cons (ps_par (i := 3) (j := 4) rfl sc_walks_right.nd rfl rfl (by decide) rfl rfl (pa_cons (pe_op op_sub (pe_call G_draw hr1 rfl D_draw.g D_draw.F.kp D_draw.b .nil pass0 (pa_cons (pv 0) (pa_cons pe_int pa_nil))) pe_int) (pa_cons (pe_call G_draw hr1 rfl D_draw.g D_draw.F.kp D_draw.b .nil pass0 (pa_cons (pv 0) (pa_cons pe_int pa_nil))) pa_nil)) (by rfl))
      (pss_cons (ps_set (i := 2) sc_walks_right.nd rfl (Or.inl rfl) (pe_callB (call_min2 rfl) (by rfl) Tmin (by decide +kernel) (pa_cons (pv 2) (pa_cons (pv 1) pa_nil))))
      (pss_cons (ps_set (i := 5) sc_walks_right.nd rfl (Or.inl rfl) (pe_op op_sub (pe_op op_add (pv 3) (pe_op op_mulW pe_int (pv 2))) (pv 1)))
      (pss_cons (ps_set (i := 6) sc_walks_right.nd rfl (Or.inl rfl) (pe_ifExp (pt_chain op_le op_le (pe_un un_neg pe_int) (pv 5) pe_int) (pe_call G_size_of hr rfl D_size_of.g D_size_of.F.kp D_size_of.b .nil pass0 (pa_cons (pe_tup (pa_cons pe_str (pa_cons (pv 1) (pa_cons (pv 3) (pa_cons (pv 5) (pa_cons (pe_un un_neg pe_int) (pa_cons pe_int pa_nil))))))) pa_nil)) pe_non))
      (pss_cons (ps_set (i := 7) sc_walks_right.nd rfl (Or.inl rfl) (pe_or (pe_cmpR op_isN (pv 6) pe_non (nomark _)) (pe_or (pe_cmpR op_lt (pe_op op_sub (pv 3) (pv 1)) (pe_un un_neg pe_int) (nomark _)) (pe_or (pe_cmpR op_gt (pe_op op_add (pv 3) (pv 1)) pe_int (nomark _)) (pe_one (pe_cmpR op_eq (pv 6) (pe_call G_binomial hr2 rfl D_binomial.g D_binomial.F.kp D_binomial.b .nil pass0 (pa_cons (pv 1) (pa_cons (pv 2) pa_nil))) (nomark _)))))))
      (pss_cons (ps_set (i := 8) sc_walks_right.nd rfl (Or.inl rfl) (pe_op op_fdivN (pe_call G_binomial hr2 rfl D_binomial.g D_binomial.F.kp D_binomial.b .nil pass0 (pa_cons (pe_op op_mulW pe_int (pv 4)) (pa_cons (pv 4) pa_nil))) (pe_op op_add (pv 4) pe_int)))
      (pss_cons (ps_set (i := 9) sc_walks_right.nd rfl (Or.inl rfl) (pe_ifExp (pt_cmpR op_le (pe_op op_add (pv 3) (pv 4)) pe_int (nomark _)) (pe_call G_size_of hr rfl D_size_of.g D_size_of.F.kp D_size_of.b .nil pass0 (pa_cons (pe_tup (pa_cons pe_str (pa_cons (pe_op op_mulW pe_int (pv 4)) (pa_cons (pv 3) (pa_cons (pv 3) (pa_cons (pv 3) (pa_cons pe_int pa_nil))))))) pa_nil)) (pv 8)))
      (pss_cons (ps_set (i := 10) sc_walks_right.nd rfl (Or.inl rfl) (pe_ifExp (pt_cmpR op_eq (pe_op op_mod (pv 1) pe_int) pe_int (nomark _)) (pe_call G_size_of hr rfl D_size_of.g D_size_of.F.kp D_size_of.b .nil pass0 (pa_cons (pe_tup (pa_cons pe_str (pa_cons (pv 1) (pa_cons (pv 3) (pa_cons (pe_op op_add (pv 3) pe_int) (pa_cons (pe_op op_sub (pv 3) pe_int) (pa_cons (pe_op op_add (pv 3) pe_int) pa_nil))))))) pa_nil)) pe_int))
      (pss_one (ps_ret (pe_and (pv 7) (pe_and (pe_cmpR op_eq (pv 9) (pv 8) (nomark _)) (pe_one (pe_cmpR op_eq (pv 10) pe_int (nomark _)))))))))))))))), ?_⟩
    obtain ⟨ds0, m0, c0, D0, hc0⟩ := D
    refine ⟨_, rfl, p, q, ds0, m0, c0, 61, rfl, by decide, by decide, D0, by omega, fun x0 ds1 H1 x00 x01 O1 D1 => ?_⟩
    obtain ⟨n, rfl⟩ := nat_of x00
    refine ⟨_, rfl, p, q, ds1, m0, c0 + 1, 31, rfl, by decide, by decide, D1, by omega, fun y0 ds2 H2 y00 y01 O2 D2 => ?_⟩
    obtain ⟨u0, rfl⟩ := nat_of y00
    refine ⟨_, _, rfl, ?_⟩
    refine ⟨_, rfl, p, q, ds2, m0, c0 + 1 + 1, 5, rfl, by decide, by decide, D2, by omega, fun z0 ds3 H3 z00 z01 O3 D3 => ?_⟩
    obtain ⟨z, rfl⟩ := nat_of z00
    refine ⟨_, _, rfl, rfl, ?_⟩
    generalize hs : (z : Int) - 2 = st
    refine ⟨_, rfl, p, q, ds3, m0, c0 + 1 + 1 + 1, 31, rfl, by decide, by decide, D3, by omega, fun w0 ds4 H4 w00 w01 O4 D4 => ?_⟩
    obtain ⟨hf, rfl⟩ := nat_of w00
    refine ⟨_, _, rfl, ?_⟩
    have DD : Dk H4 p q (b + 100) := ⟨_, _, _, D4, by omega⟩
    have n6 : n ≤ 60 := by omega
    have h30 : hf ≤ 30 := by omega
    have s1 : -2 ≤ st := by omega
    have s2 : st ≤ 2 := by omega
    have eu : (if (n : Int) < (u0 : Int) then (n : Int) else (u0 : Int)) = ((min u0 n : Nat) : Int) := by
      by_cases c : (n : Int) < (u0 : Int)
      · rw [if_pos c]
        omega
      · rw [if_neg c]
        omega
    refine ⟨_, rfl, _, rfl, (u0 : Int), (n : Int), rfl, ?_⟩
    generalize hu : min u0 n = u
    have E0' : EnvOk [(4, .int ((hf : Nat) : Int)), (3, .int st), (2, .int ((u : Nat) : Int)), (1, .int ((n : Nat) : Int))] [some (.ref p), some (.int (n : Nat)), some (.int (if (n : Int) < (u0 : Int) then (n : Int) else (u0 : Int))), some (.int ((z : Int) - 2)), some (.int (hf : Nat)), none, none, none, none, none, none] H4 := fun z hz => by
      rcases List.mem_cons.mp hz with rfl | hz
      · exact ⟨_, rfl, .int _⟩
      rcases List.mem_cons.mp hz with rfl | hz
      · exact ⟨_, rfl, dat_int' hs⟩
      rcases List.mem_cons.mp hz with rfl | hz
      · exact ⟨_, rfl, dat_int' (by rw [eu, hu])⟩
      rcases List.mem_cons.mp hz with rfl | hz
      · exact ⟨_, rfl, .int _⟩
      cases hz
    have un : u ≤ n := by omega
    have u30 : u ≤ 30 := by omega
    -- end
    refine sq_set (i := 5) (d := .int (st + 2 * (u : Int) - (n : Int))) (mk_op0 (mk_op0 (mk_var (.tail _ (.head _))) (mk_op (mk_int (i := 2)) (mk_var (i := 2) (.tail _ (.tail _ (.head _)))) (wide_mul (a := 10) (b := 10) (by decide) (by rw [Int.natAbs_natCast]; omega) (by decide) (by decide) (by decide)) rfl) rfl) (mk_var (i := 1) (.tail _ (.tail _ (.tail _ (.head _))))) rfl) E0' (by rfl) (Nat.le_of_ble_eq_true (by rfl)) fun v5 H5 S5 E5 => ?_
    generalize he : st + 2 * (u : Int) - (n : Int) = en at E5
    -- free
    let fr : PyData := if -60 ≤ en ∧ en ≤ 60 then .int ((walkW (-60) 60 st n en : Nat) : Int) else .none
    refine sq_set (i := 6) (d := fr) ?_ E5 (by rfl) (Nat.le_of_ble_eq_true (by rfl)) fun v6 H6 S6 E6 => ?_
    · by_cases c : -60 ≤ en ∧ en ≤ 60
      · have e : fr = .int ((walkW (-60) 60 st n en : Nat) : Int) := if_pos c
        rw [e]
        exact mk_ifT (mkt (mk_chainLe mk_neg (mk_var (.head _)) mk_int (by rw [decide_eq_true c.1, decide_eq_true c.2]; rfl))) (mk_sz (mk_tup (mks_cons (mk_str (by decide)) (mks_cons (mk_var (.tail _ (.tail _ (.tail _ (.tail _ (.head _)))))) (mks_cons (mk_var (.tail _ (.tail _ (.head _)))) (mks_cons (mk_var (.head _)) (mks_cons mk_neg (mks_cons mk_int mks_nil)))))) (by show 6 ≤ 1000; decide)) fun v H Q hd k => sz_walk n6 (by decide) (by decide) (by omega) (by omega) c.1 c.2 hd k)
      · have e : fr = .none := if_neg c
        rw [e]
        refine mk_ifF (mkt (mk_chainLe mk_neg (mk_var (.head _)) mk_int ?_)) mk_non
        by_cases c1 : (-60 : Int) ≤ en
        · rw [decide_eq_false (p := en ≤ 60) (fun z => c ⟨c1, z⟩), Bool.and_false]
        · rw [decide_eq_false c1, Bool.false_and]
    -- reached
    refine sq_set (i := 7) (d := .bool true) ?_ E6 (by rfl) (Nat.le_of_ble_eq_true (by rfl)) fun v7 H7 S7 E7 => ?_
    · by_cases c : -60 ≤ en ∧ en ≤ 60
      · have e : fr = .int ((walkW (-60) 60 st n en : Nat) : Int) := if_pos c
        rw [e]
        refine mk_orF (mk_isN (mk_var (.head _)) (b := false) fun v H d => by rw [dat_isInt d]; rfl) ?_
        by_cases c1 : st - (n : Int) < -60
        · exact mk_orT (mk_cmp (mk_op0 (mk_var (.tail _ (.tail _ (.tail _ (.head _))))) (mk_var (i := 1) (.tail _ (.tail _ (.tail _ (.tail _ (.tail _ (.head _))))))) rfl) mk_neg (by show V.bl (decide (st - (n : Int) < -60)) = _; rw [decide_eq_true c1]))
        refine mk_orF (mk_cmp (mk_op0 (mk_var (.tail _ (.tail _ (.tail _ (.head _))))) (mk_var (i := 1) (.tail _ (.tail _ (.tail _ (.tail _ (.tail _ (.head _))))))) rfl) mk_neg (by show V.bl (decide (st - (n : Int) < -60)) = _; rw [decide_eq_false c1])) ?_
        by_cases c2 : 60 < st + (n : Int)
        · exact mk_orT (mk_cmp (mk_op0 (mk_var (.tail _ (.tail _ (.tail _ (.head _))))) (mk_var (i := 1) (.tail _ (.tail _ (.tail _ (.tail _ (.tail _ (.head _))))))) rfl) mk_int (by show V.bl (decide ((60 : Int) < st + (n : Int))) = _; rw [decide_eq_true c2]))
        refine mk_orF (mk_cmp (mk_op0 (mk_var (.tail _ (.tail _ (.tail _ (.head _))))) (mk_var (i := 1) (.tail _ (.tail _ (.tail _ (.tail _ (.tail _ (.head _))))))) rfl) mk_int (by show V.bl (decide ((60 : Int) < st + (n : Int))) = _; rw [decide_eq_false c2])) ?_
        have ew : walkW (-60) 60 st n en = chN n u := by
          rw [← he]
          exact walk_free n u (by omega) (by omega) un
        rw [ew]
        exact mk_eqN (mk_var (.head _)) (mk_bin (mk_var (.tail _ (.tail _ (.tail _ (.tail _ (.tail _ (.head _))))))) (mk_var (.tail _ (.tail _ (.tail _ (.tail _ (.head _)))))) un (by omega))
      · have e : fr = .none := if_neg c
        rw [e]
        exact mk_orT (mk_isN (mk_var (.head _)) fun v H d => by
          cases d
          rfl)
    clear_value fr
    -- catalan
    have cl : hf + 1 < 1073741824 := by omega
    refine sq_set (i := 8) (d := .int ((chN (2 * hf) hf / (hf + 1) : Nat) : Int)) (mk_op (mk_bin (mk_mulN (mk_nat (y := 2) rfl) (mk_var (i := 4) (.tail _ (.tail _ (.tail _ (.head _))))) (by decide) (lt_big (y := 0) (a := 10) (by omega) (by decide)) rfl) (mk_var (i := 4) (.tail _ (.tail _ (.tail _ (.head _))))) (by omega) (by omega)) (mk_addN (mk_var (i := 4) (.tail _ (.tail _ (.tail _ (.head _))))) (mk_nat (y := 1) rfl) rfl) ⟨by omega, by rw [Int.natAbs_natCast]; exact cl⟩ (by rw [Int.ofNat_fdiv])) E7 (by rfl) (Nat.le_of_ble_eq_true (by rfl)) fun v8 H8 S8 E8 => ?_
    -- above
    refine sq_set (i := 9) (d := .int ((chN (2 * hf) hf / (hf + 1) : Nat) : Int)) ?_ E8 (by rfl) (Nat.le_of_ble_eq_true (by rfl)) fun v9 H9 S9 E9 => ?_
    · have h4 : (4, PyData.int ((hf : Nat) : Int)) ∈ [(8, PyData.int ((chN (2 * hf) hf / (hf + 1) : Nat) : Int)), (7, .bool true), (6, fr), (5, .int en), (4, .int ((hf : Nat) : Int)), (3, .int st), (2, .int ((u : Nat) : Int)), (1, .int ((n : Nat) : Int))] := .tail _ (.tail _ (.tail _ (.tail _ (.head _))))
      have h3 : (3, PyData.int st) ∈ [(8, PyData.int ((chN (2 * hf) hf / (hf + 1) : Nat) : Int)), (7, .bool true), (6, fr), (5, .int en), (4, .int ((hf : Nat) : Int)), (3, .int st), (2, .int ((u : Nat) : Int)), (1, .int ((n : Nat) : Int))] := .tail _ (.tail _ (.tail _ (.tail _ (.tail _ (.head _)))))
      by_cases c : st + (hf : Int) ≤ 60
      · exact mk_ifT (mkt (mk_cmp (mk_op0 (mk_var h3) (mk_var h4) rfl) mk_int (by show V.bl (decide (st + (hf : Int) ≤ 60)) = _; rw [decide_eq_true c]))) (mk_sz (mk_tup (mks_cons (mk_str (by decide)) (mks_cons (mk_mulN (mk_nat (y := 2) rfl) (mk_var h4) (by decide) (lt_big (y := 0) (a := 10) (by omega) (by decide)) rfl) (mks_cons (mk_var h3) (mks_cons (mk_var h3) (mks_cons (mk_var h3) (mks_cons mk_int mks_nil)))))) (by show 6 ≤ 1000; decide)) fun v H Q hd k => sz_walk (by omega) (by omega) (by decide) (by omega) (by omega) (by omega) (by omega) hd (by rw [walk_catalan c]; exact k))
      · exact mk_ifF (mkt (mk_cmp (mk_op0 (mk_var h3) (mk_var h4) rfl) mk_int (by show V.bl (decide (st + (hf : Int) ≤ 60)) = _; rw [decide_eq_false c]))) (mk_var (.head _))
    -- odd
    refine sq_set (i := 10) (d := .int 0) ?_ E9 (by rfl) (Nat.le_of_ble_eq_true (by rfl)) fun v10 H10 S10 E10 => ?_
    · have h3 : (3, PyData.int st) ∈ [(9, PyData.int ((chN (2 * hf) hf / (hf + 1) : Nat) : Int)), (8, PyData.int ((chN (2 * hf) hf / (hf + 1) : Nat) : Int)), (7, .bool true), (6, fr), (5, .int en), (4, .int ((hf : Nat) : Int)), (3, .int st), (2, .int ((u : Nat) : Int)), (1, .int ((n : Nat) : Int))] := .tail _ (.tail _ (.tail _ (.tail _ (.tail _ (.tail _ (.head _))))))
      have h1 : (1, PyData.int ((n : Nat) : Int)) ∈ [(9, PyData.int ((chN (2 * hf) hf / (hf + 1) : Nat) : Int)), (8, PyData.int ((chN (2 * hf) hf / (hf + 1) : Nat) : Int)), (7, .bool true), (6, fr), (5, .int en), (4, .int ((hf : Nat) : Int)), (3, .int st), (2, .int ((u : Nat) : Int)), (1, .int ((n : Nat) : Int))] := .tail _ (.tail _ (.tail _ (.tail _ (.tail _ (.tail _ (.tail _ (.tail _ (.head _))))))))
      by_cases c : (n : Int) % 2 = 0
      · refine mk_ifT (mkt (mk_eq (mk_op (mk_var h1) (mk_int (i := 2)) (by decide) (k := (n : Int) % 2) rfl) mk_int (decide_eq_true c))) ?_
        have ez : walkW (st - 1) (st + 2) st n (st + 1) = 0 := walk_odd _ _ _ n _ (by omega)
        exact mk_sz (n := 0) (mk_tup (mks_cons (mk_str (by decide)) (mks_cons (mk_var h1) (mks_cons (mk_var h3) (mks_cons (mk_op0 (mk_var h3) (mk_int (i := 1)) (k := st + 1) rfl) (mks_cons (mk_op0 (mk_var h3) (mk_int (i := 1)) (k := st - 1) rfl) (mks_cons (mk_op0 (mk_var h3) (mk_int (i := 2)) (k := st + 2) rfl) mks_nil)))))) (by show 6 ≤ 1000; decide)) fun v H Q hd k => sz_walk n6 (by omega) (by omega) (by omega) (by omega) (by omega) (by omega) hd (by rw [ez]; exact k)
      · exact mk_ifF (mkt (mk_eq (mk_op (mk_var h1) (mk_int (i := 2)) (by decide) (k := (n : Int) % 2) rfl) mk_int (decide_eq_false c))) mk_int
    refine rt_mk (d := .bool true) (mk_andT (mk_var (.tail _ (.tail _ (.tail _ (.head _))))) (mk_andT (mk_eqN (mk_var (.tail _ (.head _))) (mk_var (.tail _ (.tail _ (.head _))))) (mk_eq (mk_var (.head _)) mk_int (decide_eq_true rfl)))) E10 fun v H11 S11 d11 => ?_
    rw [dat_bl d11]
    exact k _ (((((((DD.same S5).same S6).same S7).same S8).same S9).same S10).same S11)
end
end K6
set_option maxRecDepth 100000
set_option maxHeartbeats 8000000
namespace K6
open PySem PySem.Spec PyProof.Rows L2
/-! ### strings -/
def mvD (j : Nat) : PyData := .tuple [.int 0, .str ⟨#[97 + j]⟩, .int 0]
def mvs (m : Nat) : List PyData := (List.range m).map mvD
def ltr (m : Nat) : Str := ⟨((List.range m).map fun j => 97 + j).toArray⟩
theorem cut_ltr : ∀ j : Fin 6, cutS "abcdef" none (some ((1 : Int) + ((j.val : Nat) : Int))) = ltr (j.val + 1) := by decide +kernel
theorem ltr_len (m : Nat) : (ltr m).length = m := by
  show ((List.range m).map fun j => 97 + j).toArray.size = m
  rw [List.size_toArray, List.length_map, List.length_range]
theorem ltr_at {m i c : Nat} (h : (ltr m).cps[i]? = some c) : i < m ∧ c = 97 + i := by
  have h' : (((List.range m).map fun j => 97 + j).toArray)[i]? = some c := h
  rw [List.getElem?_toArray, List.getElem?_map] at h'
  by_cases c0 : i < m
  · rw [List.getElem?_range c0] at h'
    exact ⟨c0, (Option.some.inj h').symm⟩
  · rw [List.getElem?_eq_none (by rw [List.length_range]; omega)] at h'
    cases h'
theorem mvs_sum (g : Int → Nat) : ∀ m : Nat, mvS g (mvs m) 0 = m * g 0
  | 0 => by
    show (0 : Nat) = 0 * g 0
    rw [Nat.zero_mul]
  | m + 1 => by
    have z := mvs_sum g m
    unfold mvS mvs at z ⊢
    rw [List.range_succ, List.map_append, List.map_append, List.sum_append, z]
    show m * g 0 + (g 0 + 0) = _
    rw [Nat.succ_mul, Nat.add_zero]
theorem mvs_none (g : Int → Nat) : ∀ m : Nat, mvS g (mvs m) 1 = 0
  | 0 => rfl
  | m + 1 => by
    have z := mvs_none g m
    unfold mvS mvs at z ⊢
    rw [List.range_succ, List.map_append, List.map_append, List.sum_append, z]
    rfl
theorem one_size (m n : Nat) : strN (mvs m) [.int 0] n = m ^ n := by
  show strT (mvs m) n 0 + 0 = _
  rw [str_one (fun g => mvs_sum g m)]
  rfl
theorem no_size (m n : Nat) : strN (mvs m) [.int 1] n = 0 := by
  show strT (mvs m) n 1 + 0 = 0
  cases n with
  | zero => rfl
  | succ n => exact (Nat.add_zero _).trans (mvs_none _ m)
theorem auto_one : ∀ j : Fin 7, autoB (.tuple [.tuple (mvs j.val), .tuple [.int 0]]) = true ∧ autoB (.tuple [.tuple (mvs j.val), .tuple [.int 1]]) = true := by decide +kernel
theorem auto_apart : autoB (.tuple [.tuple apartM, .tuple [.int 0, .int 1]]) = true := by decide +kernel
section
variable {v : V} {H : Hp} {Q : VK} {E : XK}
theorem sz_str {n N : Nat} {ms ss : List PyData} (ha : autoB (.tuple [.tuple ms, .tuple ss]) = true) (hn : n ≤ 60) (hz : strN ms ss n = N) (hd : Dat H v (.tuple [.str "string", .tuple [.tuple ms, .tuple ss], .int ((n : Nat) : Int)])) (q : ∀ H', Same H H' → Q (.int ((N : Nat) : Int)) H') : spSzOf 2 [v] H Q E := by
  refine sz_leaf (z := "string") (m := 3) (ds := [.tuple [.tuple ms, .tuple ss], .int ((n : Nat) : Int)]) (p := pString) rfl (by decide +kernel) rfl ?_ ?_ hd q
  · show (btw 0 60 (.int (n : Int)) && autoB (.tuple [.tuple ms, .tuple ss])) = true
    rw [ha, btw_of (by omega) (by omega)]
    rfl
  · show ((strN ms ss ((n : Nat) : Int).toNat : Nat) : Int) = _
    rw [Int.toNat_natCast, hz]
end
theorem mk_lenS {G : List (Nat × PyData)} {t : TE} {z : Str} {m : Nat} (h : Mk G t (.str z)) (hm : z.length = m) (hl : m ≤ 1000) : Mk G (tCB (fun xs H Q => ∃ z : Str, xs = [.str z] ∧ z.length ≤ sizeLine ∧ Q (.int (z.length : Nat)) H) (tCons t tNil)) (.int ((m : Nat) : Int)) := fun σ H Q E q => h σ H _ E fun v H1 S1 d1 => by
  subst hm
  cases d1
  exact ⟨z, rfl, by rw [sizeLine_eq]; omega, q _ H1 S1 (.int _)⟩
def fibL (m : Nat) : List Int := (List.range m).map fun j => ((fibN j : Nat) : Int)
theorem fib_len (m : Nat) : (fibL m).length = m := by
  unfold fibL
  rw [List.length_map, List.length_range]
theorem fib_at {m j : Nat} (h : j < m) : (fibL m)[j]? = some ((fibN j : Nat) : Int) := by
  unfold fibL
  rw [List.getElem?_map, List.getElem?_range h]
  rfl
theorem fib_succ (m : Nat) : fibL (m + 1) = fibL m ++ [((fibN m : Nat) : Int)] := by
  unfold fibL
  rw [List.range_succ, List.map_append]
  rfl
abbrev s_strings_right : Stmt := top 44
section
variable {P : Program} {w : World} {K : PySem.W.Frag} {mg : Str → Option Value} {base : Heap}
theorem sc_strings_right : FnScope ["_law_deck_here", "_law_n", "_law_letters", "_law_many", "_law_k", "_law_moves", "_law_apart", "_law_found", "_law_letter"] ["_law_deck_here"] (defScope s_strings_right) := ⟨rfl, rfl, rfl, by decide +kernel, rfl, by decide +kernel, by decide +kernel⟩
theorem okl_strings_right {f fD fZ fW : Addr} {fd fdD fdZ fdW : FuncData} (F : Fun K "_law_strings_right" "_law_strings_right" s_strings_right f fd) (T : Nm mg)  (D_draw : DefOk K mg "_law_draw" sDraw ["_law_deck_here", "_law_bound"] fD fdD) (D_size_of : DefOk K mg "size_of" sSizeOf ["space"] fZ fdZ) (D_power : DefOk K mg "_law_power" s_power ["_law_base", "_law_exponent"] fW fdW) (G_size_of : FnOk P w K mg base CX0 13 fZ fdZ ["space"] (spSzOf 2)) : FnOk P w K mg base CX0 14 f fd ["_law_deck_here"] spR := by
  have G_draw : FnOk P w K mg base CX0 1 fD fdD ["_law_deck_here", "_law_bound"] spDraw := ok_draw D_draw.F
  have G_power : FnOk P w K mg base CX0 1 fW fdW ["_law_base", "_law_exponent"] spPow := okl_power D_power.F T
  refine F.ok sc_strings_right (fun vs H Q E h => ?_) (fun cdv A outer s H vs Q E hr h => ?_)
  · obtain ⟨p, q, b, rfl, _⟩ := h
    rfl
  · obtain ⟨p, q, b, rfl, D, hb, k⟩ := h
    have hu0 := hr.units0
    have hu : (A.deeper (envOfC "_law_strings_right" (defScope s_strings_right) s.heap.objs.size f cdv)).units + 64 < cLine := by
      have := hr.un
      omega
    have hr1 : Room 1 _ := hr.mono (by decide)
    have hr2 : Room 2 _ := hr.mono (by decide)
    have hr5 : Room 5 _ := hr.mono (by decide)
    refine ⟨_, (pss_cons (ps_par3 (i := 1) (j := 2) (l := 3) rfl sc_strings_right.nd rfl rfl rfl (by decide) (by decide) (by decide) rfl rfl rfl (pa_cons (pe_call G_draw hr1 rfl D_draw.g D_draw.F.kp D_draw.b .nil pass0 (pa_cons (pv 0) (pa_cons pe_int pa_nil))) (pa_cons (pe_slice sl_str pe_str po_none (po_some (pe_op op_add pe_int (pe_call G_draw hr1 rfl D_draw.g D_draw.F.kp D_draw.b .nil pass0 (pa_cons (pv 0) (pa_cons pe_int pa_nil)))))) (pa_cons (pe_lst (pa_cons pe_int (pa_cons pe_int pa_nil))) pa_nil))) (by rfl))
      (pss_cons (ps_for PassesOwn.never rfl (pi_range1 rfl T.range (pa_cons (pv 1) pa_nil)) (pg_name (i := 4) sc_strings_right.nd rfl (Or.inl rfl))
        (pss_one (ps_expr (pe_bm PySem.F.plainAttrs_list PySem.F.slot_list_append PySem.F.type_list_append mt_append (pv 3) (pa_cons (pe_op op_add (pe_ix ix_list (pv 3) (pe_un un_neg pe_int) (fun _ _ => rfl)) (pe_ix ix_list (pv 3) (pe_un un_neg pe_int) (fun _ _ => rfl))) pa_nil)))))
      (pss_cons (ps_set (i := 5) sc_strings_right.nd rfl (Or.inl rfl) (pe_callTy call_tuple_of (by rfl) T.tuple (by decide +kernel) (pa_cons (pe_lc (own := [("_law_letter", 8)]) (g := (gName 8)) (tt := tYes) (te := tTup (tCons (tC (.int 0)) (tCons (tVar 8) (tCons (tC (.int 0)) tNil)))) rfl sc_strings_right.nd (pi_str (pv 2)) (blkOk_by (N := ["_law_deck_here", "_law_n", "_law_letters", "_law_many", "_law_k", "_law_moves", "_law_apart", "_law_found", "_law_letter"]) (sc := defScope s_strings_right) (by decide +kernel))
          (fun _ _ _ _ _ => (pg_name (i := 8) sc_strings_right.nd rfl (Or.inl rfl))) (fun _ _ _ _ _ => pts_nil) (fun _ _ _ _ _ => (pe_tup (pa_cons pe_int (pa_cons (pv 8) (pa_cons pe_int pa_nil)))))) pa_nil)))
      (pss_cons (ps_set (i := 6) sc_strings_right.nd rfl (Or.inl rfl) (pe_tup (pa_cons (pe_tup (pa_cons (pe_tup (pa_cons pe_int (pa_cons pe_str (pa_cons pe_int pa_nil)))) (pa_cons (pe_tup (pa_cons pe_int (pa_cons pe_str (pa_cons pe_int pa_nil)))) (pa_cons (pe_tup (pa_cons pe_int (pa_cons pe_str (pa_cons pe_int pa_nil)))) pa_nil)))) (pa_cons (pe_tup (pa_cons pe_int (pa_cons pe_int pa_nil))) pa_nil))))
      (pss_cons (ps_set (i := 7) sc_strings_right.nd rfl (Or.inl rfl) (pe_lst (pa_cons (pe_call G_size_of hr rfl D_size_of.g D_size_of.F.kp D_size_of.b .nil pass0 (pa_cons (pe_tup (pa_cons pe_str (pa_cons (pe_tup (pa_cons (pv 5) (pa_cons (pe_tup (pa_cons pe_int pa_nil)) pa_nil))) (pa_cons (pv 1) pa_nil)))) pa_nil)) (pa_cons (pe_call G_size_of hr rfl D_size_of.g D_size_of.F.kp D_size_of.b .nil pass0 (pa_cons (pe_tup (pa_cons pe_str (pa_cons (pv 6) (pa_cons (pv 1) pa_nil)))) pa_nil)) pa_nil))))
      (pss_one (ps_ret (pe_and (pe_cmpR (op_eqD hu) (pv 7) (pe_lst (pa_cons (pe_call G_power hr1 rfl D_power.g D_power.F.kp D_power.b .nil pass0 (pa_cons (pe_callB call_len_str (by rfl) T.len PySem.boot_len (pa_cons (pv 2) pa_nil)) (pa_cons (pv 1) pa_nil))) (pa_cons (pe_ix ix_list (pv 3) (pv 1) (fun _ _ => rfl)) pa_nil))) (nomark _)) (pe_one (pe_cmpR op_eq (pe_call G_size_of hr rfl D_size_of.g D_size_of.F.kp D_size_of.b .nil pass0 (pa_cons (pe_tup (pa_cons pe_str (pa_cons (pe_tup (pa_cons (pv 5) (pa_cons (pe_tup (pa_cons pe_int pa_nil)) pa_nil))) (pa_cons (pv 1) pa_nil)))) pa_nil)) pe_int (nomark _))))))))))), ?_⟩
    obtain ⟨ds0, m0, c0, D0, hc0⟩ := D
    refine ⟨_, rfl, p, q, ds0, m0, c0, 61, rfl, by decide, by decide, D0, by omega, fun x0 ds1 H1 x00 x01 O1 D1 => ?_⟩
    obtain ⟨n, rfl⟩ := nat_of x00
    have n6 : n ≤ 60 := by omega
    refine ⟨_, rfl, p, q, ds1, m0, c0 + 1, 6, rfl, by decide, by decide, D1, by omega, fun y0 ds2 H2 y00 y01 O2 D2 => ?_⟩
    obtain ⟨y, rfl⟩ := nat_of y00
    have hy : y < 6 := by omega
    refine ⟨_, _, rfl, rfl, _, rfl, "abcdef", rfl, by decide, ?_⟩
    have ec : cutS "abcdef" none (some ((fun i j : Int => i + j) 1 (y : Int))) = ltr (y + 1) := cut_ltr ⟨y, hy⟩
    have D2' : Dk H2 p q (b + 2) := ⟨_, _, _, D2, by omega⟩
    refine ⟨(by show 2 ≤ sizeLine; decide), fun r nr => ⟨_, _, _, rfl, ?_⟩⟩
    obtain ⟨rp, rq⟩ := D2'.new nr
    have Dr := D2'.same (same_new (o := HO.lst [.int 1, .int 2]) nr)
    have er : upd H2 r (.lst [.int 1, .int 2]) r = some (.lst ((fibL 2).map V.int)) := upd_same
    generalize upd H2 r (.lst [.int 1, .int 2]) = H3 at Dr er ⊢
    refine ⟨_, rfl, (n : Int), rfl, by omega, by omega, for_range (n := n) (fun i σ Hx => ∃ x4 : Option V, σ = [some (.ref p), some (.int (n : Nat)), some (.str (ltr (y + 1))), some (.ref r), x4, none, none, none, none] ∧ Dk Hx p q (b + 2) ∧ Hx r = some (.lst ((fibL (i + 2)).map V.int)))
      ⟨none, by rw [← ec]; rfl, Dr, er⟩ ?_ ?_⟩
    · rintro i σ Hx hi ⟨x4, rfl, Dx, hx⟩
      have lm : ((fibL (i + 2)).map V.int).length = i + 2 := by rw [List.length_map, fib_len]
      have a1 : atI ((fibL (i + 2)).map V.int) (-1) = some (.int ((fibN (i + 1) : Nat) : Int)) := atI_back 1 (by decide) (by omega) (by rw [lm, List.getElem?_map, show i + 2 - 1 = i + 1 by omega, fib_at (by omega)]; rfl)
      have a2 : atI ((fibL (i + 2)).map V.int) (-2) = some (.int ((fibN i : Nat) : Int)) := atI_back 2 (by decide) (by omega) (by rw [lm, List.getElem?_map, show i + 2 - 2 = i by omega, fib_at (by omega)]; rfl)
      have ev : ((fibN (i + 1) : Nat) : Int) + ((fibN i : Nat) : Int) = ((fibN (i + 2) : Nat) : Int) := by
        show _ = ((fibN (i + 1) + fibN i : Nat) : Int)
        rw [Int.natCast_add]
      refine ⟨_, rfl, .inl ⟨rfl, _, SqL.of hx⟩, _, rfl, 1, rfl, r, _, _, _, rfl, rfl, SqL.of hx, a1, _, rfl, 2, rfl, r, _, _, _, rfl, rfl, SqL.of hx, a2, _, _, rfl, rfl, r, _, _, rfl, rfl, hx, by rw [lm, sizeLine_eq]; omega, some (.int (0 + (i : Int))), rfl, dk_upd Dx rp rq, ?_⟩
      show upd Hx r (.lst ((fibL (i + 2)).map V.int ++ [.int (((fibN (i + 1) : Nat) : Int) + ((fibN i : Nat) : Int))])) r = _
      rw [ev, upd_same, fib_succ (i + 2), List.map_append]
      rfl
    · rintro σ H4 ⟨x4, rfl, D4, h4⟩
      refine ⟨_, rfl, ltr (y + 1), rfl, fun L nL => ?_⟩
      refine lc_str (z := ltr (y + 1)) (fun i Hx => ∃ ws : List V, Hx L = some (.lst ws) ∧ DatAll (noR L Hx) ws (mvs i) ∧ Same H4 Hx) ⟨[], upd_same, .nil, same_new nL⟩ ?_ ?_
      · rintro i c Hx hic ⟨ws, hL, dw, S⟩
        obtain ⟨im, rfl⟩ := ltr_at hic
        refine ⟨rfl, ?_⟩
        refine ⟨_, rfl, (by show 3 ≤ sizeLine; decide), fun t nt => ?_⟩
        have St := same_new (o := HO.tup [V.int 0, .str ⟨#[97 + i]⟩, .int 0]) nt
        have tL : t ≠ L := fun z => by
          rw [z, hL] at nt
          cases nt
        have lw := dw.len
        have lw' : ws.length = i := by
          rw [lw]
          unfold mvs
          rw [List.length_map, List.length_range]
        have LL := St _ _ hL
        refine ⟨ws, LL, by rw [lw', sizeLine_eq]; omega, ws ++ [.ref t], upd_same, ?_, fun z o e => ?_⟩
        · rw [noR_upd]
          have em : mvs (i + 1) = mvs i ++ [mvD i] := by
            unfold mvs
            rw [List.range_succ, List.map_append]
            rfl
          rw [em]
          have S' : Same (noR L Hx) (noR L (upd Hx t (.tup [V.int 0, .str ⟨#[97 + i]⟩, .int 0]))) := fun z o e => by
            have zl : z ≠ L := fun y => by
              rw [y] at e
              unfold noR at e
              rw [if_pos rfl] at e
              cases e
            have e' := St _ _ (noR_sub _ _ e)
            exact noR_at e' zl
          exact datAll_append (dw.same S') (.cons (.tup (noR_at upd_same tL) (.cons (.int 0) (.cons (.str _ (by show 1 ≤ 1000; decide)) (.cons (.int 0) .nil)))) .nil)
        · have zl : z ≠ L := fun y => by
            rw [y, nL] at e
            cases e
          rw [upd_ne zl]
          exact St _ _ (S _ _ e)
      · rintro H5 ⟨ws, hL, dw, S⟩
        have em : (ltr (y + 1)).cps.size = y + 1 := ltr_len (y + 1)
        rw [em] at dw
        refine ⟨L, ws, rfl, .inl ⟨SqL.of hL, fun t nt => ?_⟩⟩
        have St := same_new (o := HO.tup ws) nt
        have d5 : Dat (upd H5 t (.tup ws)) (.ref t) (.tuple (mvs (y + 1))) := .tup upd_same ((dw.same noR_sub).same St)
        have D6 := (D4.same S).same St
        have h6 := St _ _ (S _ _ h4)
        generalize upd H5 t (.tup ws) = H6 at d5 D6 h6 ⊢
        have E6 : EnvOk [(5, .tuple (mvs (y + 1))), (3, .list ((fibL (n + 2)).map PyData.int)), (2, .str (ltr (y + 1))), (1, .int ((n : Nat) : Int))] [some (.ref p), some (.int (n : Nat)), some (.str (ltr (y + 1))), some (.ref r), x4, some (.ref t), none, none, none] H6 := fun z hz => by
          rcases List.mem_cons.mp hz with rfl | hz
          · exact ⟨_, rfl, d5⟩
          rcases List.mem_cons.mp hz with rfl | hz
          · exact ⟨_, rfl, .lst h6 (ints_all _ _)⟩
          rcases List.mem_cons.mp hz with rfl | hz
          · exact ⟨_, rfl, .str _ (by rw [ltr_len]; omega)⟩
          rcases List.mem_cons.mp hz with rfl | hz
          · exact ⟨_, rfl, .int _⟩
          cases hz
        have p6 : (y + 1) ^ n < 2 ^ 4000 := Nat.lt_of_le_of_lt (Nat.pow_le_pow_left (show y + 1 ≤ 6 by omega) n) (Nat.lt_of_le_of_lt (Nat.pow_le_pow_right (by decide) n6) (by decide +kernel))
        refine sq_set (i := 6) (d := .tuple [.tuple apartM, .tuple [.int 0, .int 1]]) (mk_tup (mks_cons (mk_tup (mks_cons (mk_tup (mks_cons mk_int (mks_cons (mk_str (by decide)) (mks_cons mk_int mks_nil))) (by decide)) (mks_cons (mk_tup (mks_cons mk_int (mks_cons (mk_str (by decide)) (mks_cons mk_int mks_nil))) (by decide)) (mks_cons (mk_tup (mks_cons mk_int (mks_cons (mk_str (by decide)) (mks_cons mk_int mks_nil))) (by decide)) mks_nil))) (by decide)) (mks_cons (mk_tup (mks_cons mk_int (mks_cons mk_int mks_nil)) (by decide)) mks_nil)) (by decide)) E6 (by rfl) (Nat.le_of_ble_eq_true (by rfl)) fun v6 H7 S7 E7 => ?_
        refine sq_set (i := 7) (d := .list (([(((y + 1) ^ n : Nat) : Int), ((fibN n : Nat) : Int)] : List Int).map PyData.int)) (mk_lst (mks_cons (mk_sz (mk_tup (mks_cons (mk_str (by decide)) (mks_cons (mk_tup (mks_cons (mk_var (.tail _ (.head _))) (mks_cons (mk_tup (mks_cons mk_int mks_nil) (by show 1 ≤ 1000; decide)) mks_nil)) (by show 2 ≤ 1000; decide)) (mks_cons (mk_var (.tail _ (.tail _ (.tail _ (.tail _ (.head _)))))) mks_nil))) (by show 3 ≤ 1000; decide)) fun v H Q hd k => sz_str (auto_one ⟨y + 1, by omega⟩).1 n6 (one_size _ _) hd k)
          (mks_cons (mk_sz (mk_tup (mks_cons (mk_str (by decide)) (mks_cons (mk_var (.head _)) (mks_cons (mk_var (.tail _ (.tail _ (.tail _ (.tail _ (.head _)))))) mks_nil))) (by show 3 ≤ 1000; decide)) fun v H Q hd k => sz_str auto_apart n6 (apart_size _) hd k) mks_nil)) (by show 2 ≤ 1000; decide)) E7 (by rfl) (Nat.le_of_ble_eq_true (by rfl)) fun v7 H8 S8 E8 => ?_
        refine rt_mk (d := .bool true) (mk_andT (mk_eqL (ns := [(((y + 1) ^ n : Nat) : Int), ((fibN n : Nat) : Int)]) (mk_var (.head _)) (mk_lst (mks_cons (mk_pow (mk_lenS (m := y + 1) (mk_var (.tail _ (.tail _ (.tail _ (.tail _ (.head _)))))) (ltr_len _) (by omega)) (mk_var (.tail _ (.tail _ (.tail _ (.tail _ (.tail _ (.head _))))))) (by omega) (by omega) (Nat.lt_of_lt_of_le (show y + 1 < 2 ^ 10 by omega) (by decide)) p6) (mks_cons (mk_ixL (j := n) (mk_var (.tail _ (.tail _ (.tail _ (.head _))))) (mk_var (.tail _ (.tail _ (.tail _ (.tail _ (.tail _ (.head _))))))) (by rw [List.getElem?_map, fib_at (by omega)]; rfl)) mks_nil)) (by show 2 ≤ 1000; decide)))
          (mk_eq (mk_sz (n := 0) (mk_tup (mks_cons (mk_str (by decide)) (mks_cons (mk_tup (mks_cons (mk_var (.tail _ (.tail _ (.head _)))) (mks_cons (mk_tup (mks_cons mk_int mks_nil) (by show 1 ≤ 1000; decide)) mks_nil)) (by show 2 ≤ 1000; decide)) (mks_cons (mk_var (.tail _ (.tail _ (.tail _ (.tail _ (.tail _ (.head _))))))) mks_nil))) (by show 3 ≤ 1000; decide)) fun v H Q hd k => sz_str (auto_one ⟨y + 1, by omega⟩).2 n6 (no_size _ _) hd k) mk_int (decide_eq_true rfl))) E8 fun v H9 S9 d9 => ?_
        rw [dat_bl d9]
        exact k _ (((D6.mono (by omega)).same S7).same S8 |>.same S9)
end
end K6
set_option maxRecDepth 100000
set_option maxHeartbeats 8000000
namespace K6
open PySem PySem.Spec PyProof.Rows L2
/-! ### nested spaces -/
theorem sum_ones : ∀ k : Nat, (List.replicate k 1).sum = k
  | 0 => rfl
  | k + 1 => by
    rw [List.replicate_succ, List.sum_cons, sum_ones k, Nat.add_comm]
theorem prod_repl (c : Nat) : ∀ k : Nat, prodN (List.replicate k c) = c ^ k
  | 0 => rfl
  | k + 1 => by
    rw [List.replicate_succ, prodN, prod_repl c k, Nat.pow_succ, Nat.mul_comm]
section
variable {v : V} {H : Hp} {Q : VK} {E : XK}
theorem sz_nest {d : PyData} {ns : List Nat} {N : Nat} (hp : partB d = true) (hl : leafD d = false) (h : (nestedD d).map (msN 1) = (ns.map fun n => (1, n)).map some) (hw : (nestedD d).all (wfT 1) = true) (hL : jlN d (ns.map fun _ => 1) ≤ 2000) (hJ : jsN d ns = N) (hN : N < bigN)
    (hd : Dat H v d) (q : ∀ H', Same H H' → Q (.int ((N : Nat) : Int)) H') : spSzOf 2 [v] H Q E := by
  refine ⟨v, d, jlN d (ns.map fun _ => 1), N, rfl, hd, ?_, ?_, q⟩
  · show (partB d && (nestedD d).all (wfT 1)) = true
    rw [hp, hw]
    rfl
  · rw [msN, h, allS_map]
    have e1 : (ns.map fun n => (1, n)).map (fun x : Nat × Nat => x.1) = ns.map fun _ => 1 := by
      rw [List.map_map]
      rfl
    have e2 : (ns.map fun n => (1, n)).map (fun x : Nat × Nat => x.2) = ns := by
      rw [List.map_map]
      exact List.map_id _
    show (if (2000 < (if leafD d = true then 1 else jlN d ((ns.map fun n => (1, n)).map (fun x : Nat × Nat => x.1)))) ∨ bigN ≤ jsN d ((ns.map fun n => (1, n)).map (fun x : Nat × Nat => x.2)) then none else some ((if leafD d = true then 1 else jlN d ((ns.map fun n => (1, n)).map (fun x : Nat × Nat => x.1))), jsN d ((ns.map fun n => (1, n)).map (fun x : Nat × Nat => x.2)))) = _
    rw [e1, e2]
    have hl' : ¬ leafD d = true := by
      rw [hl]
      exact Bool.false_ne_true
    rw [if_neg hl']
    refine (if_neg ?_).trans (by rw [hJ])
    rw [hJ]
    omega
end
def treeL (n : Nat) : PyData := .tuple [.str "tree", .int ((n : Nat) : Int)]
def cycL (n : Nat) : PyData := .tuple [.str "cycle", .int ((n : Nat) : Int)]
theorem tree_ms {n : Nat} (h1 : 1 ≤ n) (hn : n ≤ 400) : wfT 1 (treeL n) = true ∧ msN 1 (treeL n) = some (1, n ^ (n - 2)) := by
  obtain ⟨a, b, _⟩ := leaf_ms (z := "tree") (m := 2) (ds := [.int ((n : Nat) : Int)]) (p := pTree) rfl (by decide +kernel) rfl (show btw 1 400 (.int (n : Int)) = true from btw_of (by omega) (by omega)) 0
  refine ⟨a, b.trans ?_⟩
  show some (1, (((((n : Nat) : Int)).toNat ^ ((((n : Nat) : Int)).toNat - 2) : Nat) : Int).toNat) = _
  rw [Int.toNat_natCast, Int.toNat_natCast]
theorem cyc_ms {n : Nat} (h1 : 1 ≤ n) (hn : n ≤ 400) : wfT 1 (cycL n) = true ∧ msN 1 (cycL n) = some (1, fac (n - 1)) := by
  obtain ⟨a, b, _⟩ := leaf_ms (z := "cycle") (m := 2) (ds := [.int ((n : Nat) : Int)]) (p := pCycle) rfl (by decide +kernel) rfl (show btw 1 400 (.int (n : Int)) = true from btw_of (by omega) (by omega)) 0
  refine ⟨a, b.trans ?_⟩
  show some (1, ((Builtin.Math.factorialNat (((n : Nat) : Int) - 1).toNat : Nat) : Int).toNat) = _
  rw [Int.toNat_natCast, show (((n : Nat) : Int) - 1).toNat = n - 1 by omega]
  rfl
theorem big_4000 : 2 ^ 4000 ≤ bigN := by decide +kernel
theorem words_two : ∀ o : Fin 10, chN (o.val + 2) o.val = (o.val + 2) * (o.val + 1) / 2 := by decide +kernel
section
variable {v : V} {H : Hp} {Q : VK} {E : XK} {a b t c : Nat}
theorem sz_pro (a1 : 1 ≤ a) (a4 : a ≤ 400) (b1 : 1 ≤ b) (b4 : b ≤ 400) (ht : a ^ (a - 2) = t) (hc : fac (b - 1) = c) (hN : t * c * t < 2 ^ 4000) (hd : Dat H v (.tuple [.str "product", .tuple [treeL a, cycL b, treeL a]])) (q : ∀ H', Same H H' → Q (.int ((t * c * t : Nat) : Int)) H') : spSzOf 2 [v] H Q E := by
  obtain ⟨w1, m1⟩ := tree_ms a1 a4
  obtain ⟨w2, m2⟩ := cyc_ms b1 b4
  rw [ht] at m1
  rw [hc] at m2
  refine sz_nest (ns := [t, c, t]) (by rfl) (by rfl) ?_ ?_ (by show 1 + (1 + (1 + 0)) ≤ 2000; decide) ?_ (Nat.lt_of_lt_of_le hN big_4000) hd q
  · show [msN 1 (treeL a), msN 1 (cycL b), msN 1 (treeL a)] = _
    rw [m1, m2]
    rfl
  · show (wfT 1 (treeL a) && (wfT 1 (cycL b) && (wfT 1 (treeL a) && true))) = true
    rw [w1, w2]
    rfl
  · show t * (c * (t * 1)) * 1 = t * c * t
    rw [Nat.mul_one, Nat.mul_one, Nat.mul_assoc]
theorem sz_cho (a1 : 1 ≤ a) (a4 : a ≤ 400) (b1 : 1 ≤ b) (b4 : b ≤ 400) (ht : a ^ (a - 2) = t) (hc : fac (b - 1) = c) (hN : t + c + t < 2 ^ 4000) (hd : Dat H v (.tuple [.str "choice", .tuple [treeL a, cycL b, treeL a]])) (q : ∀ H', Same H H' → Q (.int ((t + c + t : Nat) : Int)) H') : spSzOf 2 [v] H Q E := by
  obtain ⟨w1, m1⟩ := tree_ms a1 a4
  obtain ⟨w2, m2⟩ := cyc_ms b1 b4
  rw [ht] at m1
  rw [hc] at m2
  refine sz_nest (ns := [t, c, t]) (by rfl) (by rfl) ?_ ?_ (by show 1 + (1 + (1 + 0)) ≤ 2000; decide) ?_ (Nat.lt_of_lt_of_le hN big_4000) hd q
  · show [msN 1 (treeL a), msN 1 (cycL b), msN 1 (treeL a)] = _
    rw [m1, m2]
    rfl
  · show (wfT 1 (treeL a) && (wfT 1 (cycL b) && (wfT 1 (treeL a) && true))) = true
    rw [w1, w2]
    rfl
  · show t + (c + (t + 0)) = t + c + t
    omega
theorem sz_pow {k : Nat} (hk : k ≤ 400) (b1 : 1 ≤ b) (b4 : b ≤ 400) (hc : fac (b - 1) = c) (hN : c ^ k < 2 ^ 4000) (hd : Dat H v (.tuple [.str "power", .int ((k : Nat) : Int), cycL b])) (q : ∀ H', Same H H' → Q (.int ((c ^ k : Nat) : Int)) H') : spSzOf 2 [v] H Q E := by
  obtain ⟨w2, m2⟩ := cyc_ms b1 b4
  rw [hc] at m2
  refine sz_nest (ns := [c]) ?_ (by rfl) ?_ ?_ ?_ ?_ (Nat.lt_of_lt_of_le hN big_4000) hd q
  · show (decide (2 + 1 = 3) && btw 0 400 (.int (k : Int))) = true
    rw [btw_of (by omega) (by omega)]
    rfl
  · show [msN 1 (cycL b)] = _
    rw [m2]
    rfl
  · show (wfT 1 (cycL b) && true) = true
    rw [w2]
    rfl
  · show (List.replicate ((k : Nat) : Int).toNat 1 ++ []).sum ≤ 2000
    rw [List.append_nil, Int.toNat_natCast, sum_ones]
    omega
  · show prodN (List.replicate ((k : Nat) : Int).toNat c ++ []) * 1 = c ^ k
    rw [List.append_nil, Int.toNat_natCast, prod_repl, Nat.mul_one]
theorem sz_dec {o : Nat} (o1 : 1 ≤ o) (o9 : o ≤ 9) (a1 : 1 ≤ a) (a4 : a ≤ 400) (b1 : 1 ≤ b) (b4 : b ≤ 400) (ht : a ^ (a - 2) = t) (hc : fac (b - 1) = c) (hN : (o + 2) * (o + 1) / 2 * t ^ o * c * c < 2 ^ 4000)
    (hd : Dat H v (.tuple [.str "decorated", .tuple [.tuple [.str "x", .int ((o : Nat) : Int)], .tuple [.str "y", .int 2]], .tuple [treeL a, cycL b]])) (q : ∀ H', Same H H' → Q (.int (((o + 2) * (o + 1) / 2 * t ^ o * c * c : Nat) : Int)) H') : spSzOf 2 [v] H Q E := by
  obtain ⟨w1, m1⟩ := tree_ms a1 a4
  obtain ⟨w2, m2⟩ := cyc_ms b1 b4
  rw [ht] at m1
  rw [hc] at m2
  refine sz_nest (ns := [t, c]) ?_ (by rfl) ?_ ?_ ?_ ?_ (Nat.lt_of_lt_of_le hN big_4000) hd q
  · have ho : ∀ o : Fin 10, 1 ≤ o.val → partB (.tuple [.str "decorated", .tuple [.tuple [.str "x", .int ((o.val : Nat) : Int)], .tuple [.str "y", .int 2]], .tuple [.none, .none]]) = true := by decide +kernel
    exact ho ⟨o, by omega⟩ o1
  · show [msN 1 (treeL a), msN 1 (cycL b)] = _
    rw [m1, m2]
    rfl
  · show (wfT 1 (treeL a) && (wfT 1 (cycL b) && true)) = true
    rw [w1, w2]
    rfl
  · show (List.replicate ((o : Nat) : Int).toNat 1 ++ (List.replicate 2 1 ++ [])).sum ≤ 2000
    rw [List.sum_append, Int.toNat_natCast, sum_ones]
    show o + 2 ≤ 2000
    omega
  · show prodN (List.replicate ((o : Nat) : Int).toNat t ++ (List.replicate 2 c ++ [])) * (multN 0 1 [((o : Nat) : Int).toNat, 2]).toNat = _
    rw [Int.toNat_natCast, prodN_app, prod_repl, mult_two, words_two ⟨o, by omega⟩]
    show t ^ o * (c * (c * 1)) * ((o + 2) * (o + 1) / 2) = (o + 2) * (o + 1) / 2 * t ^ o * c * c
    rw [Nat.mul_one]
    generalize (o + 2) * (o + 1) / 2 = w
    ac_rfl
end
theorem ne_of {G : List (Nat × PyData)} {i : Nat} (h : G.all (fun p => p.1 != i) = true) : ∀ p ∈ G, p.1 ≠ i := fun p hp => bne_iff_ne.mp (List.all_eq_true.mp h p hp)
theorem ST.same {Hi : Hp} {G : List (Nat × PyData)} {i : Nat} {ds : List PyData} {σ : L2.St} {H : Hp} (S : ST Hi G i ds σ H) : Same Hi H := S.out.choose_spec.choose_spec.2.2.1
theorem ST.envL {Hi : Hp} {G : List (Nat × PyData)} {i : Nat} {ds : List PyData} {σ : L2.St} {H : Hp} (S : ST Hi G i ds σ H) : EnvOk ((i, .list ds) :: G) σ H := fun p hp => by
  rcases List.mem_cons.mp hp with rfl | hp
  · obtain ⟨L, zs, h1, h2, _, h4⟩ := S.out
    exact ⟨_, h1, .lst h2 h4⟩
  · exact S.env p hp
theorem sq_par3 {G : List (Nat × PyData)} {i j l : Nat} {d e : PyData} {σ : L2.St} {H : Hp} {t u : TE} {w : TA} {D : Ends} {R : TS} (M1 : Mk G t d) (M2 : Mk G u e) (E : EnvOk G σ H)
    (k : ∀ (v1 v2 : V) (H' : Hp), Same H H' → Dat H' v1 d → Dat H' v2 e → w σ H' fun vs H1 => ∃ x y z, v1 :: v2 :: vs = [x, y, z] ∧ R D (((σ.set i (some x)).set j (some y)).set l (some z)) H1) : tSeq (tPar3 i j l (tCons t (tCons u w))) R D σ H :=
  M1 σ H _ E fun v1 H1 S1 d1 => M2 σ H1 _ (E.same S1) fun v2 H2 S2 d2 => k v1 v2 H2 (S1.trans S2) (d1.same S2) d2
theorem pow_lt2 {x m e : Nat} (h : x < 2 ^ m) (he : 1 ≤ e ∨ 0 < m) : x ^ e ≤ 2 ^ (m * e) := by
  rw [Nat.pow_mul]
  exact Nat.pow_le_pow_left (Nat.le_of_lt h) e
abbrev s_nested_right : Stmt := top 45
section
variable {P : Program} {w : World} {K : PySem.W.Frag} {mg : Str → Option Value} {base : Heap}
theorem sc_nested_right : FnScope ["_law_deck_here", "_law_one", "_law_other", "_law_times", "_law_trees", "_law_cycles", "_law_often", "_law_found", "_law_words", "_law_due"] ["_law_deck_here"] (defScope s_nested_right) := ⟨rfl, rfl, rfl, by decide +kernel, rfl, by decide +kernel, by decide +kernel⟩
theorem okl_nested_right {f fD fZ fF fW : Addr} {fd fdD fdZ fdF fdW : FuncData} (F : Fun K "_law_nested_right" "_law_nested_right" s_nested_right f fd) (T : Nm mg)  (D_draw : DefOk K mg "_law_draw" sDraw ["_law_deck_here", "_law_bound"] fD fdD) (D_size_of : DefOk K mg "size_of" sSizeOf ["space"] fZ fdZ) (D_factorial : DefOk K mg "_law_factorial" s_factorial ["_law_n"] fF fdF) (D_power : DefOk K mg "_law_power" s_power ["_law_base", "_law_exponent"] fW fdW) (G_size_of : FnOk P w K mg base CX0 13 fZ fdZ ["space"] (spSzOf 2)) : FnOk P w K mg base CX0 14 f fd ["_law_deck_here"] spR := by
  have G_draw : FnOk P w K mg base CX0 1 fD fdD ["_law_deck_here", "_law_bound"] spDraw := ok_draw D_draw.F
  have G_factorial : FnOk P w K mg base CX0 1 fF fdF ["_law_n"] spFact := okl_factorial D_factorial.F T
  have G_power : FnOk P w K mg base CX0 1 fW fdW ["_law_base", "_law_exponent"] spPow := okl_power D_power.F T
  refine F.ok sc_nested_right (fun vs H Q E h => ?_) (fun cdv A outer s H vs Q E hr h => ?_)
  · obtain ⟨p, q, b, rfl, _⟩ := h
    rfl
  · obtain ⟨p, q, b, rfl, D, hb, k⟩ := h
    have hu0 := hr.units0
    have hu : (A.deeper (envOfC "_law_nested_right" (defScope s_nested_right) s.heap.objs.size f cdv)).units + 64 < cLine := by
      have := hr.un
      omega
    have hr1 : Room 1 _ := hr.mono (by decide)
    have hr2 : Room 2 _ := hr.mono (by decide)
    have hr5 : Room 5 _ := hr.mono (by decide)
    refine ⟨_, (pss_cons (ps_par3 (i := 1) (j := 2) (l := 3) rfl sc_nested_right.nd rfl rfl rfl (by decide) (by decide) (by decide) rfl rfl rfl (pa_cons (pe_tup (pa_cons pe_str (pa_cons (pe_op op_add pe_int (pe_call G_draw hr1 rfl D_draw.g D_draw.F.kp D_draw.b .nil pass0 (pa_cons (pv 0) (pa_cons pe_int pa_nil)))) pa_nil))) (pa_cons (pe_tup (pa_cons pe_str (pa_cons (pe_op op_add pe_int (pe_call G_draw hr1 rfl D_draw.g D_draw.F.kp D_draw.b .nil pass0 (pa_cons (pv 0) (pa_cons pe_int pa_nil)))) pa_nil))) (pa_cons (pe_call G_draw hr1 rfl D_draw.g D_draw.F.kp D_draw.b .nil pass0 (pa_cons (pv 0) (pa_cons pe_int pa_nil))) pa_nil))) (by rfl))
      (pss_cons (ps_par3 (i := 4) (j := 5) (l := 6) rfl sc_nested_right.nd rfl rfl rfl (by decide) (by decide) (by decide) rfl rfl rfl (pa_cons (pe_call G_power hr1 rfl D_power.g D_power.F.kp D_power.b .nil pass0 (pa_cons (pe_ix ix_tup (pv 1) pe_int (fun _ _ => rfl)) (pa_cons (pe_op op_sub (pe_ix ix_tup (pv 1) pe_int (fun _ _ => rfl)) pe_int) pa_nil))) (pa_cons (pe_call G_factorial hr1 rfl D_factorial.g D_factorial.F.kp D_factorial.b .nil pass0 (pa_cons (pe_op op_sub (pe_ix ix_tup (pv 2) pe_int (fun _ _ => rfl)) pe_int) pa_nil)) (pa_cons (pe_op op_add pe_int (pe_call G_draw hr1 rfl D_draw.g D_draw.F.kp D_draw.b .nil pass0 (pa_cons (pv 0) (pa_cons pe_int pa_nil)))) pa_nil))) (by rfl))
      (pss_cons (ps_set (i := 7) sc_nested_right.nd rfl (Or.inl rfl) (pe_lst (pa_cons (pe_call G_size_of hr rfl D_size_of.g D_size_of.F.kp D_size_of.b .nil pass0 (pa_cons (pe_tup (pa_cons pe_str (pa_cons (pe_tup (pa_cons (pv 1) (pa_cons (pv 2) (pa_cons (pv 1) pa_nil)))) pa_nil))) pa_nil)) (pa_cons (pe_call G_size_of hr rfl D_size_of.g D_size_of.F.kp D_size_of.b .nil pass0 (pa_cons (pe_tup (pa_cons pe_str (pa_cons (pe_tup (pa_cons (pv 1) (pa_cons (pv 2) (pa_cons (pv 1) pa_nil)))) pa_nil))) pa_nil)) pa_nil))))
      (pss_cons (ps_set (i := 7) sc_nested_right.nd rfl (Or.inl rfl) (pe_op op_cat (pv 7) (pe_lst (pa_cons (pe_call G_size_of hr rfl D_size_of.g D_size_of.F.kp D_size_of.b .nil pass0 (pa_cons (pe_tup (pa_cons pe_str (pa_cons (pv 3) (pa_cons (pv 2) pa_nil)))) pa_nil)) pa_nil))))
      (pss_cons (ps_expr (pe_bm PySem.F.plainAttrs_list PySem.F.slot_list_append PySem.F.type_list_append mt_append (pv 7) (pa_cons (pe_call G_size_of hr rfl D_size_of.g D_size_of.F.kp D_size_of.b .nil pass0 (pa_cons (pe_tup (pa_cons pe_str (pa_cons (pe_tup (pa_cons (pe_tup (pa_cons pe_str (pa_cons (pv 6) pa_nil))) (pa_cons (pe_tup (pa_cons pe_str (pa_cons pe_int pa_nil))) pa_nil))) (pa_cons (pe_tup (pa_cons (pv 1) (pa_cons (pv 2) pa_nil))) pa_nil)))) pa_nil)) pa_nil)))
      (pss_cons (ps_set (i := 8) sc_nested_right.nd rfl (Or.inl rfl) (pe_op op_fdivN (pe_op op_mulW (pe_op op_add (pv 6) pe_int) (pe_op op_add (pv 6) pe_int)) pe_int))
      (pss_cons (ps_set (i := 9) sc_nested_right.nd rfl (Or.inl rfl) (pe_lst (pa_cons (pe_op op_mulW (pe_op op_mulW (pv 4) (pv 5)) (pv 4)) (pa_cons (pe_op op_add (pe_op op_add (pv 4) (pv 5)) (pv 4)) (pa_cons (pe_call G_power hr1 rfl D_power.g D_power.F.kp D_power.b .nil pass0 (pa_cons (pv 5) (pa_cons (pv 3) pa_nil))) pa_nil)))))
      (pss_one (ps_ret (pe_cmpR (op_eqD hu) (pv 7) (pe_op op_cat (pv 9) (pe_lst (pa_cons (pe_op op_mulW (pe_op op_mulW (pe_op op_mulW (pv 8) (pe_call G_power hr1 rfl D_power.g D_power.F.kp D_power.b .nil pass0 (pa_cons (pv 4) (pa_cons (pv 6) pa_nil)))) (pv 5)) (pv 5)) pa_nil))) (nomark _))))))))))), ?_⟩
    obtain ⟨ds0, m0, c0, D0, hc0⟩ := D
    refine ⟨_, rfl, p, q, ds0, m0, c0, 30, rfl, by decide, by decide, D0, by omega, fun x0 ds1 H1 x00 x01 O1 D1 => ?_⟩
    obtain ⟨x, rfl⟩ := nat_of x00
    refine ⟨_, _, rfl, rfl, (by show 2 ≤ sizeLine; decide), fun a1 n1 => ?_⟩
    have ex : (2 : Int) + (x : Int) = ((2 + x : Nat) : Int) := by omega
    have K1 : Dk H1 p q (b + 1) := ⟨_, _, _, D1, by omega⟩
    obtain ⟨a1p, a1q⟩ := K1.new n1
    have K1' := K1.same (same_new (o := HO.tup [V.str "tree", .int ((2 : Int) + (x : Int))]) n1)
    have e1 : upd H1 a1 (.tup [V.str "tree", .int ((2 : Int) + (x : Int))]) a1 = some (.tup [.str "tree", .int ((2 : Int) + (x : Int))]) := upd_same
    refine ⟨_, rfl, ?_⟩
    obtain ⟨ds2, m2, c2, D2, hc2⟩ := K1'
    refine ⟨p, q, ds2, m2, c2, 30, rfl, by decide, by decide, D2, by omega, fun y0 ds3 H3 y00 y01 O3 D3 => ?_⟩
    obtain ⟨y, rfl⟩ := nat_of y00
    have f1 := O3 _ _ e1 a1p a1q
    refine ⟨_, _, rfl, rfl, (by show 2 ≤ sizeLine; decide), fun a2 n2 => ?_⟩
    have ey : (1 : Int) + (y : Int) = ((1 + y : Nat) : Int) := by omega
    have K3 : Dk H3 p q (b + 2) := ⟨_, _, _, D3, by omega⟩
    obtain ⟨a2p, a2q⟩ := K3.new n2
    have S4 := same_new (o := HO.tup [V.str "cycle", .int ((1 : Int) + (y : Int))]) n2
    have K3' := K3.same S4
    have e2 : upd H3 a2 (.tup [V.str "cycle", .int ((1 : Int) + (y : Int))]) a2 = some (.tup [.str "cycle", .int ((1 : Int) + (y : Int))]) := upd_same
    have f1 := S4 _ _ f1
    refine ⟨_, rfl, ?_⟩
    obtain ⟨ds4, m4, c4, D4, hc4⟩ := K3'
    refine ⟨p, q, ds4, m4, c4, 30, rfl, by decide, by decide, D4, by omega, fun z0 ds5 H5 z00 z01 O5 D5 => ?_⟩
    obtain ⟨z, rfl⟩ := nat_of z00
    have f1 := O5 _ _ f1 a1p a1q
    have f2 := O5 _ _ e2 a2p a2q
    refine ⟨_, _, _, rfl, ?_⟩
    have K5 : Dk H5 p q (b + 3) := ⟨_, _, _, D5, by omega⟩
    generalize hA : 2 + x = a at ex
    generalize hB : 1 + y = bb at ey
    have a2' : 2 ≤ a := by omega
    have a31 : a ≤ 31 := by omega
    have b1 : 1 ≤ bb := by omega
    have b30 : bb ≤ 30 := by omega
    have z29 : z ≤ 29 := by omega
    rw [ex] at f1
    rw [ey] at f2
    have dA : Dat H5 (.ref a1) (treeL a) := .tup f1 (.cons (.str _ (by decide)) (.cons (.int _) .nil))
    have dB : Dat H5 (.ref a2) (cycL bb) := .tup f2 (.cons (.str _ (by decide)) (.cons (.int _) .nil))
    generalize ht : a ^ (a - 2) = t
    generalize hc : fac (bb - 1) = c
    have tl : t < 2 ^ 150 := by
      rw [← ht]
      exact Nat.lt_of_le_of_lt (Nat.pow_le_pow_left a31 _) (Nat.lt_of_le_of_lt (Nat.pow_le_pow_right (by decide) (show a - 2 ≤ 29 by omega)) (by decide +kernel))
    have t1 : 1 ≤ t := by
      rw [← ht]
      exact Nat.pos_of_ne_zero fun w => by
        have := (Nat.pow_eq_zero.mp w).1
        omega
    have cl : c < 2 ^ 110 := by
      rw [← hc]
      exact Nat.lt_of_le_of_lt (fac_mono (show bb - 1 ≤ 29 by omega)) (by decide +kernel)
    have c1 : 1 ≤ c := by
      rw [← hc]
      exact fac_pos _
    have E5 : EnvOk [(3, .int ((z : Nat) : Int)), (2, cycL bb), (1, treeL a)] [some (.ref p), some (.ref a1), some (.ref a2), some (.int (z : Nat)), none, none, none, none, none, none] H5 := fun w hw => by
      rcases List.mem_cons.mp hw with rfl | hw
      · exact ⟨_, rfl, .int _⟩
      rcases List.mem_cons.mp hw with rfl | hw
      · exact ⟨_, rfl, dB⟩
      rcases List.mem_cons.mp hw with rfl | hw
      · exact ⟨_, rfl, dA⟩
      cases hw
    have V1 : ∀ {G : List (Nat × PyData)}, (1, treeL a) ∈ G → Mk G (tOp (rIxT K) (tVar 1) (tC (.int 1))) (.int ((a : Nat) : Int)) := fun h => mk_ixT (j := 1) (ds := [.str "tree", .int ((a : Nat) : Int)]) (mk_var h) rfl rfl
    have V2 : ∀ {G : List (Nat × PyData)}, (2, cycL bb) ∈ G → Mk G (tOp (rIxT K) (tVar 2) (tC (.int 1))) (.int ((bb : Nat) : Int)) := fun h => mk_ixT (j := 1) (ds := [.str "cycle", .int ((bb : Nat) : Int)]) (mk_var h) rfl rfl
    have MT : Mk [(3, .int ((z : Nat) : Int)), (2, cycL bb), (1, treeL a)] (tCall spPow [] E0 (tCons (tOp (rIxT K) (tVar 1) (tC (.int 1))) (tCons (tOp (rI0 fun i j => .int (i - j)) (tOp (rIxT K) (tVar 1) (tC (.int 1))) (tC (.int 2))) tNil))) (.int ((t : Nat) : Int)) := by
      rw [← ht]
      exact mk_pow (V1 (.tail _ (.tail _ (.head _)))) (mk_subN (V1 (.tail _ (.tail _ (.head _)))) (mk_nat (y := 2) rfl) (by omega)) (by omega) (by omega) (Nat.lt_of_lt_of_le (show a < 2 ^ 10 by omega) (by decide)) (by rw [ht]; exact Nat.lt_of_lt_of_le tl (Nat.pow_le_pow_right (by decide) (by decide)))
    have MC : Mk [(3, .int ((z : Nat) : Int)), (2, cycL bb), (1, treeL a)] (tCall spFact [] E0 (tCons (tOp (rI0 fun i j => .int (i - j)) (tOp (rIxT K) (tVar 2) (tC (.int 1))) (tC (.int 1))) tNil)) (.int ((c : Nat) : Int)) := by
      rw [← hc]
      exact mk_fact (mk_subN (V2 (.tail _ (.head _))) (mk_nat (y := 1) rfl) (by omega)) (by omega)
    refine sq_par3 MT MC E5 fun v4 v5 H6 S6 d4 d5 => ?_
    rw [dat_isInt d4, dat_isInt d5]
    obtain ⟨ds6, m6, c6, D6, hc6⟩ := K5.same S6
    refine ⟨_, rfl, p, q, ds6, m6, c6, 9, rfl, by decide, by decide, D6, by omega, fun w0 ds7 H7 w00 w01 O7 D7 => ?_⟩
    obtain ⟨w', rfl⟩ := nat_of w00
    refine ⟨_, _, rfl, rfl, _, _, _, rfl, ?_⟩
    have K7 : Dk H7 p q (b + 100) := ⟨_, _, _, D7, by omega⟩
    have eo : (1 : Int) + (w' : Int) = ((1 + w' : Nat) : Int) := by omega
    generalize hO : 1 + w' = o at eo
    have o1 : 1 ≤ o := by omega
    have o9 : o ≤ 9 := by omega
    have g1 := O7 _ _ (S6 _ _ f1) a1p a1q
    have g2 := O7 _ _ (S6 _ _ f2) a2p a2q
    have E7 : EnvOk [(6, .int ((o : Nat) : Int)), (5, .int ((c : Nat) : Int)), (4, .int ((t : Nat) : Int)), (3, .int ((z : Nat) : Int)), (2, cycL bb), (1, treeL a)] [some (.ref p), some (.ref a1), some (.ref a2), some (.int (z : Nat)), some (.int ((t : Nat) : Int)), some (.int ((c : Nat) : Int)), some (.int ((1 : Int) + (w' : Int))), none, none, none] H7 := fun w hw => by
      rcases List.mem_cons.mp hw with rfl | hw
      · exact ⟨_, rfl, dat_int' eo⟩
      rcases List.mem_cons.mp hw with rfl | hw
      · exact ⟨_, rfl, .int _⟩
      rcases List.mem_cons.mp hw with rfl | hw
      · exact ⟨_, rfl, .int _⟩
      rcases List.mem_cons.mp hw with rfl | hw
      · exact ⟨_, rfl, .int _⟩
      rcases List.mem_cons.mp hw with rfl | hw
      · exact ⟨_, rfl, .tup g2 (.cons (.str _ (by decide)) (.cons (.int _) .nil))⟩
      rcases List.mem_cons.mp hw with rfl | hw
      · exact ⟨_, rfl, .tup g1 (.cons (.str _ (by decide)) (.cons (.int _) .nil))⟩
      cases hw
    -- bounds
    have ce : c ^ z < 2 ^ 4000 := Nat.lt_of_le_of_lt (pow_lt2 cl (.inr (by decide))) (Nat.pow_lt_pow_right (by decide) (by omega))
    have te : t ^ o < 2 ^ 1351 := Nat.lt_of_le_of_lt (pow_lt2 tl (.inr (by decide))) (Nat.pow_lt_pow_right (by decide) (by omega))
    have tc : t * c < 2 ^ 260 := by
      rw [show (260 : Nat) = 150 + 110 from rfl, Nat.pow_add]
      exact Nat.mul_lt_mul'' tl cl
    have tct : t * c * t < 2 ^ 410 := by
      rw [show (410 : Nat) = 260 + 150 from rfl, Nat.pow_add]
      exact Nat.mul_lt_mul'' tc tl
    have wl : (o + 2) * (o + 1) / 2 < 2 ^ 10 := by
      have : (o + 2) * (o + 1) ≤ 11 * 10 := Nat.mul_le_mul (by omega) (by omega)
      omega
    have wt : (o + 2) * (o + 1) / 2 * t ^ o < 2 ^ 1361 := by
      rw [show (1361 : Nat) = 10 + 1351 from rfl, Nat.pow_add]
      exact Nat.mul_lt_mul'' wl te
    have wtc : (o + 2) * (o + 1) / 2 * t ^ o * c < 2 ^ 1471 := by
      rw [show (1471 : Nat) = 1361 + 110 from rfl, Nat.pow_add]
      exact Nat.mul_lt_mul'' wt cl
    have wtcc : (o + 2) * (o + 1) / 2 * t ^ o * c * c < 2 ^ 1581 := by
      rw [show (1581 : Nat) = 1471 + 110 from rfl, Nat.pow_add]
      exact Nat.mul_lt_mul'' wtc cl
    have up : ∀ {x m : Nat}, x < 2 ^ m → m ≤ 4000 → x < 2 ^ 4000 := fun h hm => Nat.lt_of_lt_of_le h (Nat.pow_le_pow_right (by decide) hm)
    have hsum : t + c + t < 2 ^ 4000 := by
      have z1 : t + c + t < 2 ^ 152 := by omega
      exact up z1 (by decide)
    refine sq_new (ds := [.int ((t * c * t : Nat) : Int), .int ((t + c + t : Nat) : Int)]) E7 (Same.refl _) (mks_cons (mk_sz (mk_tup (mks_cons (mk_str (by decide)) (mks_cons (mk_tup (mks_cons (mk_var (i := 1) (.tail _ (.tail _ (.tail _ (.tail _ (.tail _ (.head _))))))) (mks_cons (mk_var (i := 2) (.tail _ (.tail _ (.tail _ (.tail _ (.head _)))))) (mks_cons (mk_var (i := 1) (.tail _ (.tail _ (.tail _ (.tail _ (.tail _ (.head _))))))) mks_nil))) (by show 3 ≤ 1000; decide)) mks_nil)) (by show 2 ≤ 1000; decide)) fun v H Q hd k => sz_pro (by omega) (by omega) b1 (by omega) ht hc (up tct (by decide)) hd k)
      (mks_cons (mk_sz (mk_tup (mks_cons (mk_str (by decide)) (mks_cons (mk_tup (mks_cons (mk_var (i := 1) (.tail _ (.tail _ (.tail _ (.tail _ (.tail _ (.head _))))))) (mks_cons (mk_var (i := 2) (.tail _ (.tail _ (.tail _ (.tail _ (.head _)))))) (mks_cons (mk_var (i := 1) (.tail _ (.tail _ (.tail _ (.tail _ (.tail _ (.head _))))))) mks_nil))) (by show 3 ≤ 1000; decide)) mks_nil)) (by show 2 ≤ 1000; decide)) fun v H Q hd k => sz_cho (by omega) (by omega) b1 (by omega) ht hc hsum hd k) mks_nil)) (by show 2 ≤ 1000; decide) (ne_of (by rfl)) (Nat.le_of_ble_eq_true (by rfl)) fun p7 H8 S8 => ?_
    refine sq_cat S8 (mks_cons (mk_sz (mk_tup (mks_cons (mk_str (by decide)) (mks_cons (mk_var (i := 3) (.tail _ (.tail _ (.tail _ (.head _))))) (mks_cons (mk_var (i := 2) (.tail _ (.tail _ (.tail _ (.tail _ (.head _)))))) mks_nil))) (by show 3 ≤ 1000; decide)) fun v H Q hd k => sz_pow (by omega) b1 (by omega) hc ce hd k) mks_nil) (by show 2 + 1 ≤ 1000; decide) (ne_of (by rfl)) fun p8 H9 S9 => ?_
    refine sq_app S9 (mk_sz (mk_tup (mks_cons (mk_str (by decide)) (mks_cons (mk_tup (mks_cons (mk_tup (mks_cons (mk_str (by decide)) (mks_cons (mk_var (i := 6) (.head _)) mks_nil)) (by show 2 ≤ 1000; decide)) (mks_cons (mk_tup (mks_cons (mk_str (by decide)) (mks_cons mk_int mks_nil)) (by show 2 ≤ 1000; decide)) mks_nil)) (by show 2 ≤ 1000; decide)) (mks_cons (mk_tup (mks_cons (mk_var (i := 1) (.tail _ (.tail _ (.tail _ (.tail _ (.tail _ (.head _))))))) (mks_cons (mk_var (i := 2) (.tail _ (.tail _ (.tail _ (.tail _ (.head _)))))) mks_nil)) (by show 2 ≤ 1000; decide)) mks_nil))) (by show 3 ≤ 1000; decide)) fun v H Q hd k => sz_dec o1 o9 (by omega) (by omega) b1 (by omega) ht hc (up wtcc (by decide)) hd k) (by rfl) (by show 3 ≤ 1000; decide) fun HA SA => ?_
    have KA : Dk HA p q (b + 100) := K7.same SA.same
    have EA : EnvOk ((7, .list (([((t * c * t : Nat) : Int), ((t + c + t : Nat) : Int), ((c ^ z : Nat) : Int), (((o + 2) * (o + 1) / 2 * t ^ o * c * c : Nat) : Int)] : List Int).map PyData.int)) :: [(6, .int ((o : Nat) : Int)), (5, .int ((c : Nat) : Int)), (4, .int ((t : Nat) : Int)), (3, .int ((z : Nat) : Int)), (2, cycL bb), (1, treeL a)]) _ HA := SA.envL
    refine sq_set (i := 8) (d := .int (((o + 2) * (o + 1) / 2 : Nat) : Int)) (mk_op (mk_mulN (mk_addN (mk_var (i := 6) (.tail _ (.head _))) (mk_nat (y := 2) rfl) rfl) (mk_addN (mk_var (i := 6) (.tail _ (.head _))) (mk_nat (y := 1) rfl) rfl) (lt_big (y := 0) (a := 10) (by omega) (by decide)) (lt_big (y := 0) (a := 10) (by omega) (by decide)) rfl) (mk_nat (y := 2) rfl) ⟨by decide, by decide⟩ (by rw [Int.ofNat_fdiv])) EA (by rfl) (Nat.le_of_ble_eq_true (by rfl)) fun v8 HB SB EB => ?_
    have u14 : ∀ {x m : Nat}, x < 2 ^ m → m ≤ 14000 → x < 2 ^ 14000 := fun h hm => Nat.lt_of_lt_of_le h (Nat.pow_le_pow_right (by decide) hm)
    refine sq_set (i := 9) (d := .list (([((t * c * t : Nat) : Int), ((t + c + t : Nat) : Int), ((c ^ z : Nat) : Int)] : List Int).map PyData.int)) (mk_lst (mks_cons (mk_mulN (mk_mulN (mk_var (i := 4) (.tail _ (.tail _ (.tail _ (.tail _ (.head _)))))) (mk_var (i := 5) (.tail _ (.tail _ (.tail _ (.head _))))) (u14 tl (by decide)) (u14 cl (by decide)) rfl) (mk_var (i := 4) (.tail _ (.tail _ (.tail _ (.tail _ (.head _)))))) (u14 tc (by decide)) (u14 tl (by decide)) rfl) (mks_cons (mk_addN (mk_addN (mk_var (i := 4) (.tail _ (.tail _ (.tail _ (.tail _ (.head _)))))) (mk_var (i := 5) (.tail _ (.tail _ (.tail _ (.head _))))) rfl) (mk_var (i := 4) (.tail _ (.tail _ (.tail _ (.tail _ (.head _)))))) rfl) (mks_cons (mk_pow (mk_var (i := 5) (.tail _ (.tail _ (.tail _ (.head _))))) (mk_var (i := 3) (.tail _ (.tail _ (.tail _ (.tail _ (.tail _ (.head _))))))) c1 (by omega) (Nat.lt_of_lt_of_le cl (Nat.pow_le_pow_right (by decide) (by decide))) ce) mks_nil))) (by show 3 ≤ 1000; decide)) EB (by rfl) (Nat.le_of_ble_eq_true (by rfl)) fun v9 HC SC EC => ?_
    refine rt_mk (d := .bool true) (mk_eqL (ns := [((t * c * t : Nat) : Int), ((t + c + t : Nat) : Int), ((c ^ z : Nat) : Int), (((o + 2) * (o + 1) / 2 * t ^ o * c * c : Nat) : Int)]) (mk_var (.tail _ (.tail _ (.head _)))) (mk_catL (l1 := ([((t * c * t : Nat) : Int), ((t + c + t : Nat) : Int), ((c ^ z : Nat) : Int)] : List Int).map PyData.int) (l2 := [.int (((o + 2) * (o + 1) / 2 * t ^ o * c * c : Nat) : Int)]) (mk_var (.head _)) (mk_lst (mks_cons (mk_mulN (mk_mulN (mk_mulN (mk_var (.tail _ (.head _))) (mk_pow (mk_var (i := 4) (.tail _ (.tail _ (.tail _ (.tail _ (.tail _ (.head _))))))) (mk_var (i := 6) (.tail _ (.tail _ (.tail _ (.head _))))) t1 (by omega) (Nat.lt_of_lt_of_le tl (Nat.pow_le_pow_right (by decide) (by decide))) (up te (by decide))) (u14 wl (by decide)) (u14 te (by decide)) rfl) (mk_var (i := 5) (.tail _ (.tail _ (.tail _ (.tail _ (.head _)))))) (u14 wt (by decide)) (u14 cl (by decide)) rfl) (mk_var (i := 5) (.tail _ (.tail _ (.tail _ (.tail _ (.head _)))))) (u14 wtc (by decide)) (u14 cl (by decide)) rfl) mks_nil) (by show 1 ≤ 1000; decide)) (by show 3 + 1 ≤ 1000; decide))) EC fun v HD SD dD => ?_
    rw [dat_bl dD]
    exact k _ (((KA.same SB).same SC).same SD)
end
end K6
set_option maxRecDepth 100000
set_option maxHeartbeats 8000000
namespace K6
open PySem PySem.Spec PyProof.Rows L2
/-! ### words -/
def sLt (a b : Str) : Bool := decide (a.cps.toList < b.cps.toList)
def ascF : PyData → List PyData → Bool
  | _, [] => true
  | b, e :: r => PySem.W.dataLt b e && ascF e r
theorem ascB_cons (e : PyData) : ∀ r : List PyData, ascB (e :: r) = ascF e r
  | [] => rfl
  | x :: r => by
    have z := ascB_cons x r
    have e1 : ascB (e :: x :: r) = (PySem.W.dataLt e x && ascB (x :: r)) := by
      unfold ascB
      show (List.range (r.length + 1)).all _ = (_ && (List.range r.length).all _)
      rw [List.range_succ_eq_map, List.all_cons, List.all_map]
      rfl
    rw [e1, z]
    rfl
def cntD (c : Str × Nat) : PyData := .tuple [.str c.1, .int (c.2 : Nat)]
theorem asc_strF : ∀ (l : List Str) (a : Str), (a :: l).Pairwise (fun a b => sLt a b = true) → ascF (.str a) (l.map PyData.str) = true
  | [], _, _ => rfl
  | x :: l, a, h => by
    rw [List.pairwise_cons] at h
    have z := asc_strF l x h.2
    have y : PySem.W.dataLt (.str a) (.str x) = true := by
      rw [PySem.W.dataLt_str]
      exact h.1 x (by simp)
    rw [List.map_cons, ascF, y, z]
    rfl
theorem asc_str {l : List Str} (h : l.Pairwise (fun a b => sLt a b = true)) : ascB (l.map PyData.str) = true := by
  cases l with
  | nil => rfl
  | cons a l =>
    rw [List.map_cons, ascB_cons]
    exact asc_strF l a h
theorem cnt_ok {c : Str × Nat} (h1 : nameB (.str c.1) = true) (h2 : 1 ≤ c.2) (h3 : c.2 ≤ 400) : countB (cntD c) = true := by
  have e1 : tupOf 2 2 (cntD c) = true := rfl
  have e2 : btw 1 400 (.int (c.2 : Nat)) = true := by
    show (decide ((1 : Int) ≤ (c.2 : Nat)) && decide (((c.2 : Nat) : Int) ≤ 400)) = true
    rw [decide_eq_true (by omega), decide_eq_true (by omega)]
    rfl
  unfold countB
  rw [e1]
  show (true && (nameB (.str c.1) && btw 1 400 (.int (c.2 : Nat)))) = true
  rw [h1, e2]
  rfl
theorem cnts_sum : ∀ L : List (Str × Nat), ((L.map cntD).map countOf).sum = ((L.map (·.2)).sum : Nat)
  | [] => rfl
  | c :: L => by
    rw [List.map_cons, List.map_cons, List.sum_cons, cnts_sum L, List.map_cons, List.sum_cons]
    show ((c.2 : Nat) : Int) + _ = _
    omega
theorem cnts_ok {L : List (Str × Nat)} (h0 : L ≠ []) (h6 : L.length ≤ 6) (h : ∀ c ∈ L, nameB (.str c.1) = true ∧ 1 ≤ c.2 ∧ c.2 ≤ 400) (hs : (L.map (·.2)).sum ≤ 400) (ha : (L.map (·.1)).Pairwise (fun a b => sLt a b = true)) : countsB (.tuple (L.map cntD)) = true := by
  have e1 : tupOf 1 6 (.tuple (L.map cntD)) = true := by
    show (decide ((1 : Int) ≤ ((L.map cntD).length : Int)) && decide (((L.map cntD).length : Int) ≤ 6)) = true
    have : 0 < L.length := List.length_pos_iff.mpr h0
    rw [List.length_map, decide_eq_true (by omega), decide_eq_true (by omega)]
    rfl
  have e2 : (L.map cntD).all countB = true := List.all_eq_true.mpr fun d hd => by
    obtain ⟨c, hc, rfl⟩ := List.mem_map.mp hd
    exact cnt_ok (h c hc).1 (h c hc).2.1 (h c hc).2.2
  have e3 : ((L.map cntD).map letterOf) = (L.map (·.1)).map PyData.str := by
    rw [List.map_map, List.map_map]
    rfl
  unfold countsB
  show (tupOf 1 6 (.tuple (L.map cntD)) && (L.map cntD).all countB && (decide (((L.map cntD).map countOf).sum ≤ 400) && ascB ((L.map cntD).map letterOf))) = true
  rw [e1, e2, e3, asc_str ha, cnts_sum, decide_eq_true (by omega)]
  rfl
def NW : List Str := ["a", "ab", "b", "ca", "cb", "zzzzzz"]
theorem nw_ok : ∀ i : Fin 7, (NW.take i.val).Pairwise (fun a b => sLt a b = true) := by decide +kernel
theorem nw_nm : NW.all (fun z => nameB (.str z)) = true := by decide +kernel
theorem nw_len : ∀ z ∈ NW, z.length ≤ 10 := by decide +kernel
theorem nw_cut : ∀ y : Fin 6, cutV (NW.map V.str) none (some ((1 : Int) + ((y.val : Nat) : Int))) = (NW.take (y.val + 1)).map V.str := by
  intro y
  match y with
  | 0 => rfl
  | 1 => rfl
  | 2 => rfl
  | 3 => rfl
  | 4 => rfl
  | 5 => rfl
def lbL : List Nat := [400, 265, 175, 115, 75, 48, 30]
theorem lb_step {i left a : Nat} (hi : i < 6) (h : lbL.getD i 0 ≤ left) (ha : a < 1 + left / 3) : lbL.getD (i + 1) 0 + (1 + a) + 1 ≤ left := by
  rcases (show i = 0 ∨ i = 1 ∨ i = 2 ∨ i = 3 ∨ i = 4 ∨ i = 5 by omega) with rfl | rfl | rfl | rfl | rfl | rfl
  · have h' : 400 ≤ left := h
    show 265 + (1 + a) + 1 ≤ left
    omega
  · have h' : 265 ≤ left := h
    show 175 + (1 + a) + 1 ≤ left
    omega
  · have h' : 175 ≤ left := h
    show 115 + (1 + a) + 1 ≤ left
    omega
  · have h' : 115 ≤ left := h
    show 75 + (1 + a) + 1 ≤ left
    omega
  · have h' : 75 ≤ left := h
    show 48 + (1 + a) + 1 ≤ left
    omega
  · have h' : 48 ≤ left := h
    show 30 + (1 + a) + 1 ≤ left
    omega
theorem facs_le (cs : List Nat) : facs cs ≤ fac cs.sum := by
  have z := mult_all cs
  obtain ⟨m, e, h⟩ := mult_nat cs 0 1
  have e' : multN 0 1 cs = ((m : Nat) : Int) := e
  rw [e', Int.toNat_natCast] at z
  have p := fac_pos cs.sum
  have m1 : 1 ≤ m := by
    cases m with
    | zero =>
      rw [Nat.mul_zero] at z
      omega
    | succ m => omega
  rw [← z]
  exact Nat.le_mul_of_pos_right _ m1
theorem facs_app (a : List Nat) (c : Nat) : facs (a ++ [c]) = facs a * fac c := by
  unfold facs
  rw [List.map_append, prodN_app]
  show _ * (fac c * 1) = _
  rw [Nat.mul_one]
theorem sum_take (cs : List Nat) (i : Nat) : (cs.take i).sum ≤ cs.sum := by
  have z := congrArg List.sum (List.take_append_drop i cs)
  rw [List.sum_append] at z
  omega
theorem cnts_N (cs : List (Str × Nat)) : countsN (.tuple (cs.map cntD)) = cs.map (·.2) := by
  unfold countsN
  show (cs.map cntD).map _ = _
  rw [List.map_map]
  exact List.map_congr_left fun c _ => Int.toNat_natCast _
theorem sz_word {v : V} {H : Hp} {Q : VK} {E : XK} {cs : List (Str × Nat)} (hc : countsB (.tuple (cs.map cntD)) = true) (hd : Dat H v (.tuple [.str "word", .tuple (cs.map cntD)])) (q : ∀ H', Same H H' → Q (.int ((fac (cs.map (·.2)).sum / facs (cs.map (·.2)) : Nat) : Int)) H') : spSzOf 2 [v] H Q E := by
  refine sz_leaf (z := "word") (m := 2) (ds := [.tuple (cs.map cntD)]) (p := pWord) rfl (by decide +kernel) rfl hc ?_ hd q
  show multN 0 1 (countsN (.tuple (cs.map cntD))) = _
  rw [cnts_N, mult_div]
theorem mk_tupL {K : PySem.W.Frag} {G : List (Nat × PyData)} {t : TE} {ds : List PyData} (h : Mk G t (.list ds)) : Mk G (tCB (fun xs H Q => ∃ p ys, xs = [.ref p] ∧ ((SqL K H p ys ∧ ∀ l, H l = none → Q (.ref l) (upd H l (.tup ys))) ∨ (SqT K H p ys ∧ Q (.ref p) H))) (tCons t tNil)) (.tuple ds) := fun σ H Q E q => h σ H _ E fun v H1 S1 d1 => by
  obtain ⟨a, xs, rfl, ha, hx⟩ := dat_lst d1
  exact ⟨a, xs, rfl, .inl ⟨SqL.of ha, fun l nl => q _ _ (S1.trans (same_new nl)) (.tup upd_same (hx.same (same_new nl)))⟩⟩
theorem cnt_at {H : Hp} {items : List V} {cs : List (Str × Nat)} (h : DatAll H items (cs.map cntD)) {i : Nat} {x : V} (hi : items[i]? = some x) : ∃ (c : Str × Nat) (t : Addr), cs[i]? = some c ∧ x = .ref t ∧ H t = some (.tup [.str c.1, .int ((c.2 : Nat) : Int)]) := by
  obtain ⟨d, hd, dt⟩ := h.get hi
  rw [List.getElem?_map] at hd
  cases hc : cs[i]? with
  | none =>
    rw [hc] at hd
    cases hd
  | some c =>
    rw [hc] at hd
    obtain rfl := Option.some.inj hd
    obtain ⟨t, ys, rfl, ht, hy⟩ := dat_tup dt
    cases hy with
    | cons a hy =>
      cases hy with
      | cons b hy =>
        cases hy
        rw [dat_isInt b] at ht
        cases a
        exact ⟨c, t, rfl, rfl, ht⟩
abbrev s_words_right : Stmt := top 39
section
variable {P : Program} {w : World} {K : PySem.W.Frag} {mg : Str → Option Value} {base : Heap}
theorem sc_words_right : FnScope ["_law_deck_here", "_law_counts", "_law_left", "_law_letter", "_law_size", "_law_total", "_law_count"] ["_law_deck_here"] (defScope s_words_right) := ⟨rfl, rfl, rfl, by decide +kernel, rfl, by decide +kernel, by decide +kernel⟩
theorem okl_words_right {f fD fZ fF : Addr} {fd fdD fdZ fdF : FuncData} (F : Fun K "_law_words_right" "_law_words_right" s_words_right f fd) (T : Nm mg)  (D_draw : DefOk K mg "_law_draw" sDraw ["_law_deck_here", "_law_bound"] fD fdD) (D_size_of : DefOk K mg "size_of" sSizeOf ["space"] fZ fdZ) (D_factorial : DefOk K mg "_law_factorial" s_factorial ["_law_n"] fF fdF) (G_size_of : FnOk P w K mg base CX0 13 fZ fdZ ["space"] (spSzOf 2)) : FnOk P w K mg base CX0 14 f fd ["_law_deck_here"] spR := by
  have G_draw : FnOk P w K mg base CX0 1 fD fdD ["_law_deck_here", "_law_bound"] spDraw := ok_draw D_draw.F
  have G_factorial : FnOk P w K mg base CX0 1 fF fdF ["_law_n"] spFact := okl_factorial D_factorial.F T
  refine F.ok sc_words_right (fun vs H Q E h => ?_) (fun cdv A outer s H vs Q E hr h => ?_)
  · obtain ⟨p, q, b, rfl, _⟩ := h
    rfl
  · obtain ⟨p, q, b, rfl, D, hb, k⟩ := h
    have hu0 := hr.units0
    have hr1 : Room 1 _ := hr.mono (by decide)
    have hr2 : Room 2 _ := hr.mono (by decide)
    have hr5 : Room 5 _ := hr.mono (by decide)
    refine ⟨_, (pss_cons (ps_par (i := 1) (j := 2) rfl sc_words_right.nd rfl rfl (by decide) rfl rfl (pa_cons (pe_lst pa_nil) (pa_cons pe_int pa_nil)) (by rfl))
      (pss_cons (ps_for PassesOwn.never rfl (pi_list (pe_slice sl_list (pe_lst (pa_cons pe_str (pa_cons pe_str (pa_cons pe_str (pa_cons pe_str (pa_cons pe_str (pa_cons pe_str pa_nil))))))) po_none (po_some (pe_op op_add pe_int (pe_call G_draw hr1 rfl D_draw.g D_draw.F.kp D_draw.b .nil pass0 (pa_cons (pv 0) (pa_cons pe_int pa_nil))))))) (pg_name (i := 3) sc_words_right.nd rfl (Or.inl rfl))
        (pss_cons (ps_expr (pe_bm PySem.F.plainAttrs_list PySem.F.slot_list_append PySem.F.type_list_append mt_append (pv 1) (pa_cons (pe_tup (pa_cons (pv 3) (pa_cons (pe_op op_add pe_int (pe_call G_draw hr1 rfl D_draw.g D_draw.F.kp D_draw.b .nil pass0 (pa_cons (pv 0) (pa_cons (pe_op op_add pe_int (pe_op op_fdivNN (pv 2) pe_int)) pa_nil)))) pa_nil))) pa_nil)))
        (pss_one (ps_set (i := 2) sc_words_right.nd rfl (Or.inl rfl) (pe_op op_sub (pe_op op_sub (pv 2) (pe_ix ix_tup (pe_ix ix_list (pv 1) (pe_un un_neg pe_int) (fun _ _ => rfl)) pe_int (fun _ _ => rfl))) pe_int)))))
      (pss_cons (ps_par (i := 4) (j := 5) rfl sc_words_right.nd rfl rfl (by decide) rfl rfl (pa_cons pe_int (pa_cons (pe_callB (cr_sum rfl) (by rfl) T.sum boot_sum (pa_cons (pe_lc (own := [("_law_letter", 3), ("_law_count", 6)]) (g := (gTup K 2 (gCons (gName 3) (gCons (gName 6) gNil)))) (tt := tYes) (te := tVar 6) rfl sc_words_right.nd (pi_list (pv 1)) (blkOk_by (N := ["_law_deck_here", "_law_counts", "_law_left", "_law_letter", "_law_size", "_law_total", "_law_count"]) (sc := defScope s_words_right) (by decide +kernel))
          (fun _ _ _ _ _ => (pg_tup rfl (pgs_cons (pg_name (i := 3) sc_words_right.nd rfl (Or.inl rfl)) (pgs_cons (pg_name (i := 6) sc_words_right.nd rfl (Or.inl rfl)) pgs_nil)))) (fun _ _ _ _ _ => pts_nil) (fun _ _ _ _ _ => (pv 6))) pa_nil)) pa_nil)) (by rfl))
      (pss_cons (ps_for PassesOwn.never rfl (pi_list (pv 1)) (pg_tup rfl (pgs_cons (pg_name (i := 3) sc_words_right.nd rfl (Or.inl rfl)) (pgs_cons (pg_name (i := 6) sc_words_right.nd rfl (Or.inl rfl)) pgs_nil)))
        (pss_one (ps_set (i := 4) sc_words_right.nd rfl (Or.inl rfl) (pe_op op_mulW (pv 4) (pe_call G_factorial hr1 rfl D_factorial.g D_factorial.F.kp D_factorial.b .nil pass0 (pa_cons (pv 6) pa_nil))))))
      (pss_one (ps_ret (pe_cmpR op_eq (pe_call G_size_of hr rfl D_size_of.g D_size_of.F.kp D_size_of.b .nil pass0 (pa_cons (pe_tup (pa_cons pe_str (pa_cons (pe_callTy call_tuple_of (by rfl) T.tuple (by decide +kernel) (pa_cons (pv 1) pa_nil)) pa_nil))) pa_nil)) (pe_op op_fdivW (pe_call G_factorial hr1 rfl D_factorial.g D_factorial.F.kp D_factorial.b .nil pass0 (pa_cons (pv 5) pa_nil)) (pv 4)) (nomark _)))))))), ?_⟩
    refine ⟨(by show 0 ≤ sizeLine; decide), fun r nr => ⟨_, _, rfl, ?_⟩⟩
    obtain ⟨rp, rq⟩ := D.new nr
    have Dr := D.same (same_new (o := HO.lst []) nr)
    have er : upd H r (.lst []) r = some (.lst []) := upd_same
    generalize upd H r (.lst []) = H1 at Dr er ⊢
    refine ⟨(by show 6 ≤ sizeLine; decide), fun l nl => ?_⟩
    obtain ⟨lp, lq⟩ := Dr.new nl
    have lr : l ≠ r := fun z => by
      rw [z, er] at nl
      cases nl
    have Sl := same_new (o := HO.lst [V.str "a", .str "ab", .str "b", .str "ca", .str "cb", .str "zzzzzz"]) nl
    have Dl := Dr.same Sl
    have el : upd H1 l (.lst [V.str "a", .str "ab", .str "b", .str "ca", .str "cb", .str "zzzzzz"]) l = some (.lst (NW.map V.str)) := upd_same
    have er := Sl _ _ er
    generalize upd H1 l (.lst [V.str "a", .str "ab", .str "b", .str "ca", .str "cb", .str "zzzzzz"]) = H2 at Dl el er ⊢
    obtain ⟨ds2, m2, c2, D2, hc2⟩ := Dl
    refine ⟨_, rfl, p, q, ds2, m2, c2, 6, rfl, by decide, by decide, D2, by omega, fun y0 ds3 H3 y00 y01 O3 D3 => ?_⟩
    obtain ⟨y, rfl⟩ := nat_of y00
    have hy : y < 6 := by omega
    have D3' : Dk H3 p q (b + 1) := ⟨_, _, _, D3, by omega⟩
    have el := O3 _ _ el lp lq
    have er := O3 _ _ er rp rq
    refine ⟨_, _, rfl, rfl, _, rfl, l, _, rfl, SqL.of el, fun sl nsl => ?_⟩
    have ecut : cutV (NW.map V.str) none (some ((fun i j : Int => i + j) 1 (y : Int))) = (NW.take (y + 1)).map V.str := nw_cut ⟨y, hy⟩
    obtain ⟨slp, slq⟩ := D3'.new nsl
    have slr : sl ≠ r := fun z => by
      rw [z, er] at nsl
      cases nsl
    have S4 := same_new (o := HO.lst (cutV (NW.map V.str) none (some ((fun i j : Int => i + j) 1 (y : Int))))) nsl
    have D4 := D3'.same S4
    have er := S4 _ _ er
    have es : upd H3 sl (.lst (cutV (NW.map V.str) none (some ((fun i j : Int => i + j) 1 (y : Int))))) sl = some (.lst ((NW.take (y + 1)).map V.str)) := by rw [ecut]; exact upd_same
    generalize upd H3 sl (.lst (cutV (NW.map V.str) none (some ((fun i j : Int => i + j) 1 (y : Int))))) = H4 at D4 er es ⊢
    have lxs : ((NW.take (y + 1)).map V.str).length = y + 1 := by
      rw [List.length_map, List.length_take]
      show min (y + 1) 6 = y + 1
      omega
    refine ⟨sl, rfl, ⟨_, SqL.of es⟩, for_list (K := K) (a := sl) (xs := (NW.take (y + 1)).map V.str) (fun i σ Hx => ∃ (cs : List (Str × Nat)) (items : List V) (x3 : Option V) (left : Nat), σ = [some (.ref p), some (.ref r), some (.int ((left : Nat) : Int)), x3, none, none, none] ∧ Dk Hx p q (b + 1 + i) ∧ Hx sl = some (.lst ((NW.take (y + 1)).map V.str)) ∧ Hx r = some (.lst items) ∧
        DatAll (hide p q (noR r Hx)) items (cs.map cntD) ∧ cs.map (·.1) = NW.take i ∧ (∀ c ∈ cs, 1 ≤ c.2 ∧ c.2 ≤ 400) ∧ (cs.map (·.2)).sum + left ≤ 400 ∧ lbL.getD i 0 ≤ left)
      ⟨[], [], none, 400, rfl, D4, es, er, .nil, rfl, by simp, by decide, by decide⟩ (fun i σ Hx _ ⟨_, _, _, _, _, _, h, _⟩ => SqL.of h) ?_ ?_⟩
    · rintro i x σ Hx hx ⟨cs, items, x3, left, rfl, Dx, hs, hr', dA, en, hcs, hsum, hlb⟩
      have hi : i < y + 1 := by
        have z := (List.getElem?_eq_some_iff.mp hx).1
        omega
      have hi6 : i < 6 := by omega
      obtain ⟨nm, hnm, rfl⟩ : ∃ nm, (NW.take (y + 1))[i]? = some nm ∧ x = V.str nm := by
        rw [List.getElem?_map] at hx
        cases e : (NW.take (y + 1))[i]? with
        | none =>
          rw [e] at hx
          cases hx
        | some z =>
          rw [e] at hx
          exact ⟨z, rfl, (Option.some.inj hx).symm⟩
      have hnm' : NW[i]? = some nm := by
        rw [List.getElem?_take] at hnm
        rw [if_pos hi] at hnm
        exact hnm
      have hmem : nm ∈ NW := List.mem_of_getElem? hnm'
      have ln := dA.len
      rw [List.length_map] at ln
      have lcs : cs.length = i := by
        have z := congrArg List.length en
        rw [List.length_map, List.length_take] at z
        have : NW.length = 6 := rfl
        omega
      obtain ⟨dsx, mx, cx, Dx', hcx⟩ := Dx
      refine ⟨_, rfl, .inl ⟨rfl, _, SqL.of hr'⟩, _, rfl, _, rfl, _, rfl, left, 3, rfl, rfl, ⟨by decide, by decide⟩, _, _, rfl, rfl, p, q, dsx, mx, cx, (1 : Int) + ((left / 3 : Nat) : Int), rfl, by omega, by omega, Dx', by omega, fun a0 ds5 H5 a00 a01 O5 D5 => ?_⟩
      obtain ⟨a, rfl⟩ := nat_of a00
      have ha : a < 1 + left / 3 := by omega
      have hstep := lb_step hi6 hlb ha
      have D5' : Dk H5 p q (b + 1 + (i + 1)) := ⟨_, _, _, D5, by omega⟩
      have hr5 := O5 _ _ hr' rp rq
      have hs5 := O5 _ _ hs slp slq
      refine ⟨_, _, rfl, rfl, (by show 2 ≤ sizeLine; decide), fun t nt => ?_⟩
      have ea : (1 : Int) + (a : Int) = ((1 + a : Nat) : Int) := by omega
      have St := same_new (o := HO.tup [V.str nm, .int ((1 : Int) + (a : Int))]) nt
      have et : upd H5 t (.tup [V.str nm, .int ((1 : Int) + (a : Int))]) t = some (.tup [.str nm, .int ((1 + a : Nat) : Int)]) := by rw [ea]; exact upd_same
      obtain ⟨tp, tq⟩ := D5'.new nt
      have tr : t ≠ r := fun z => by
        rw [z, hr5] at nt
        cases nt
      have tsl : sl ≠ r := slr
      have D6 := D5'.same St
      have hr6 := St _ _ hr5
      have hs6 := St _ _ hs5
      refine ⟨r, items, _, rfl, rfl, hr6, by rw [ln, sizeLine_eq]; omega, ?_⟩
      have htt : upd (upd H5 t (.tup [V.str nm, .int ((1 : Int) + (a : Int))])) r (.lst (items ++ [.ref t])) t = some (.tup [.str nm, .int ((1 + a : Nat) : Int)]) := by
        rw [upd_ne tr]
        exact et
      refine ⟨_, rfl, _, rfl, 1, rfl, r, _, _, V.ref t, rfl, rfl, SqL.of upd_same, atI_last items (.ref t), t, _, _, _, rfl, rfl, SqT.of htt, atI_nat (j := 1) rfl, _, _, rfl, rfl, _, _, rfl, rfl, cs ++ [(nm, 1 + a)], items ++ [.ref t], some (.str nm), left - (1 + a) - 1, ?_, dk_upd D6 rp rq, ?_, upd_same, ?_, ?_, ?_, ?_, ?_⟩
      · have el : (left : Int) - ((1 + a : Nat) : Int) - 1 = ((left - (1 + a) - 1 : Nat) : Int) := by omega
        show [some (V.ref p), some (V.ref r), some (V.int ((left : Int) - ((1 + a : Nat) : Int) - 1)), some (V.str nm), none, none, none] = _
        rw [el]
      · rw [upd_ne slr]
        exact hs6
      · rw [noR_upd, List.map_append]
        have Sn : Same (hide p q (noR r H5)) (hide p q (noR r (upd H5 t (.tup [V.str nm, .int ((1 : Int) + (a : Int))])))) := noR_off (Off.of_same St)
        exact datAll_append ((dA.same (noR_off O5)).same Sn) (.cons (.tup (hide_at (noR_at et tr) tp tq) (.cons (.str _ (by have := nw_len nm hmem; omega)) (.cons (.int _) .nil))) .nil)
      · rw [List.map_append, en, List.take_add_one, hnm']
        rfl
      · intro c hc
        rcases List.mem_append.mp hc with hc | hc
        · exact hcs c hc
        · obtain rfl : c = (nm, 1 + a) := by simpa using hc
          exact ⟨by show 1 ≤ 1 + a; omega, by show 1 + a ≤ 400; omega⟩
      · rw [List.map_append, List.sum_append]
        show (cs.map (·.2)).sum + (1 + a + 0) + _ ≤ 400
        omega
      · omega
    · rintro σ H5 ⟨cs, items, x3, left, rfl, D5, hs5, hr5, dA, en, hcs, hsum, hlb⟩
      rw [lxs] at en
      have ln := dA.len
      rw [List.length_map] at ln
      have lcs : cs.length = y + 1 := by
        have z := congrArg List.length en
        rw [List.length_map, List.length_take] at z
        have : NW.length = 6 := rfl
        omega
      have dB : DatAll H5 items (cs.map cntD) := (dA.same (hide_sub p q _)).same noR_sub
      have hsum' : (cs.map (·.2)).sum ≤ 400 := by omega
      have D5 : Dk H5 p q (b + 100) := D5.mono (by omega)
      refine ⟨_, rfl, r, rfl, ⟨_, SqL.of hr5⟩, fun L nL => ?_⟩
      refine lc_list (K := K) (a := r) (xs := items) (fun i Hx => Same H5 Hx ∧ Hx L = some (.lst ((cs.take i).map fun c => V.int ((c.2 : Nat) : Int)))) ⟨same_new nL, upd_same⟩ (fun i Hx _ ⟨S, _⟩ => SqL.of (S _ _ hr5)) ?_ ?_
      · rintro i x Hx hx ⟨S, hL⟩
        obtain ⟨c, t, hc, rfl, ht⟩ := cnt_at dB hx
        refine ⟨t, _, rfl, SqT.of (S _ _ ht), rfl, _, _, rfl, _, _, rfl, rfl, rfl, ?_⟩
        refine ⟨_, rfl, _, hL, by rw [List.length_map, List.length_take, sizeLine_eq]; omega, fun z o e => ?_, ?_⟩
        · have zl : z ≠ L := fun w => by
            rw [w, nL] at e
            cases e
          rw [upd_ne zl]
          exact S _ _ e
        · rw [upd_same, List.take_add_one, hc, List.map_append]
          rfl
      · rintro H6 ⟨S6, hL⟩
        rw [ln, List.take_length] at hL
        have eN : (cs.map fun c => V.int ((c.2 : Nat) : Int)) = (((cs.map (·.2)).map fun n : Nat => (n : Int))).map V.int := by
          rw [List.map_map, List.map_map]
          rfl
        rw [eN] at hL
        refine ⟨L, _, rfl, SqL.of hL, _, _, rfl, ?_⟩
        rw [sum_cast]
        refine ⟨_, rfl, r, rfl, ⟨_, SqL.of (S6 _ _ hr5)⟩, for_list (K := K) (a := r) (xs := items) (fun i σ Hx => ∃ (x3 x6 : Option V), σ = [some (.ref p), some (.ref r), some (.int ((left : Nat) : Int)), x3, some (.int ((facs ((cs.map (·.2)).take i) : Nat) : Int)), some (.int (((cs.map (·.2)).sum : Nat) : Int)), x6] ∧ Same H5 Hx) ⟨x3, none, rfl, S6⟩ (fun i σ Hx _ ⟨_, _, _, S⟩ => SqL.of (S _ _ hr5)) ?_ ?_⟩
        · rintro i x σ Hx hx ⟨x3', x6, rfl, S⟩
          obtain ⟨c, t, hc, rfl, ht⟩ := cnt_at dB hx
          have c4 := (hcs c (List.mem_of_getElem? hc)).2
          refine ⟨t, _, rfl, SqT.of (S _ _ ht), rfl, _, _, rfl, _, _, rfl, rfl, ?_⟩
          have fl : facs ((cs.map (·.2)).take i) < 2 ^ 3601 := Nat.lt_of_le_of_lt (Nat.le_trans (facs_le _) (fac_mono (sum_take _ i))) (fac_lt hsum')
          refine ⟨_, rfl, _, rfl, c.2, rfl, c4, _, _, rfl, rfl, wide_mul (a := 3601) (b := 3601) (by rw [Int.natAbs_natCast]; exact fl) (by rw [Int.natAbs_natCast]; exact fac_lt c4) (by decide) (by decide) (by decide), some (.str c.1), some (.int ((c.2 : Nat) : Int)), ?_, S⟩
          have ef : facs ((cs.map (·.2)).take (i + 1)) = facs ((cs.map (·.2)).take i) * fac c.2 := by
            rw [List.take_add_one, List.getElem?_map, hc]
            exact facs_app _ _
          rw [ef, Int.natCast_mul]
          rfl
        · rintro σ H7 ⟨x3', x6, rfl, S7⟩
          have l2 : (cs.map (·.2)).length = items.length := by rw [List.length_map, ln]
          rw [← l2, List.take_length]
          have E7 : EnvOk [(5, .int (((cs.map (·.2)).sum : Nat) : Int)), (4, .int ((facs (cs.map (·.2)) : Nat) : Int)), (1, .list (cs.map cntD))] [some (.ref p), some (.ref r), some (.int ((left : Nat) : Int)), x3', some (.int ((facs (cs.map (·.2)) : Nat) : Int)), some (.int (((cs.map (·.2)).sum : Nat) : Int)), x6] H7 := fun w hw => by
            rcases List.mem_cons.mp hw with rfl | hw
            · exact ⟨_, rfl, .int _⟩
            rcases List.mem_cons.mp hw with rfl | hw
            · exact ⟨_, rfl, .int _⟩
            rcases List.mem_cons.mp hw with rfl | hw
            · exact ⟨_, rfl, .lst (S7 _ _ hr5) (dB.same S7)⟩
            cases hw
          have cb : countsB (.tuple (cs.map cntD)) = true := cnts_ok (fun z => by rw [z] at lcs; cases lcs) (by omega) (fun c hc => ⟨List.all_eq_true.mp nw_nm c.1 (List.mem_of_mem_take (by rw [← en]; exact List.mem_map_of_mem hc)), hcs c hc⟩) hsum' (by rw [en]; exact nw_ok ⟨y + 1, by omega⟩)
          have fl := Nat.lt_of_le_of_lt (facs_le (cs.map (·.2))) (fac_lt hsum')
          refine rt_mk (d := .bool true) (mk_eqN (mk_sz (mk_tup (mks_cons (mk_str (by decide)) (mks_cons (mk_tupL (mk_var (i := 1) (.tail _ (.tail _ (.head _))))) mks_nil)) (by show 2 ≤ 1000; decide)) fun v H Q hd k => sz_word cb hd k) (mk_op (mk_fact (mk_var (i := 5) (.head _)) hsum') (mk_var (i := 4) (.tail _ (.head _))) (wide_div (b := 3601) (by have := facs_pos (cs.map (·.2)); omega) (by rw [Int.natAbs_natCast]; exact fl) (by decide) (by decide)) (by rw [Int.natCast_ediv]))) E7 fun v H8 S8 d8 => ?_
          rw [dat_bl d8]
          exact k _ ((D5.same S7).same S8)
end
end K6
set_option maxRecDepth 100000
set_option maxHeartbeats 8000000
namespace K6
open PySem PySem.Spec PyProof.Rows L2
/-! ### orders of names -/
abbrev s_all : Stmt := top 36
def itemD (ns : List Str) : PyData := .tuple [.str "item", .str (ns.getD 0 Str.empty)]
def szP (L : Nat) : Nat := (L + 5) / 6
def ctP (L : Nat) : Nat := (L + szP L - 1) / szP L
def piece (ns : List Str) (s i : Nat) : List Str := (ns.drop (i * s)).take s
def pieces (ns : List Str) : List (List Str) := (List.range (ctP ns.length)).map (piece ns (szP ns.length))
def allD (w : Str) : Nat → List Str → PyData
  | 0, ns => itemD ns
  | k + 1, ns => if ns.length = 1 then itemD ns else .tuple [.str w, .tuple ((pieces ns).map (allD w k))]
theorem ct_ok : ∀ L : Fin 401, 2 ≤ L.val → (1 ≤ szP L.val ∧ 2 ≤ ctP L.val ∧ ctP L.val ≤ 6 ∧ (ctP L.val - 1) * szP L.val < L.val ∧ L.val ≤ ctP L.val * szP L.val) ∧ (((szP L.val : Nat) : Int) ≠ 0 ∧ ((szP L.val : Nat) : Int).natAbs < 1073741824 ∧ Builtin.Range.small 0 ((L.val : Nat) : Int) ((szP L.val : Nat) : Int) = true ∧ Builtin.Range.rangeSize 0 ((L.val : Nat) : Int) ((szP L.val : Nat) : Int) = ((ctP L.val : Nat) : Int)) := by decide +kernel
theorem flat_pieces (ns : List Str) (s : Nat) : ∀ c : Nat, ((List.range c).map (piece ns s)).flatten = ns.take (c * s)
  | 0 => by simp
  | c + 1 => by
    rw [List.range_succ, List.map_append, List.flatten_append, flat_pieces ns s c]
    show _ ++ (piece ns s c ++ []) = _
    rw [List.append_nil, Nat.succ_mul, List.take_add]
    rfl
theorem pieces_flat {ns : List Str} (h2 : 2 ≤ ns.length) (h4 : ns.length ≤ 400) : (pieces ns).flatten = ns := by
  unfold pieces
  rw [flat_pieces]
  exact List.take_of_length_le (ct_ok ⟨ns.length, by omega⟩ h2).1.2.2.2.2
theorem pieces_mem {ns : List Str} (h2 : 2 ≤ ns.length) (h4 : ns.length ≤ 400) {z : List Str} (hz : z ∈ pieces ns) : 1 ≤ z.length ∧ z.length ≤ szP ns.length ∧ ∀ x ∈ z, x ∈ ns := by
  obtain ⟨i, hi, rfl⟩ := List.mem_map.mp hz
  have hi' := List.mem_range.mp hi
  obtain ⟨s1, c2, c6, cl, ch⟩ := (ct_ok ⟨ns.length, by omega⟩ h2).1
  dsimp only at s1 c2 c6 cl ch
  have hlt : i * szP ns.length < ns.length := Nat.lt_of_le_of_lt (Nat.mul_le_mul_right _ (by omega)) cl
  refine ⟨?_, ?_, fun x hx => List.mem_of_mem_drop (List.mem_of_mem_take hx)⟩
  · unfold piece
    rw [List.length_take, List.length_drop]
    omega
  · unfold piece
    rw [List.length_take]
    omega
theorem sz_pow6 {L k : Nat} (h : L ≤ 6 ^ (k + 1)) : szP L ≤ 6 ^ k := by
  unfold szP
  rw [Nat.pow_succ] at h
  omega
theorem all_names {w : Str} (hw : (w == "item") = false) : ∀ (k m : Nat) (ns : List Str), k + 1 ≤ m → 1 ≤ ns.length → ns.length ≤ 6 ^ k → ns.length ≤ 400 → namesN m (allD w k ns) = ns
  | _, 0, _, h, _, _, _ => by omega
  | 0, m + 1, ns, _, h1, h6, _ => by
    match ns, h1, h6 with
    | [a], _, _ => rfl
    | _ :: _ :: _, _, h => simp at h
  | k + 1, m + 1, ns, hm, h1, h6, h4 => by
    by_cases e : ns.length = 1
    · rw [allD, if_pos e]
      match ns, e with
      | [a], _ => rfl
    · have h2 : 2 ≤ ns.length := by omega
      rw [allD, if_neg e]
      show (if eqStr "item" (.str w) = true then _ else ((pieces ns).map (allD w k)).flatMap (namesN m)) = ns
      rw [if_neg (by show ¬ (w == "item") = true; rw [hw]; exact Bool.false_ne_true), List.flatMap_map]
      have z : ∀ p ∈ pieces ns, namesN m (allD w k p) = p := fun p hp => by
        obtain ⟨a, b, _⟩ := pieces_mem h2 h4 hp
        have s6 := sz_pow6 h6
        have s4 : szP ns.length ≤ 400 := by
          unfold szP
          omega
        exact all_names hw k m p (by omega) a (by omega) (by omega)
      have y : (pieces ns).flatMap (fun p => namesN m (allD w k p)) = (pieces ns).flatMap id := by
        rw [← List.flatten_eq_flatMap, List.flatMap_def]
        rw [List.map_congr_left z, List.map_id']
      rw [y, ← List.flatten_eq_flatMap]
      exact pieces_flat h2 h4
theorem all_order {w : Str} (hw : w = "series" ∨ w = "parallel") : ∀ (k m : Nat) (ns : List Str), k + 1 ≤ m → 1 ≤ ns.length → ns.length ≤ 6 ^ k → ns.length ≤ 400 → (∀ x ∈ ns, nameB (.str x) = true) → orderB m (allD w k ns) = true
  | _, 0, _, h, _, _, _, _ => by omega
  | 0, m + 1, ns, _, h1, h6, _, hn => by
    match ns, h1, h6, hn with
    | [a], _, _, hn =>
      show (tupOf 2 2 (.tuple [.str "item", .str a]) && nameB (.str a)) = true
      rw [hn a (by simp)]
      rfl
    | _ :: _ :: _, _, h, _ => simp at h
  | k + 1, m + 1, ns, hm, h1, h6, h4, hn => by
    by_cases e : ns.length = 1
    · rw [allD, if_pos e]
      match ns, e, hn with
      | [a], _, hn =>
        show (tupOf 2 2 (.tuple [.str "item", .str a]) && nameB (.str a)) = true
        rw [hn a (by simp)]
        rfl
    · have h2 : 2 ≤ ns.length := by omega
      obtain ⟨s1, c2, c6, cl, ch⟩ := (ct_ok ⟨ns.length, by omega⟩ h2).1
      dsimp only at s1 c2 c6 cl ch
      rw [allD, if_neg e]
      have i1 : eqStr "item" (.str w) = false := by rcases hw with rfl | rfl <;> rfl
      have i2 : (eqStr "series" (.str w) || eqStr "parallel" (.str w)) = true := by rcases hw with rfl | rfl <;> rfl
      have i3 : tupOf 2 6 (.tuple ((pieces ns).map (allD w k))) = true := by
        show (decide ((2 : Int) ≤ (((pieces ns).map (allD w k)).length : Int)) && decide ((((pieces ns).map (allD w k)).length : Int) ≤ 6)) = true
        have l : ((pieces ns).map (allD w k)).length = ctP ns.length := by
          unfold pieces
          rw [List.length_map, List.length_map, List.length_range]
        rw [l, decide_eq_true (by omega), decide_eq_true (by omega)]
        rfl
      have i4 : ((pieces ns).map (allD w k)).all (orderB m) = true := List.all_eq_true.mpr fun d hd => by
        obtain ⟨p, hp, rfl⟩ := List.mem_map.mp hd
        obtain ⟨a, b, c⟩ := pieces_mem h2 h4 hp
        have s6 := sz_pow6 h6
        have s4 : szP ns.length ≤ 400 := by
          unfold szP
          omega
        exact all_order hw k m p (by omega) a (by omega) (by omega) fun x hx => hn x (c x hx)
      show (tupOf 2 2 (.tuple [.str w, .tuple ((pieces ns).map (allD w k))]) && (if eqStr "item" (.str w) = true then nameB (.tuple ((pieces ns).map (allD w k))) else ((eqStr "series" (.str w) || eqStr "parallel" (.str w)) && (tupOf 2 6 (.tuple ((pieces ns).map (allD w k))) && ((pieces ns).map (allD w k)).all (orderB m))))) = true
      rw [i1, i2, i3, i4]
      rfl
theorem prod_one : ∀ {l : List Nat}, (∀ x ∈ l, x = 1) → prodN l = 1
  | [], _ => rfl
  | a :: l, h => by
    rw [prodN, h a (by simp), prod_one fun x hx => h x (by simp [hx])]
theorem all_series : ∀ (k m : Nat) (ns : List Str), k + 1 ≤ m → 1 ≤ ns.length → ns.length ≤ 6 ^ k → ns.length ≤ 400 → oszN m (allD "series" k ns) = 1
  | _, 0, _, h, _, _, _ => by omega
  | 0, m + 1, ns, _, h1, h6, _ => rfl
  | k + 1, m + 1, ns, hm, h1, h6, h4 => by
    by_cases e : ns.length = 1
    · rw [allD, if_pos e]
      rfl
    · have h2 : 2 ≤ ns.length := by omega
      rw [allD, if_neg e]
      show prodN (((pieces ns).map (allD "series" k)).map (oszN m)) * 1 = 1
      rw [Nat.mul_one, prod_one]
      intro x hx
      obtain ⟨d, hd, rfl⟩ := List.mem_map.mp hx
      obtain ⟨p, hp, rfl⟩ := List.mem_map.mp hd
      obtain ⟨a, b, c⟩ := pieces_mem h2 h4 hp
      have s6 := sz_pow6 h6
      have s4 : szP ns.length ≤ 400 := by
        unfold szP
        omega
      exact all_series k m p (by omega) a (by omega) (by omega)
theorem all_parallel : ∀ (k m : Nat) (ns : List Str), k + 1 ≤ m → 1 ≤ ns.length → ns.length ≤ 6 ^ k → ns.length ≤ 400 → oszN m (allD "parallel" k ns) = fac ns.length
  | _, 0, _, h, _, _, _ => by omega
  | 0, m + 1, ns, _, h1, h6, _ => by
    match ns, h1, h6 with
    | [a], _, _ => rfl
    | _ :: _ :: _, _, h => simp at h
  | k + 1, m + 1, ns, hm, h1, h6, h4 => by
    by_cases e : ns.length = 1
    · rw [allD, if_pos e, e]
      rfl
    · have h2 : 2 ≤ ns.length := by omega
      rw [allD, if_neg e]
      have z : ∀ p ∈ pieces ns, oszN m (allD "parallel" k p) = fac p.length ∧ lenN m (allD "parallel" k p) = p.length := fun p hp => by
        obtain ⟨a, b, c⟩ := pieces_mem h2 h4 hp
        have s6 := sz_pow6 h6
        have s4 : szP ns.length ≤ 400 := by
          unfold szP
          omega
        refine ⟨all_parallel k m p (by omega) a (by omega) (by omega), ?_⟩
        show (namesN m (allD "parallel" k p)).length = _
        rw [all_names (by decide) k m p (by omega) a (by omega) (by omega)]
      have y1 : ((pieces ns).map (allD "parallel" k)).map (oszN m) = ((pieces ns).map List.length).map fac := by
        rw [List.map_map, List.map_map]
        exact List.map_congr_left fun p hp => (z p hp).1
      have y2 : ((pieces ns).map (allD "parallel" k)).map (lenN m) = (pieces ns).map List.length := by
        rw [List.map_map]
        exact List.map_congr_left fun p hp => (z p hp).2
      show prodN (((pieces ns).map (allD "parallel" k)).map (oszN m)) * (multN 0 1 (((pieces ns).map (allD "parallel" k)).map (lenN m))).toNat = fac ns.length
      rw [y1, y2]
      have x := mult_all ((pieces ns).map List.length)
      unfold facs at x
      rw [x]
      congr 1
      have f := congrArg List.length (pieces_flat h2 h4)
      rw [List.length_flatten] at f
      exact f
/-- distinct names -/
theorem cnt_nodup {ns : List Str} (h : ns.Nodup) : ∀ i, i ≤ ns.length → S2.cnt ns i = i
  | 0, _ => rfl
  | i + 1, hi => by
    unfold S2.cnt
    rw [if_neg, cnt_nodup h i (by omega)]
    intro z
    obtain ⟨x, hx, e⟩ := List.any_eq_true.mp z
    have e' : x = ns.getD i Str.empty := eq_of_beq e
    have hg : ns.getD i Str.empty = ns[i]'(by omega) := by
      rw [List.getD_eq_getElem?_getD, List.getElem?_eq_getElem (by omega)]
      rfl
    rw [hg] at e'
    obtain ⟨j, hj, rfl⟩ := List.getElem_of_mem hx
    rw [List.length_take] at hj
    rw [List.getElem_take] at e'
    exact List.pairwise_iff_getElem.mp h j i (by omega) (by omega) (by omega) e'
theorem nmT_inj {i j : Nat} (h : nmT i = nmT j) : i = j := by
  have e : (nmT i).cps.toList = (nmT j).cps.toList := by rw [h]
  have e' : [97 + i / 26, 97 + i % 26] = [97 + j / 26, 97 + j % 26] := e
  injection e' with a e'
  injection e' with b _
  omega
theorem nms_nodup (a m : Nat) : (nmsL a m).Nodup := by
  unfold nmsL
  refine List.Pairwise.map _ (fun i j h => ?_) (List.nodup_range (n := m))
  exact fun e => h (by have := nmT_inj e; omega)
theorem nmT_name : ∀ k : Fin 676, nameB (.str (nmT k.val)) = true := by decide +kernel
theorem nms_name {a m : Nat} (ha : a < 200) (hm : m ≤ 400) : ∀ x ∈ nmsL a m, nameB (.str x) = true ∧ x.length ≤ 1000 := fun x hx => by
  obtain ⟨i, hi, rfl⟩ := List.mem_map.mp hx
  have := List.mem_range.mp hi
  exact ⟨nmT_name ⟨a + i, by omega⟩, by show 1 + 1 ≤ 1000; decide⟩
section
variable {v : V} {H : Hp} {Q : VK} {E : XK}
theorem sz_arr {d : PyData} {ns : List Str} {N : Nat} (ho : orderB 6 d = true) (hn : namesN 6 d = ns) (h4 : ns.length ≤ 400) (hd' : ns.Nodup) (hz : oszN 6 d = N) (hd : Dat H v (.tuple [.str "arrangement", d])) (q : ∀ H', Same H H' → Q (.int ((N : Nat) : Int)) H') : spSzOf 2 [v] H Q E := by
  refine sz_leaf (z := "arrangement") (m := 2) (ds := [d]) (p := pArr) rfl (by decide +kernel) rfl ?_ ?_ hd q
  · show (orderB 6 d && (decide (((namesN 6 d).length : Int) ≤ 400) && decide ((S2.cnt (namesN 6 d) (namesN 6 d).length : Int) = ((namesN 6 d).length : Int)))) = true
    rw [ho, hn, cnt_nodup hd' _ (Nat.le_refl _), decide_eq_true (by omega), decide_eq_true rfl]
    rfl
  · show ((oszN 6 d : Nat) : Int) = _
    rw [hz]
end
/-- two chains, one after the other or side by side -/
theorem two_chains {w : Str} (hw : w = "series" ∨ w = "parallel") {n1 n2 : List Str} (a1 : 1 ≤ n1.length) (a2 : 1 ≤ n2.length) (a4 : n1.length + n2.length ≤ 400) (h1 : ∀ x ∈ n1, nameB (.str x) = true) (h2 : ∀ x ∈ n2, nameB (.str x) = true) :
    orderB 6 (.tuple [.str w, .tuple [allD "series" 4 n1, allD "series" 4 n2]]) = true ∧ namesN 6 (.tuple [.str w, .tuple [allD "series" 4 n1, allD "series" 4 n2]]) = n1 ++ n2 ∧ oszN 6 (.tuple [.str w, .tuple [allD "series" 4 n1, allD "series" 4 n2]]) = if w = "parallel" then chN (n1.length + n2.length) n1.length else 1 := by
  have p6 : (400 : Nat) ≤ 6 ^ 4 := by decide
  have o1 := all_order (.inl rfl) 4 5 n1 (by decide) a1 (by omega) (by omega) h1
  have o2 := all_order (.inl rfl) 4 5 n2 (by decide) a2 (by omega) (by omega) h2
  have m1 := all_names (w := "series") (by decide) 4 5 n1 (by decide) a1 (by omega) (by omega)
  have m2 := all_names (w := "series") (by decide) 4 5 n2 (by decide) a2 (by omega) (by omega)
  have z1 := all_series 4 5 n1 (by decide) a1 (by omega) (by omega)
  have z2 := all_series 4 5 n2 (by decide) a2 (by omega) (by omega)
  refine ⟨?_, ?_, ?_⟩
  · have i1 : eqStr "item" (.str w) = false := by rcases hw with rfl | rfl <;> rfl
    have i2 : (eqStr "series" (.str w) || eqStr "parallel" (.str w)) = true := by rcases hw with rfl | rfl <;> rfl
    show (true && (if eqStr "item" (.str w) = true then _ else ((eqStr "series" (.str w) || eqStr "parallel" (.str w)) && (true && (orderB 5 (allD "series" 4 n1) && (orderB 5 (allD "series" 4 n2) && true)))))) = true
    rw [i1, i2, o1, o2]
    rfl
  · have i1 : ¬ eqStr "item" (.str w) = true := by rcases hw with rfl | rfl <;> exact Bool.false_ne_true
    show (if eqStr "item" (.str w) = true then _ else namesN 5 (allD "series" 4 n1) ++ (namesN 5 (allD "series" 4 n2) ++ [])) = _
    rw [if_neg i1, m1, m2, List.append_nil]
  · have i1 : ¬ eqStr "item" (.str w) = true := by rcases hw with rfl | rfl <;> exact Bool.false_ne_true
    have l1 : lenN 5 (allD "series" 4 n1) = n1.length := congrArg List.length m1
    have l2 : lenN 5 (allD "series" 4 n2) = n2.length := congrArg List.length m2
    show (if eqStr "item" (.str w) = true then 1 else oszN 5 (allD "series" 4 n1) * (oszN 5 (allD "series" 4 n2) * 1) * (if eqStr "parallel" (.str w) = true then (multN 0 1 [lenN 5 (allD "series" 4 n1), lenN 5 (allD "series" 4 n2)]).toNat else 1)) = _
    rw [if_neg i1, z1, z2, l1, l2, mult_two]
    rcases hw with rfl | rfl
    · rfl
    · show 1 * (1 * 1) * chN (n1.length + n2.length) n1.length = chN (n1.length + n2.length) n1.length
      rw [Nat.mul_one, Nat.one_mul]
end K6
set_option maxRecDepth 100000
set_option maxHeartbeats 8000000
namespace K6
open PySem PySem.Spec PyProof.Rows L2
/-! ### the law's orders, arrangements -/
theorem cutV_nat (xs : List V) (a b : Nat) : cutV xs (some ((a : Nat) : Int)) (some ((a : Int) + (b : Int))) = (xs.drop a).take b := by
  unfold cutV
  rw [show (a : Int) + (b : Int) = ((a + b : Nat) : Int) by omega, HT.sIx_nat, HT.sIx_nat]
  by_cases h : a ≤ xs.length
  · rw [Nat.min_eq_left h]
    by_cases h2 : a + b ≤ xs.length
    · rw [Nat.min_eq_left h2, show a + b - a = b by omega]
    · rw [Nat.min_eq_right (by omega), List.take_of_length_le (by rw [List.length_drop]; omega), List.take_of_length_le (by rw [List.length_drop]; omega)]
  · have m1 : min a xs.length = xs.length := Nat.min_eq_right (by omega)
    rw [m1, List.drop_of_length_le (Nat.le_refl _), List.drop_of_length_le (by omega)]
    simp
theorem cutV_to (xs : List V) (b : Nat) : cutV xs none (some ((b : Nat) : Int)) = xs.take b := by
  unfold cutV
  rw [HT.sIx_nat, HT.sIx_none, List.drop_zero, Nat.sub_zero]
  by_cases h2 : b ≤ xs.length
  · rw [Nat.min_eq_left h2]
  · rw [Nat.min_eq_right (by omega), List.take_of_length_le (Nat.le_refl _), List.take_of_length_le (by omega)]
theorem cutV_from (xs : List V) (a : Nat) : cutV xs (some ((a : Nat) : Int)) none = xs.drop a := by
  unfold cutV
  rw [HT.sIx_nat, HT.sIx_none]
  by_cases h : a ≤ xs.length
  · rw [Nat.min_eq_left h, List.take_of_length_le (by rw [List.length_drop]; omega)]
  · rw [Nat.min_eq_right (by omega), List.drop_of_length_le (Nat.le_refl _), List.drop_of_length_le (by omega)]
    simp
theorem all_noL (w : Str) : ∀ (k : Nat) (ns : List Str), noL (allD w k ns) = true
  | 0, ns => rfl
  | k + 1, ns => by
    rw [allD]
    split
    · rfl
    · show (true && (noLs ((pieces ns).map (allD w k)) && true)) = true
      have z : ∀ l : List (List Str), noLs (l.map (allD w k)) = true := by
        intro l
        induction l with
        | nil => rfl
        | cons a l ih =>
          show (noL (allD w k a) && noLs (l.map (allD w k))) = true
          rw [all_noL w k a, ih]
          rfl
      rw [z]
      rfl
def spAll (k : Nat) : Sp := fun vs H Q _ => ∃ (r : Addr) (ns : List Str) (w : Str), vs = [.ref r, .str w] ∧ H r = some (.lst (ns.map V.str)) ∧ 1 ≤ ns.length ∧ ns.length ≤ 6 ^ k ∧ ns.length ≤ 400 ∧ (∀ z ∈ ns, z.length ≤ 1000) ∧ w.length ≤ 1000 ∧ ∀ (v : V) (H' : Hp), Same H H' → Dat H' v (allD w k ns) → Q v H'
section
variable {P : Program} {w : World} {K : PySem.W.Frag} {mg : Str → Option Value} {base : Heap}
theorem sc_all : FnScope ["_law_names_here", "_law_word", "_law_size", "_law_k"] ["_law_names_here", "_law_word"] (defScope s_all) := ⟨rfl, rfl, rfl, by decide +kernel, rfl, by decide +kernel, by decide +kernel⟩
theorem all_body {f : Addr} {fd : FuncData} {sp : Sp} (n : Nat) (F : Fun K "_law_all" "_law_all" s_all f fd) (bs : L2.Binds K fd ["_law_names_here", "_law_word"] []) (g : mg "_law_all" = some (.ref f)) (G : FnOk P w K mg base CX0 n f fd ["_law_names_here", "_law_word"] sp) (T : Nm mg)
    (hn : ∀ m, n = m + 1 → ∀ vs H Q E, spAll m vs H Q E → sp vs H Q E) : FnOk P w K mg base CX0 (n + 1) f fd ["_law_names_here", "_law_word"] (spAll n) := by
  refine F.ok sc_all (fun vs H Q E h => ?_) (fun cdv A outer s H vs Q E hr h => ?_)
  · obtain ⟨r, ns, w, rfl, _⟩ := h
    rfl
  · obtain ⟨r, ns, w, rfl, hx, l1, l6, l4, hz, hw, k⟩ := h
    refine ⟨_, (pss_cons (ps_if (pt_cmpR op_eq (pe_callB cr_lenS (by rfl) T.len PySem.boot_len (pa_cons (pv 0) pa_nil)) pe_int (nomark _))
        (pss_one (ps_ret (pe_tup (pa_cons pe_str (pa_cons (pe_ix ix_list (pv 0) pe_int (fun _ _ => rfl)) pa_nil)))))
        pss_nil)
      (pss_cons (ps_set (i := 2) sc_all.nd rfl (Or.inr rfl) (pe_op op_fdivNN (pe_op op_add (pe_callB cr_lenS (by rfl) T.len PySem.boot_len (pa_cons (pv 0) pa_nil)) pe_int) pe_int))
      (pss_one (ps_ret (pe_tup (pa_cons (pv 1) (pa_cons (pe_callTy call_tuple_of (by rfl) T.tuple (by decide +kernel) (pa_cons (pe_lc (own := [("_law_k", 3)]) (g := (gName 3)) (tt := tYes) (te := tCall sp [] E0 (tCons (fun σ H Q => tVar 0 σ H fun v H1 => tVar 3 σ H1 fun a H2 => ∃ i, a = .int i ∧ tOp (rI0 fun i j => .int (i + j)) (tVar 3) (tVar 2) σ H2 fun b H3 => ∃ j, b = .int j ∧ rSlL K v (some i) (some j) H3 Q) (tCons (tVar 1) tNil))) rfl sc_all.nd (pi_range3 rfl T.range (pa_cons pe_int (pa_cons (pe_callB cr_lenS (by rfl) T.len PySem.boot_len (pa_cons (pv 0) pa_nil)) (pa_cons (pv 2) pa_nil)))) (blkOk_by (N := ["_law_names_here", "_law_word", "_law_size", "_law_k"]) (sc := defScope s_all) (by decide +kernel))
          (fun _ _ _ _ _ => (pg_name (i := 3) sc_all.nd rfl (Or.inl rfl))) (fun _ _ _ _ _ => pts_nil) (fun _ _ _ _ _ => (pe_call G hr rfl g F.kp bs .nil pass0 (pa_cons (pe_slice sl_list (pv 0) (po_some (pv 3)) (po_some (pe_op op_add (pv 3) (pv 2)))) (pa_cons (pv 1) pa_nil))))) pa_nil)) pa_nil))))))), ?_⟩
    refine ⟨_, rfl, r, _, rfl, .inl (SqL.of hx), rfl, _, rfl, ?_⟩
    rw [List.length_map]
    by_cases e : ns.length = 1
    · refine if_t (decide_eq_true (by rw [e]; rfl)) ?_
      match ns, e, hz with
      | [a], _, hz =>
        refine ⟨_, rfl, r, _, _, _, rfl, rfl, SqL.of hx, rfl, (by show 2 ≤ sizeLine; decide), fun t nt => ?_⟩
        have ea : allD w n [a] = itemD [a] := by
          cases n with
          | zero => rfl
          | succ n => rfl
        exact k _ _ (same_new nt) (by rw [ea]; exact .tup upd_same (.cons (.str _ (by decide)) (.cons (.str _ (hz a (by simp))) .nil)))
    · have h2 : 2 ≤ ns.length := by omega
      refine if_f (decide_eq_false fun z => e (by have := V.int.inj z; omega)) ?_
      cases n with
      | zero =>
        have : ns.length ≤ 1 := l6
        omega
      | succ m =>
        obtain ⟨⟨s1, c2, c6, cl, ch⟩, r1, r2, r3, r4⟩ := ct_ok ⟨ns.length, by omega⟩ h2
        dsimp only at s1 c2 c6 cl ch r1 r2 r3 r4
        have e5 : (ns.length : Int) + 5 = ((ns.length + 5 : Nat) : Int) := by omega
        refine ⟨_, rfl, r, _, rfl, .inl (SqL.of hx), _, _, rfl, rfl, ns.length + 5, 6, by rw [List.length_map]; exact congrArg V.int e5, rfl, ⟨by decide, by decide⟩, ?_⟩
        have es : (ns.length + 5) / 6 = szP ns.length := rfl
        rw [es]
        refine ⟨_, rfl, _, rfl, r, _, rfl, .inl (SqL.of hx), _, rfl, 0, (ns.length : Int), ((szP ns.length : Nat) : Int), ctP ns.length, by rw [List.length_map], ⟨r1, r2, r3, r4⟩, fun D nD => ?_⟩
        refine lc_rangeC (lo := 0) (c := ((szP ns.length : Nat) : Int)) (n := ctP ns.length) (fun i Hx => ∃ ws : List V, Same H Hx ∧ Hx D = some (.lst ws) ∧ DatAll (noR D Hx) ws ((List.range i).map fun j => allD w m (piece ns (szP ns.length) j))) ⟨[], same_new nD, upd_same, .nil⟩ ?_ ?_
        · rintro i Hx hi ⟨ws, S, hD, dw⟩
          have lw := dw.len
          rw [List.length_map, List.length_range] at lw
          have ei : (0 : Int) + (i : Int) * ((szP ns.length : Nat) : Int) = ((i * szP ns.length : Nat) : Int) := by
            rw [Int.natCast_mul, Int.zero_add]
          rw [ei]
          refine ⟨rfl, ?_⟩
          have hpm : piece ns (szP ns.length) i ∈ pieces ns := List.mem_map_of_mem (List.mem_range.mpr hi)
          obtain ⟨q1, q2, q3⟩ := pieces_mem h2 l4 hpm
          have q6 := sz_pow6 l6
          have q4 : szP ns.length ≤ 400 := by
            unfold szP
            omega
          refine ⟨_, rfl, _, rfl, _, rfl, _, rfl, _, rfl, _, _, rfl, rfl, _, rfl, r, _, rfl, SqL.of (S _ _ hx), fun p np => ?_⟩
          have ecut : cutV (ns.map V.str) (some ((i * szP ns.length : Nat) : Int)) (some ((fun a b : Int => a + b) ((i * szP ns.length : Nat) : Int) ((szP ns.length : Nat) : Int))) = (piece ns (szP ns.length) i).map V.str := by
            rw [cutV_nat]
            unfold piece
            rw [List.map_take, List.map_drop]
          have Sp' := same_new (o := HO.lst (cutV (ns.map V.str) (some ((i * szP ns.length : Nat) : Int)) (some ((fun a b : Int => a + b) ((i * szP ns.length : Nat) : Int) ((szP ns.length : Nat) : Int))))) np
          have ep : upd Hx p (.lst (cutV (ns.map V.str) (some ((i * szP ns.length : Nat) : Int)) (some ((fun a b : Int => a + b) ((i * szP ns.length : Nat) : Int) ((szP ns.length : Nat) : Int))))) p = some (.lst ((piece ns (szP ns.length) i).map V.str)) := by
            rw [ecut]
            exact upd_same
          refine ⟨_, rfl, hn m rfl _ _ _ _ ⟨p, piece ns (szP ns.length) i, w, rfl, ep, q1, by omega, by omega, fun z hz' => hz z (q3 z hz'), hw, fun v H2 S2 d2 => ?_⟩⟩
          have T := Sp'.trans S2
          have hD2 := T _ _ hD
          have Sn : Same (noR D Hx) (noR D H2) := fun z o e => by
            have zl : z ≠ D := fun y => by
              rw [y] at e
              unfold noR at e
              rw [if_pos rfl] at e
              cases e
            exact noR_at (T _ _ (noR_sub _ _ e)) zl
          refine ⟨ws, hD2, by rw [lw, sizeLine_eq]; omega, ws ++ [v], fun z o e => ?_, upd_same, ?_⟩
          · have zl : z ≠ D := fun y => by
              rw [y, nD] at e
              cases e
            rw [upd_ne zl]
            exact T _ _ (S _ _ e)
          · rw [noR_upd, List.range_succ, List.map_append]
            exact datAll_append (dw.same Sn) (.cons (dat_noL hD2 (all_noL w m _) d2) .nil)
        · rintro Hx ⟨ws, S, hD, dw⟩
          refine ⟨D, ws, rfl, .inl ⟨SqL.of hD, fun t nt => ⟨(by show 2 ≤ sizeLine; decide), fun t2 nt2 => ?_⟩⟩⟩
          have S1 := same_new (o := HO.tup ws) nt
          have d1 : Dat (upd Hx t (.tup ws)) (.ref t) (.tuple ((pieces ns).map (allD w m))) := by
            refine .tup upd_same ?_
            unfold pieces
            rw [List.map_map]
            exact (dw.same noR_sub).same S1
          refine k _ _ ((S.trans S1).trans (same_new nt2)) ?_
          rw [allD, if_neg e]
          exact .tup upd_same (.cons (.str _ hw) (.cons (d1.same (same_new nt2)) .nil))
theorem okl_all {f : Addr} {fd : FuncData} (F : Fun K "_law_all" "_law_all" s_all f fd) (bs : L2.Binds K fd ["_law_names_here", "_law_word"] []) (g : mg "_law_all" = some (.ref f)) (T : Nm mg) : ∀ n : Nat, FnOk P w K mg base CX0 (n + 1) f fd ["_law_names_here", "_law_word"] (spAll n)
  | 0 => all_body (sp := fun _ _ _ _ => False) 0 F bs g fn_none T fun m e => by cases e
  | n + 1 => all_body (n + 1) F bs g (okl_all F bs g T n) T fun m e vs H Q E h => by
    obtain rfl : n = m := Nat.succ.inj e
    exact h
end
end K6
set_option maxRecDepth 100000
set_option maxHeartbeats 8000000
namespace K6
open PySem PySem.Spec PyProof.Rows L2
theorem dat_strs {H : Hp} : ∀ {ns : List Str} {xs : List V}, DatAll H xs (ns.map PyData.str) → xs = ns.map V.str
  | [], _, .nil => rfl
  | n :: ns, _, .cons a b => by
    rw [dat_strs b]
    cases a
    rfl
theorem strs_all (H : Hp) : ∀ ns : List Str, (∀ z ∈ ns, z.length ≤ 1000) → DatAll H (ns.map V.str) (ns.map PyData.str)
  | [], _ => .nil
  | n :: ns, h => .cons (.str n (h n (by simp))) (strs_all H ns fun z hz => h z (by simp [hz]))
section
variable {G : List (Nat × PyData)} {t u : TE}
theorem mk_lenL {K : PySem.W.Frag} {ds : List PyData} {n : Nat} (h : Mk G t (.list ds)) (e : ds.length = n) : Mk G (tCB (rLenS K) (tCons t tNil)) (.int ((n : Nat) : Int)) := fun σ H Q E q => h σ H _ E fun v H1 S1 d1 => by
  obtain ⟨a, xs, rfl, ha, hx⟩ := dat_lst d1
  have hl := hx.len
  subst e
  exact ⟨a, xs, rfl, .inl (SqL.of ha), by rw [hl]; exact q _ H1 S1 (.int _)⟩
theorem mk_all {ns : List Str} {w : Str} {k : Nat} (h : Mk G t (.list (ns.map PyData.str))) (h2 : Mk G u (.str w)) (l1 : 1 ≤ ns.length) (l6 : ns.length ≤ 6 ^ k) (l4 : ns.length ≤ 400) (hz : ∀ z ∈ ns, z.length ≤ 1000) (hw : w.length ≤ 1000) : Mk G (tCall (spAll k) [] E0 (tCons t (tCons u tNil))) (allD w k ns) := fun σ H Q E q =>
  h σ H _ E fun v H1 S1 d1 => h2 σ H1 _ (E.same S1) fun x H2 S2 d2 => by
    obtain ⟨a, xs, rfl, ha, hx⟩ := dat_lst (d1.same S2)
    rw [dat_strs hx] at ha
    cases d2
    exact ⟨a, ns, w, rfl, ha, l1, l6, l4, hz, hw, fun v H3 S3 d3 => q v H3 ((S1.trans S2).trans S3) d3⟩
end
abbrev s_arrangements_right : Stmt := top 40
section
variable {P : Program} {w : World} {K : PySem.W.Frag} {mg : Str → Option Value} {base : Heap}
theorem sc_arrangements_right : FnScope ["_law_deck_here", "_law_names_here", "_law_cut", "_law_chains", "_law_found", "_law_word"] ["_law_deck_here"] (defScope s_arrangements_right) := ⟨rfl, rfl, rfl, by decide +kernel, rfl, by decide +kernel, by decide +kernel⟩
theorem okl_arrangements_right {f fD fZ fF fB fN fA : Addr} {fd fdD fdZ fdF fdB fdN fdA : FuncData} (F : Fun K "_law_arrangements_right" "_law_arrangements_right" s_arrangements_right f fd) (T : Nm mg)  (D_draw : DefOk K mg "_law_draw" sDraw ["_law_deck_here", "_law_bound"] fD fdD) (D_size_of : DefOk K mg "size_of" sSizeOf ["space"] fZ fdZ) (D_factorial : DefOk K mg "_law_factorial" s_factorial ["_law_n"] fF fdF) (D_binomial : DefOk K mg "_law_binomial" s_binomial ["_law_n", "_law_k"] fB fdB) (D_names : DefOk K mg "_law_names" s_names ["_law_deck_here", "_law_many"] fN fdN) (D_all : DefOk K mg "_law_all" s_all ["_law_names_here", "_law_word"] fA fdA) (G_size_of : FnOk P w K mg base CX0 13 fZ fdZ ["space"] (spSzOf 2)) : FnOk P w K mg base CX0 14 f fd ["_law_deck_here"] spR := by
  have G_draw : FnOk P w K mg base CX0 1 fD fdD ["_law_deck_here", "_law_bound"] spDraw := ok_draw D_draw.F
  have G_factorial : FnOk P w K mg base CX0 1 fF fdF ["_law_n"] spFact := okl_factorial D_factorial.F T
  have G_binomial : FnOk P w K mg base CX0 2 fB fdB ["_law_n", "_law_k"] spBin := okl_binomial D_binomial.F T D_factorial
  have G_names : FnOk P w K mg base CX0 2 fN fdN ["_law_deck_here", "_law_many"] spNm := okl_names D_names.F T D_draw
  have G_all : FnOk P w K mg base CX0 5 fA fdA ["_law_names_here", "_law_word"] (spAll 4) := okl_all D_all.F D_all.b D_all.g T 4
  refine F.ok sc_arrangements_right (fun vs H Q E h => ?_) (fun cdv A outer s H vs Q E hr h => ?_)
  · obtain ⟨p, q, b, rfl, _⟩ := h
    rfl
  · obtain ⟨p, q, b, rfl, D, hb, k⟩ := h
    have hu0 := hr.units0
    have hu : (A.deeper (envOfC "_law_arrangements_right" (defScope s_arrangements_right) s.heap.objs.size f cdv)).units + 64 < cLine := by
      have := hr.un
      omega
    have hr1 : Room 1 _ := hr.mono (by decide)
    have hr2 : Room 2 _ := hr.mono (by decide)
    have hr5 : Room 5 _ := hr.mono (by decide)
    refine ⟨_, (pss_cons (ps_set (i := 1) sc_arrangements_right.nd rfl (Or.inr rfl) (pe_call G_names hr2 rfl D_names.g D_names.F.kp D_names.b .nil pass0 (pa_cons (pv 0) (pa_cons (pe_op op_add pe_int (pe_call G_draw hr1 rfl D_draw.g D_draw.F.kp D_draw.b .nil pass0 (pa_cons (pv 0) (pa_cons pe_int pa_nil)))) pa_nil))))
      (pss_cons (ps_set (i := 2) sc_arrangements_right.nd rfl (Or.inl rfl) (pe_op op_add pe_int (pe_call G_draw hr1 rfl D_draw.g D_draw.F.kp D_draw.b .nil pass0 (pa_cons (pv 0) (pa_cons (pe_op op_sub (pe_callB cr_lenS (by rfl) T.len PySem.boot_len (pa_cons (pv 1) pa_nil)) pe_int) pa_nil)))))
      (pss_cons (ps_set (i := 3) sc_arrangements_right.nd rfl (Or.inr rfl) (pe_tup (pa_cons (pe_call G_all hr5 rfl D_all.g D_all.F.kp D_all.b .nil pass0 (pa_cons (pe_slice sl_list (pv 1) po_none (po_some (pv 2))) (pa_cons pe_str pa_nil))) (pa_cons (pe_call G_all hr5 rfl D_all.g D_all.F.kp D_all.b .nil pass0 (pa_cons (pe_slice sl_list (pv 1) (po_some (pv 2)) po_none) (pa_cons pe_str pa_nil))) pa_nil))))
      (pss_cons (ps_setLc (i := 4) (own := [("_law_word", 5)]) (g := (gName 5)) (tt := tYes) (te := tCall (spSzOf 2) [] E0 (tCons (tTup (tCons (tC (.str "arrangement")) (tCons (tCall (spAll 4) [] E0 (tCons (tVar 1) (tCons (tVar 5) tNil))) tNil))) tNil)) rfl sc_arrangements_right.nd rfl rfl (sw_true rfl rfl rfl (by decide +kernel)) (pi_tup (pe_tup (pa_cons pe_str (pa_cons pe_str pa_nil)))) (blkOk_by (N := ["_law_deck_here", "_law_names_here", "_law_cut", "_law_chains", "_law_found", "_law_word"]) (sc := defScope s_arrangements_right) (by decide +kernel))
          (fun _ _ _ _ _ => (pg_name (i := 5) sc_arrangements_right.nd rfl (Or.inl rfl))) (fun _ _ _ _ _ => pts_nil) (fun _ _ _ _ _ => (pe_call G_size_of hr rfl D_size_of.g D_size_of.F.kp D_size_of.b .nil pass0 (pa_cons (pe_tup (pa_cons pe_str (pa_cons (pe_call G_all hr5 rfl D_all.g D_all.F.kp D_all.b .nil pass0 (pa_cons (pv 1) (pa_cons (pv 5) pa_nil))) pa_nil))) pa_nil))))
      (pss_cons (ps_set (i := 4) sc_arrangements_right.nd rfl (Or.inl rfl) (pe_op op_cat (pv 4) (pe_lc (own := [("_law_word", 5)]) (g := (gName 5)) (tt := tYes) (te := tCall (spSzOf 2) [] E0 (tCons (tTup (tCons (tC (.str "arrangement")) (tCons (tTup (tCons (tVar 5) (tCons (tVar 3) tNil))) tNil))) tNil)) rfl sc_arrangements_right.nd (pi_tup (pe_tup (pa_cons pe_str (pa_cons pe_str pa_nil)))) (blkOk_by (N := ["_law_deck_here", "_law_names_here", "_law_cut", "_law_chains", "_law_found", "_law_word"]) (sc := defScope s_arrangements_right) (by decide +kernel))
          (fun _ _ _ _ _ => (pg_name (i := 5) sc_arrangements_right.nd rfl (Or.inl rfl))) (fun _ _ _ _ _ => pts_nil) (fun _ _ _ _ _ => (pe_call G_size_of hr rfl D_size_of.g D_size_of.F.kp D_size_of.b .nil pass0 (pa_cons (pe_tup (pa_cons pe_str (pa_cons (pe_tup (pa_cons (pv 5) (pa_cons (pv 3) pa_nil))) pa_nil))) pa_nil))))))
      (pss_one (ps_ret (pe_cmpR (op_eqD hu) (pv 4) (pe_lst (pa_cons pe_int (pa_cons (pe_call G_factorial hr1 rfl D_factorial.g D_factorial.F.kp D_factorial.b .nil pass0 (pa_cons (pe_callB cr_lenS (by rfl) T.len PySem.boot_len (pa_cons (pv 1) pa_nil)) pa_nil)) (pa_cons pe_int (pa_cons (pe_call G_binomial hr2 rfl D_binomial.g D_binomial.F.kp D_binomial.b .nil pass0 (pa_cons (pe_callB cr_lenS (by rfl) T.len PySem.boot_len (pa_cons (pv 1) pa_nil)) (pa_cons (pv 2) pa_nil))) pa_nil))))) (nomark _))))))))), ?_⟩
    obtain ⟨ds0, m0, c0, D0, hc0⟩ := D
    refine ⟨_, rfl, _, rfl, p, q, ds0, m0, c0, 399, rfl, by decide, by decide, D0, by omega, fun x0 ds1 H1 x00 x01 O1 D1 => ?_⟩
    obtain ⟨x, rfl⟩ := nat_of x00
    have ex : (2 : Int) + (x : Int) = ((2 + x : Nat) : Int) := by omega
    have D1' : Dk H1 p q (b + 1) := ⟨_, _, _, D1, by omega⟩
    refine ⟨_, _, rfl, rfl, p, q, b + 1, 2 + x, congrArg (fun z => [V.ref p, V.int z]) ex, by omega, D1', by omega, fun r a H2 nr ha O2 D2 hr2 => ?_⟩
    generalize hm : 2 + x = m at hr2
    have m2 : 2 ≤ m := by omega
    have m4 : m ≤ 400 := by omega
    obtain ⟨rp, rq⟩ := D1'.new nr
    have lns : (nmsL a m).length = m := nms_len
    have hnm := nms_name ha m4
    have hnd := nms_nodup a m
    generalize hns : nmsL a m = ns at hr2 lns hnm hnd
    obtain ⟨ds2, mm2, c2, D2x, hc2⟩ := D2
    refine ⟨_, rfl, _, rfl, r, _, rfl, .inl (SqL.of hr2), _, _, rfl, rfl, p, q, ds2, mm2, c2, (((ns.map V.str).length : Nat) : Int) - 1, rfl, by rw [List.length_map]; omega, by rw [List.length_map]; omega, D2x, by omega, fun y0 ds3 H3 y00 y01 O3 D3 => ?_⟩
    obtain ⟨y, rfl⟩ := nat_of y00
    rw [List.length_map] at y01
    have ey : (1 : Int) + (y : Int) = ((1 + y : Nat) : Int) := by omega
    have hr3 := O3 _ _ hr2 rp rq
    have DD : Dk H3 p q (b + 100) := ⟨_, _, _, D3, by omega⟩
    refine ⟨_, _, rfl, rfl, ?_⟩
    generalize hcut : 1 + y = cut at ey
    have ct1 : 1 ≤ cut := by omega
    have ctm : cut < m := by omega
    have p6 : (400 : Nat) ≤ 6 ^ 4 := by decide
    -- the chains
    have l1 : (ns.take cut).length = cut := by
      rw [List.length_take]
      omega
    have l2 : (ns.drop cut).length = m - cut := by
      rw [List.length_drop, lns]
    refine ⟨_, rfl, _, rfl, _, rfl, r, _, rfl, SqL.of hr3, fun s1 ns1 => ?_⟩
    have ec1 : cutV (ns.map V.str) none (some ((1 : Int) + (y : Int))) = (ns.take cut).map V.str := by
      rw [ey, cutV_to, List.map_take]
    have ec2 : cutV (ns.map V.str) (some ((1 : Int) + (y : Int))) none = (ns.drop cut).map V.str := by
      rw [ey, cutV_from, List.map_drop]
    have Ss1 := same_new (o := HO.lst (cutV (ns.map V.str) none (some ((1 : Int) + (y : Int))))) ns1
    have es1 : upd H3 s1 (.lst (cutV (ns.map V.str) none (some ((1 : Int) + (y : Int))))) s1 = some (.lst ((ns.take cut).map V.str)) := by
      rw [ec1]
      exact upd_same
    refine ⟨s1, ns.take cut, "series", rfl, es1, by omega, by omega, by omega, fun z hz => (hnm z (List.mem_of_mem_take hz)).2, by decide, fun v1 H4 S4 d1 => ?_⟩
    have T4 := Ss1.trans S4
    refine ⟨_, rfl, _, rfl, _, rfl, r, _, rfl, SqL.of (T4 _ _ hr3), fun s2 ns2 => ?_⟩
    have Ss2 := same_new (o := HO.lst (cutV (ns.map V.str) (some ((1 : Int) + (y : Int))) none)) ns2
    have es2 : upd H4 s2 (.lst (cutV (ns.map V.str) (some ((1 : Int) + (y : Int))) none)) s2 = some (.lst ((ns.drop cut).map V.str)) := by
      rw [ec2]
      exact upd_same
    refine ⟨s2, ns.drop cut, "series", rfl, es2, by omega, by omega, by omega, fun z hz => (hnm z (List.mem_of_mem_drop hz)).2, by decide, fun v2 H5 S5 d2 => ⟨(by show 2 ≤ sizeLine; decide), fun tc ntc => ?_⟩⟩
    have T5 := Ss2.trans S5
    have S6 := same_new (o := HO.tup [v1, v2]) ntc
    have dch : Dat (upd H5 tc (.tup [v1, v2])) (.ref tc) (.tuple [allD "series" 4 (ns.take cut), allD "series" 4 (ns.drop cut)]) := .tup upd_same (.cons ((d1.same T5).same S6) (.cons (d2.same S6) .nil))
    have hr6 := S6 _ _ (T5 _ _ (T4 _ _ hr3))
    have D6 := ((DD.same T4).same T5).same S6
    generalize upd H5 tc (.tup [v1, v2]) = H6 at dch hr6 D6 ⊢
    clear d1 d2 es1 es2 Ss1 Ss2 T4 T5 S4 S5 S6
    -- both words
    refine ⟨(by show 2 ≤ sizeLine; decide), fun t1 nt1 => ?_⟩
    have St := same_new (o := HO.tup [V.str "series", .str "parallel"]) nt1
    have et : upd H6 t1 (.tup [V.str "series", .str "parallel"]) t1 = some (.tup [.str "series", .str "parallel"]) := upd_same
    have dch := dch.same St
    have hr6 := St _ _ hr6
    have D6 := D6.same St
    generalize upd H6 t1 (.tup [V.str "series", .str "parallel"]) = H7 at et dch hr6 D6 ⊢
    refine ⟨t1, rfl, ⟨_, SqT.of et⟩, fun L nL => lc_vals (K := K) (a := t1) (xs := [.str "series", .str "parallel"]) (fun i => if i = 0 then .int 1 else .int ((fac m : Nat) : Int)) et (by decide) nL (fun i z Hx hi S R hR => ?_) mono_name fun H8 S8 hL => ?_⟩
    · have key : ∀ (w : Str) (N : Nat), z = V.str w → (w = "series" ∨ w = "parallel") → oszN 6 (allD w 4 ns) = N → (∀ H', Same Hx H' → R (.int ((N : Nat) : Int)) H') → gName 5 z [some (.ref p), some (.ref r), some (.int ((1 : Int) + (y : Int))), some (.ref tc), none, none] Hx fun σ2 H2 => wipe σ2 [5] = wipe [some (.ref p), some (.ref r), some (.int ((1 : Int) + (y : Int))), some (.ref tc), none, none] [5] ∧ tCall (spSzOf 2) [] E0 (tCons (tTup (tCons (tC (.str "arrangement")) (tCons (tCall (spAll 4) [] E0 (tCons (tVar 1) (tCons (tVar 5) tNil))) tNil))) tNil) σ2 H2 R := by
        intro w N ez hw hN hR'
        subst ez
        have Ew : EnvOk [(5, .str w), (1, .list (ns.map PyData.str))] [some (.ref p), some (.ref r), some (.int ((1 : Int) + (y : Int))), some (.ref tc), none, some (.str w)] Hx := fun g hg => by
          rcases List.mem_cons.mp hg with rfl | hg
          · exact ⟨_, rfl, .str _ (by rcases hw with rfl | rfl <;> decide)⟩
          rcases List.mem_cons.mp hg with rfl | hg
          · exact ⟨_, rfl, .lst (S _ _ hr6) (strs_all _ _ fun z hz => (hnm z hz).2)⟩
          cases hg
        have wl : w.length ≤ 1000 := by rcases hw with rfl | rfl <;> decide
        have wi : (w == "item") = false := by rcases hw with rfl | rfl <;> decide
        have M : Mk [(5, .str w), (1, .list (ns.map PyData.str))] (tCall (spSzOf 2) [] E0 (tCons (tTup (tCons (tC (.str "arrangement")) (tCons (tCall (spAll 4) [] E0 (tCons (tVar 1) (tCons (tVar 5) tNil))) tNil))) tNil)) (.int ((N : Nat) : Int)) :=
          mk_sz (mk_tup (mks_cons (mk_str (by decide)) (mks_cons (mk_all (mk_var (.tail _ (.head _))) (mk_var (.head _)) (by omega) (by omega) (by omega) (fun z hz => (hnm z hz).2) wl) mks_nil)) (by show 2 ≤ 1000; decide)) fun v H Q hd k => sz_arr (all_order hw 4 6 ns (by decide) (by omega) (by omega) (by omega) fun x hx => (hnm x hx).1) (all_names wi 4 6 ns (by decide) (by omega) (by omega) (by omega)) (by omega) hnd hN hd k
        exact ⟨rfl, M _ _ _ Ew fun v H' S' d' => by
          rw [dat_isInt d']
          exact hR' H' S'⟩
      match i, hi with
      | 0, hi => exact key "series" 1 (Option.some.inj hi).symm (.inl rfl) (all_series 4 6 ns (by decide) (by omega) (by omega) (by omega)) hR
      | 1, hi => exact key "parallel" (fac m) (Option.some.inj hi).symm (.inr rfl) (by rw [all_parallel 4 6 ns (by decide) (by omega) (by omega) (by omega), lns]) hR
      | i + 2, hi => simp at hi
    · have hL : H8 L = some (.lst [.int 1, .int ((fac m : Nat) : Int)]) := hL
      have dch := dch.same S8
      have hr8 := S8 _ _ hr6
      have D8 := D6.same S8
      refine ⟨_, rfl, (by show 2 ≤ sizeLine; decide), fun t2 nt2 => ?_⟩
      have St2 := same_new (o := HO.tup [V.str "series", .str "parallel"]) nt2
      have et2 : upd H8 t2 (.tup [V.str "series", .str "parallel"]) t2 = some (.tup [.str "series", .str "parallel"]) := upd_same
      have dch := dch.same St2
      have hr9 := St2 _ _ hr8
      have D9 := D8.same St2
      have hL9 := St2 _ _ hL
      generalize upd H8 t2 (.tup [V.str "series", .str "parallel"]) = H9 at et2 dch hr9 D9 hL9 ⊢
      have i1 : ∀ x ∈ ns.take cut, nameB (.str x) = true := fun x hx => (hnm x (List.mem_of_mem_take hx)).1
      have i2 : ∀ x ∈ ns.drop cut, nameB (.str x) = true := fun x hx => (hnm x (List.mem_of_mem_drop hx)).1
      refine ⟨t2, rfl, ⟨_, SqT.of et2⟩, fun L2 nL2 => lc_vals (K := K) (a := t2) (xs := [.str "series", .str "parallel"]) (fun i => if i = 0 then .int 1 else .int ((chN m cut : Nat) : Int)) et2 (by decide) nL2 (fun i z Hx hi S R hR => ?_) mono_name fun HA SA hLA => ?_⟩
      · have key : ∀ (w : Str) (N : Nat), z = V.str w → (w = "series" ∨ w = "parallel") → (if w = "parallel" then chN m cut else 1) = N → (∀ H', Same Hx H' → R (.int ((N : Nat) : Int)) H') → gName 5 z [some (.ref p), some (.ref r), some (.int ((1 : Int) + (y : Int))), some (.ref tc), some (.ref L), none] Hx fun σ2 H2 => wipe σ2 [5] = wipe [some (.ref p), some (.ref r), some (.int ((1 : Int) + (y : Int))), some (.ref tc), some (.ref L), none] [5] ∧ tCall (spSzOf 2) [] E0 (tCons (tTup (tCons (tC (.str "arrangement")) (tCons (tTup (tCons (tVar 5) (tCons (tVar 3) tNil))) tNil))) tNil) σ2 H2 R := by
          intro w N ez hw hN hR'
          subst ez
          have Ew : EnvOk [(5, .str w), (3, .tuple [allD "series" 4 (ns.take cut), allD "series" 4 (ns.drop cut)])] [some (.ref p), some (.ref r), some (.int ((1 : Int) + (y : Int))), some (.ref tc), some (.ref L), some (.str w)] Hx := fun g hg => by
            rcases List.mem_cons.mp hg with rfl | hg
            · exact ⟨_, rfl, .str _ (by rcases hw with rfl | rfl <;> decide)⟩
            rcases List.mem_cons.mp hg with rfl | hg
            · exact ⟨_, rfl, dch.same S⟩
            cases hg
          obtain ⟨q1, q2, q3⟩ := two_chains hw (n1 := ns.take cut) (n2 := ns.drop cut) (by omega) (by omega) (by omega) i1 i2
          rw [List.take_append_drop] at q2
          rw [l1, l2, show cut + (m - cut) = m by omega, hN] at q3
          have M : Mk [(5, .str w), (3, .tuple [allD "series" 4 (ns.take cut), allD "series" 4 (ns.drop cut)])] (tCall (spSzOf 2) [] E0 (tCons (tTup (tCons (tC (.str "arrangement")) (tCons (tTup (tCons (tVar 5) (tCons (tVar 3) tNil))) tNil))) tNil)) (.int ((N : Nat) : Int)) :=
            mk_sz (mk_tup (mks_cons (mk_str (by decide)) (mks_cons (mk_tup (mks_cons (mk_var (.head _)) (mks_cons (mk_var (.tail _ (.head _))) mks_nil)) (by show 2 ≤ 1000; decide)) mks_nil)) (by show 2 ≤ 1000; decide)) fun v H Q hd k => sz_arr q1 q2 (by omega) hnd q3 hd k
          exact ⟨rfl, M _ _ _ Ew fun v H' S' d' => by
            rw [dat_isInt d']
            exact hR' H' S'⟩
        match i, hi with
        | 0, hi => exact key "series" 1 (Option.some.inj hi).symm (.inl rfl) rfl hR
        | 1, hi => exact key "parallel" (chN m cut) (Option.some.inj hi).symm (.inr rfl) rfl hR
        | i + 2, hi => simp at hi
      · have hLA : HA L2 = some (.lst [.int 1, .int ((chN m cut : Nat) : Int)]) := hLA
        refine ⟨L, L2, _, _, rfl, rfl, SA _ _ hL9, hLA, (by show 2 + 2 ≤ sizeLine; decide), fun f1 nf1 => ?_⟩
        have Sf := same_new (o := HO.lst ([V.int 1, .int ((fac m : Nat) : Int)] ++ [.int 1, .int ((chN m cut : Nat) : Int)])) nf1
        have ef : upd HA f1 (.lst ([V.int 1, .int ((fac m : Nat) : Int)] ++ [.int 1, .int ((chN m cut : Nat) : Int)])) f1 = some (.lst (([1, ((fac m : Nat) : Int), 1, ((chN m cut : Nat) : Int)] : List Int).map V.int)) := upd_same
        have hrB := Sf _ _ (SA _ _ hr9)
        have DB := (D9.same SA).same Sf
        generalize upd HA f1 (.lst ([V.int 1, .int ((fac m : Nat) : Int)] ++ [.int 1, .int ((chN m cut : Nat) : Int)])) = HB at ef hrB DB ⊢
        have EB : EnvOk [(4, .list (([1, ((fac m : Nat) : Int), 1, ((chN m cut : Nat) : Int)] : List Int).map PyData.int)), (2, .int ((cut : Nat) : Int)), (1, .list (ns.map PyData.str))] [some (.ref p), some (.ref r), some (.int ((1 : Int) + (y : Int))), some (.ref tc), some (.ref f1), none] HB := fun g hg => by
          rcases List.mem_cons.mp hg with rfl | hg
          · exact ⟨_, rfl, .lst ef (ints_all _ _)⟩
          rcases List.mem_cons.mp hg with rfl | hg
          · exact ⟨_, rfl, dat_int' ey⟩
          rcases List.mem_cons.mp hg with rfl | hg
          · exact ⟨_, rfl, .lst hrB (strs_all _ _ fun z hz => (hnm z hz).2)⟩
          cases hg
        have len1 : ∀ {G : List (Nat × PyData)}, (1, PyData.list (ns.map PyData.str)) ∈ G → Mk G (tCB (rLenS K) (tCons (tVar 1) tNil)) (.int ((m : Nat) : Int)) := fun h => mk_lenL (mk_var h) (by rw [List.length_map, lns])
        refine rt_mk (d := .bool true) (mk_eqL (ns := [1, ((fac m : Nat) : Int), 1, ((chN m cut : Nat) : Int)]) (mk_var (.head _)) (mk_lst (mks_cons mk_int (mks_cons (mk_fact (len1 (.tail _ (.tail _ (.head _)))) m4) (mks_cons mk_int (mks_cons (mk_bin (len1 (.tail _ (.tail _ (.head _)))) (mk_var (.tail _ (.head _))) (by omega) m4) mks_nil)))) (by show 4 ≤ 1000; decide))) EB fun v HC SC dC => ?_
        rw [dat_bl dC]
        exact k _ (DB.same SC)
end
end K6
set_option maxRecDepth 100000
set_option maxHeartbeats 8000000
namespace K6
open PySem PySem.Spec PyProof.Rows L2
/-! ### the law -/
abbrev s_law : Stmt := top 46
def spLaw (K : PySem.W.Frag) : Sp := fun vs H Q _ => ∃ (a : Addr) (ns : List Int), vs = [.ref a] ∧ SqL K H a (ns.map V.int) ∧ ns.length ≤ 63 ∧ ∀ H', Q (.bl true) H'
section
variable {P : Program} {w : World} {K : PySem.W.Frag} {mg : Str → Option Value} {base : Heap}
theorem sc_law : FnScope ["_law_script", "_law_deck_here", "_law_turn"] ["_law_script"] (defScope s_law) := ⟨rfl, rfl, rfl, by decide +kernel, rfl, by decide +kernel, by decide +kernel⟩
theorem ok_law {f fK f0 f1 f2 f3 f4 f5 f6 f7 : Addr} {fd fdK d0 d1 d2 d3 d4 d5 d6 d7 : FuncData} (F : Fun K "law" "law" s_law f fd) (T : Nm mg) (Tl : mg "list" = none) (D_deck : DefOk K mg "_law_deck" sDeck ["_law_script"] fK fdK)
    (D_subsets_right : DefOk K mg "_law_subsets_right" s_subsets_right ["_law_deck_here"] f0 d0) (G_subsets_right : FnOk P w K mg base CX0 14 f0 d0 ["_law_deck_here"] spR)
    (D_words_right : DefOk K mg "_law_words_right" s_words_right ["_law_deck_here"] f1 d1) (G_words_right : FnOk P w K mg base CX0 14 f1 d1 ["_law_deck_here"] spR)
    (D_arrangements_right : DefOk K mg "_law_arrangements_right" s_arrangements_right ["_law_deck_here"] f2 d2) (G_arrangements_right : FnOk P w K mg base CX0 14 f2 d2 ["_law_deck_here"] spR)
    (D_walks_right : DefOk K mg "_law_walks_right" s_walks_right ["_law_deck_here"] f3 d3) (G_walks_right : FnOk P w K mg base CX0 14 f3 d3 ["_law_deck_here"] spR)
    (D_seats_right : DefOk K mg "_law_seats_right" s_seats_right ["_law_deck_here"] f4 d4) (G_seats_right : FnOk P w K mg base CX0 14 f4 d4 ["_law_deck_here"] spR)
    (D_permutations_right : DefOk K mg "_law_permutations_right" s_permutations_right ["_law_deck_here"] f5 d5) (G_permutations_right : FnOk P w K mg base CX0 14 f5 d5 ["_law_deck_here"] spR)
    (D_strings_right : DefOk K mg "_law_strings_right" s_strings_right ["_law_deck_here"] f6 d6) (G_strings_right : FnOk P w K mg base CX0 14 f6 d6 ["_law_deck_here"] spR)
    (D_nested_right : DefOk K mg "_law_nested_right" s_nested_right ["_law_deck_here"] f7 d7) (G_nested_right : FnOk P w K mg base CX0 14 f7 d7 ["_law_deck_here"] spR)
    : FnG P w K mg base 15 f fd ["_law_script"] (spLaw K) := by
  have G_deck : FnOk P w K mg base CX0 1 fK fdK ["_law_script"] (spDeck K) := ok_deck D_deck.F T Tl
  refine F.okG sc_law (fun vs H Q E h => ?_) (fun cdv A outer s H vs Q E hg hr h => ?_)
  · obtain ⟨a, ns, rfl, _⟩ := h
    rfl
  · obtain ⟨a, ns0, rfl, hS, hlen, fin⟩ := h
    have hr1 : Room 1 _ := hr.mono (by decide)
    refine ⟨_, (pss_cons (ps_set (i := 1) sc_law.nd rfl (Or.inl rfl) (pe_call G_deck hr1 rfl D_deck.g D_deck.F.kp D_deck.b .nil pass0 (pa_cons (pv 0) pa_nil)))
      (pss_cons (ps_for PassesOwn.never rfl (pi_range1 rfl T.range (pa_cons pe_int pa_nil)) (pg_name (i := 2) sc_law.nd rfl (Or.inl rfl))
        (pss_cons (ps_if (PW.pt (pw_or (pt_not (pt_val (pe_call G_subsets_right hr rfl D_subsets_right.g D_subsets_right.F.kp D_subsets_right.b .nil pass0 (pa_cons (pv 1) pa_nil)))) (pw_or (pt_not (pt_val (pe_call G_words_right hr rfl D_words_right.g D_words_right.F.kp D_words_right.b .nil pass0 (pa_cons (pv 1) pa_nil)))) (pw_or1 (pt_not (pt_val (pe_call G_arrangements_right hr rfl D_arrangements_right.g D_arrangements_right.F.kp D_arrangements_right.b .nil pass0 (pa_cons (pv 1) pa_nil)))))))) (pss_one (ps_ret pe_bl)) pss_nil)
        (pss_cons (ps_if (PW.pt (pw_or (pt_not (pt_val (pe_call G_walks_right hr rfl D_walks_right.g D_walks_right.F.kp D_walks_right.b .nil pass0 (pa_cons (pv 1) pa_nil)))) (pw_or (pt_not (pt_val (pe_call G_seats_right hr rfl D_seats_right.g D_seats_right.F.kp D_seats_right.b .nil pass0 (pa_cons (pv 1) pa_nil)))) (pw_or1 (pt_not (pt_val (pe_call G_permutations_right hr rfl D_permutations_right.g D_permutations_right.F.kp D_permutations_right.b .nil pass0 (pa_cons (pv 1) pa_nil)))))))) (pss_one (ps_ret pe_bl)) pss_nil)
        (pss_one (ps_if (PW.pt (pw_or (pt_not (pt_val (pe_call G_strings_right hr rfl D_strings_right.g D_strings_right.F.kp D_strings_right.b .nil pass0 (pa_cons (pv 1) pa_nil)))) (pw_or1 (pt_not (pt_val (pe_call G_nested_right hr rfl D_nested_right.g D_nested_right.F.kp D_nested_right.b .nil pass0 (pa_cons (pv 1) pa_nil))))))) (pss_one (ps_ret pe_bl)) pss_nil)))))
      (pss_one (ps_ret pe_bl)))), ?_⟩
    refine ⟨_, rfl, a, ns0, rfl, hS, hlen, fun p q ms m H1 s1 np nq D1 => ?_⟩
    have K1 : Dk H1 p q 0 := ⟨ms, m, 0, D1, by decide⟩
    refine ⟨3, rfl, by decide, by decide, for_range (n := 3) (fun i σ Hx => ∃ (x2 : Option V), σ = [some (.ref a), some (.ref p), x2] ∧ Dk Hx p q (800 * i)) ⟨none, rfl, K1⟩ ?_ ?_⟩
    · rintro i σ Hx hi ⟨x2, rfl, K0⟩
      refine ⟨_, rfl, p, q, 800 * i + 0, rfl, K0, by omega, fun H2 K1 => ⟨_, rfl, if_f rfl ?_⟩⟩
      refine ⟨_, rfl, p, q, 800 * i + 100, rfl, K1, by omega, fun H3 K2 => ⟨_, rfl, if_f rfl ?_⟩⟩
      refine ⟨_, rfl, p, q, 800 * i + 200, rfl, K2, by omega, fun H4 K3 => ⟨_, rfl, if_f rfl ?_⟩⟩
      refine ⟨_, rfl, p, q, 800 * i + 300, rfl, K3, by omega, fun H5 K4 => ⟨_, rfl, if_f rfl ?_⟩⟩
      refine ⟨_, rfl, p, q, 800 * i + 400, rfl, K4, by omega, fun H6 K5 => ⟨_, rfl, if_f rfl ?_⟩⟩
      refine ⟨_, rfl, p, q, 800 * i + 500, rfl, K5, by omega, fun H7 K6 => ⟨_, rfl, if_f rfl ?_⟩⟩
      refine ⟨_, rfl, p, q, 800 * i + 600, rfl, K6, by omega, fun H8 K7 => ⟨_, rfl, if_f rfl ?_⟩⟩
      refine ⟨_, rfl, p, q, 800 * i + 700, rfl, K7, by omega, fun H9 K8 => ⟨_, rfl, if_f rfl ?_⟩⟩
      exact ⟨_, rfl, K8⟩
    · rintro σ Hx ⟨x2, rfl, K0⟩
      exact fin _
end
end K6
set_option maxRecDepth 100000
set_option maxHeartbeats 8000000
namespace K6
open PySem PySem.Spec PyProof.Rows L2
/-! ### everything put together -/
section
variable {P : Program} {w : World} {K : PySem.W.Frag} {mg : Str → Option Value}
theorem size_mk {f_subsize f_wordsize f_arrsize f_walksize f_cycsize f_matsize f_permsize f_treesize f_strsize f_raise f_multi f_moved f_names f_osize f_step f_moveon f_countstr f_nested f_repeat f_sizeof : Addr} {d_subsize d_wordsize d_arrsize d_walksize d_cycsize d_matsize d_permsize d_treesize d_strsize d_raise d_multi d_moved d_names d_osize d_step d_moveon d_countstr d_nested d_repeat d_sizeof : FuncData} {fJ : Addr} {dJ : FuncData} {dS : Addr} (nm : Nm mg) (zl : mg "list" = none) (zm : mg "max" = none) (c1 : mg "comb" = some (.builtin "math.comb")) (c2 : mg "factorial" = some (.builtin "math.factorial"))
    (o_subsize : DefOk K mg "subset_size" sSubSize ["space"] f_subsize d_subsize) (o_wordsize : DefOk K mg "word_size" sWordSize ["space"] f_wordsize d_wordsize) (o_arrsize : DefOk K mg "arrangement_size" sArrSize ["space"] f_arrsize d_arrsize) (o_walksize : DefOk K mg "walk_size" sWalkSize ["space"] f_walksize d_walksize) (o_cycsize : DefOk K mg "cycle_size" sCycSize ["space"] f_cycsize d_cycsize) (o_matsize : DefOk K mg "matching_size" sMatSize ["space"] f_matsize d_matsize) (o_permsize : DefOk K mg "permutation_size" sPermSize ["space"] f_permsize d_permsize) (o_treesize : DefOk K mg "tree_size" sTreeSize ["space"] f_treesize d_treesize) (o_strsize : DefOk K mg "string_size" sStrSize ["space"] f_strsize d_strsize) (o_raise : DefOk K mg "raise_to" sRaise ["base", "exponent"] f_raise d_raise) (o_multi : DefOk K mg "multinomial" sMulti ["counts"] f_multi d_multi) (o_moved : DefOk K mg "count_moved" sMoved ["n", "moved"] f_moved d_moved) (o_names : DefOk K mg "names_of" sNames ["order"] f_names d_names) (o_osize : DefOk K mg "order_size" sOSize ["order"] f_osize d_osize) (o_step : DefOk K mg "step_on" sStep ["ways", "low", "high"] f_step d_step) (o_moveon : DefOk K mg "move_on" sMoveOn ["moves", "ways"] f_moveon d_moveon) (o_countstr : DefOk K mg "count_strings" sCountStr ["automaton", "n"] f_countstr d_countstr) (o_nested : DefOk K mg "nested_spaces" sNested ["space"] f_nested d_nested) (o_repeat : DefOk K mg "repeated" sRepeat ["counts", "items"] f_repeat d_repeat) (o_sizeof : DefOk K mg "size_of" sSizeOf ["space"] f_sizeof d_sizeof)
    (J : FunD K "joined_size" "joined_size" (defArgs sJSize) (defBody sJSize) (defScope sJSize) [.non] [] fJ dJ) (gJ : mg "joined_size" = some (.ref fJ)) (U : MulOk P w K mg default) (b2 : L2.Binds K U.fd ["factors", "bound"] [])
    (g : mg "LEAF_SIZES" = some (.ref dS)) (k : ∃ es n, KDict K w dS es n) (nd : ((szs f_subsize f_wordsize f_arrsize f_walksize f_cycsize f_matsize f_permsize f_treesize f_strsize).map (·.1)).Nodup) (h0 : PySem.W.nsIn K dS "subset" = some (some (.ref f_subsize))) (h1 : PySem.W.nsIn K dS "word" = some (some (.ref f_wordsize))) (h2 : PySem.W.nsIn K dS "arrangement" = some (some (.ref f_arrsize))) (h3 : PySem.W.nsIn K dS "walk" = some (some (.ref f_walksize))) (h4 : PySem.W.nsIn K dS "cycle" = some (some (.ref f_cycsize))) (h5 : PySem.W.nsIn K dS "matching" = some (some (.ref f_matsize))) (h6 : PySem.W.nsIn K dS "permutation" = some (some (.ref f_permsize))) (h7 : PySem.W.nsIn K dS "tree" = some (some (.ref f_treesize))) (h8 : PySem.W.nsIn K dS "string" = some (some (.ref f_strsize)))
    (bJ2 : L2.Binds K dJ ["space", "sizes", "bound"] [Value.none]) (base : Heap) : FnOk P w K mg base CX0 13 f_sizeof d_sizeof ["space"] (spSzOf 2) := by
  have U' : MulOk P w K mg base := ⟨U.f, U.fd, U.F, U.b, U.g⟩
  have GU : FnOk P w K mg base CX0 1 U.f U.fd ["factors", "bound"] spMul := ok_mul U.F
  have GO : FnOk P w K mg base CX0 8 f_osize d_osize ["order"] (spOSize 6) := ok_osize o_osize.F o_osize.b o_osize.g nm o_names U' o_multi c1 6
  have H1 : FnOk P w K mg base CX0 9 f_subsize d_subsize ["space"] _ := (ok_subsize o_subsize.F c1).mono (by decide)
  have H2 : FnOk P w K mg base CX0 9 f_wordsize d_wordsize ["space"] _ := (ok_wordsize o_wordsize.F o_multi c1).mono (by decide)
  have H3 : FnOk P w K mg base CX0 9 f_arrsize d_arrsize ["space"] _ := ok_arrsize o_arrsize.F o_osize GO
  have H4 : FnOk P w K mg base CX0 9 f_walksize d_walksize ["space"] _ := (ok_walksize o_walksize.F nm o_step).mono (by decide)
  have H5 : FnOk P w K mg base CX0 9 f_cycsize d_cycsize ["space"] _ := (ok_cycsize o_cycsize.F c2).mono (by decide)
  have H6 : FnOk P w K mg base CX0 9 f_matsize d_matsize ["space"] _ := (ok_matsize o_matsize.F nm zl U.F.kp U.b U.g GU).mono (by decide)
  have H7 : FnOk P w K mg base CX0 9 f_permsize d_permsize ["space"] _ := (ok_permsize o_permsize.F nm o_moved c1 c2).mono (by decide)
  have H8 : FnOk P w K mg base CX0 9 f_treesize d_treesize ["space"] _ := (ok_treesize o_treesize.F zm o_raise).mono (by decide)
  have H9 : FnOk P w K mg base CX0 9 f_strsize d_strsize ["space"] _ := (ok_strsize o_strsize.F o_countstr (ok_countstr o_countstr.F nm o_moveon)).mono (by decide)
  have held : ∀ q ∈ szs f_subsize f_wordsize f_arrsize f_walksize f_cycsize f_matsize f_permsize f_treesize f_strsize, Held P w K mg base 9 q.1 q.2 := by
    intro q hq
    unfold szs at hq
    rcases List.mem_cons.mp hq with rfl | hq
    · exact ⟨_, _, H1, o_subsize.F.kp, o_subsize.b⟩
    rcases List.mem_cons.mp hq with rfl | hq
    · exact ⟨_, _, H2, o_wordsize.F.kp, o_wordsize.b⟩
    rcases List.mem_cons.mp hq with rfl | hq
    · exact ⟨_, _, H3, o_arrsize.F.kp, o_arrsize.b⟩
    rcases List.mem_cons.mp hq with rfl | hq
    · exact ⟨_, _, H4, o_walksize.F.kp, o_walksize.b⟩
    rcases List.mem_cons.mp hq with rfl | hq
    · exact ⟨_, _, H5, o_cycsize.F.kp, o_cycsize.b⟩
    rcases List.mem_cons.mp hq with rfl | hq
    · exact ⟨_, _, H6, o_matsize.F.kp, o_matsize.b⟩
    rcases List.mem_cons.mp hq with rfl | hq
    · exact ⟨_, _, H7, o_permsize.F.kp, o_permsize.b⟩
    rcases List.mem_cons.mp hq with rfl | hq
    · exact ⟨_, _, H8, o_treesize.F.kp, o_treesize.b⟩
    rcases List.mem_cons.mp hq with rfl | hq
    · exact ⟨_, _, H9, o_strsize.F.kp, o_strsize.b⟩
    cases hq
  have GJ0 := ok_jsize0 J nm (sizes_mk g k nd held h0 h1 h2 h3 h4 h5 h6 h7 h8) ⟨U.f, U.fd, U.F, U.b, U.g⟩ b2 o_repeat o_wordsize o_multi c1
  exact ok_sizeof o_sizeof.F o_sizeof.b o_sizeof.g o_nested J bJ2 gJ GJ0 2
theorem law_mk {f_ldeck f_ldraw f_lpower f_lfact f_lbin f_lall f_lnames f_rsub f_rword f_rarr f_rwalk f_rseat f_rperm f_rstr f_rnest f_llaw f_sizeof : Addr} {d_ldeck d_ldraw d_lpower d_lfact d_lbin d_lall d_lnames d_rsub d_rword d_rarr d_rwalk d_rseat d_rperm d_rstr d_rnest d_llaw d_sizeof : FuncData} (nm : Nm mg) (zl : mg "list" = none) (zn : mg "min" = none)
    (o_ldeck : DefOk K mg "_law_deck" sDeck ["_law_script"] f_ldeck d_ldeck) (o_ldraw : DefOk K mg "_law_draw" sDraw ["_law_deck_here", "_law_bound"] f_ldraw d_ldraw) (o_lpower : DefOk K mg "_law_power" s_power ["_law_base", "_law_exponent"] f_lpower d_lpower) (o_lfact : DefOk K mg "_law_factorial" s_factorial ["_law_n"] f_lfact d_lfact) (o_lbin : DefOk K mg "_law_binomial" s_binomial ["_law_n", "_law_k"] f_lbin d_lbin) (o_lall : DefOk K mg "_law_all" s_all ["_law_names_here", "_law_word"] f_lall d_lall) (o_lnames : DefOk K mg "_law_names" s_names ["_law_deck_here", "_law_many"] f_lnames d_lnames) (o_rsub : DefOk K mg "_law_subsets_right" s_subsets_right ["_law_deck_here"] f_rsub d_rsub) (o_rword : DefOk K mg "_law_words_right" s_words_right ["_law_deck_here"] f_rword d_rword) (o_rarr : DefOk K mg "_law_arrangements_right" s_arrangements_right ["_law_deck_here"] f_rarr d_rarr) (o_rwalk : DefOk K mg "_law_walks_right" s_walks_right ["_law_deck_here"] f_rwalk d_rwalk) (o_rseat : DefOk K mg "_law_seats_right" s_seats_right ["_law_deck_here"] f_rseat d_rseat) (o_rperm : DefOk K mg "_law_permutations_right" s_permutations_right ["_law_deck_here"] f_rperm d_rperm) (o_rstr : DefOk K mg "_law_strings_right" s_strings_right ["_law_deck_here"] f_rstr d_rstr) (o_rnest : DefOk K mg "_law_nested_right" s_nested_right ["_law_deck_here"] f_rnest d_rnest) (o_llaw : DefOk K mg "law" s_law ["_law_script"] f_llaw d_llaw) (o_sizeof : DefOk K mg "size_of" sSizeOf ["space"] f_sizeof d_sizeof)
    (G_sizeof : ∀ base : Heap, FnOk P w K mg base CX0 13 f_sizeof d_sizeof ["space"] (spSzOf 2)) (base : Heap) : FnG P w K mg base 15 f_llaw d_llaw ["_law_script"] (spLaw K) :=
  ok_law o_llaw.F nm zl o_ldeck o_rsub (okl_subsets_right o_rsub.F nm o_ldraw o_sizeof o_lfact o_lbin (G_sizeof base)) o_rword (okl_words_right o_rword.F nm o_ldraw o_sizeof o_lfact (G_sizeof base))
    o_rarr (okl_arrangements_right o_rarr.F nm o_ldraw o_sizeof o_lfact o_lbin o_lnames o_lall (G_sizeof base)) o_rwalk (okl_walks_right o_rwalk.F nm zn o_ldraw o_sizeof o_lfact o_lbin (G_sizeof base))
    o_rseat (okl_seats_right o_rseat.F nm o_ldraw o_sizeof o_lfact o_lpower (G_sizeof base)) o_rperm (okl_permutations_right o_rperm.F nm o_ldraw o_sizeof o_lfact (G_sizeof base))
    o_rstr (okl_strings_right o_rstr.F nm o_ldraw o_sizeof o_lpower (G_sizeof base)) o_rnest (okl_nested_right o_rnest.F nm o_ldraw o_sizeof o_lfact o_lpower (G_sizeof base))
end
theorem funD_mk {K : PySem.W.Frag} {x qual : Str} {params : Arguments} {body : List Stmt} {scope : Scope} {dvs : List V} {f T : Addr} {oc : Value} {od an : Option Addr} {osl : Array (Option Value)} {kV doc pm cdv ct : Value} {o : Obj} {its : List Value} {n : Nat}
    (l : K.lookup f = some ⟨oc, od, .func (PySem.W.fnOf x qual params body scope (.ref T) kV doc pm an cdv ct), osl⟩) (c : PySem.W.codeIn K cdv qual = true) (k : PySem.W.keepIn K (.ref f) = true) (t : K.lookup T = some o) (d : o.data = .seq its.toArray n) (r : Vals dvs its) (ne : dvs ≠ []) :
    FunD K x qual params body scope dvs [] f (PySem.W.fnOf x qual params body scope (.ref T) kV doc pm an cdv ct) := ⟨⟨oc, od, .ref T, kV, doc, pm, an, cdv, ct, osl, rfl, l, c, .inr ⟨ne, T, o, its, n, rfl, t, d, r⟩, .inl rfl⟩, k⟩
theorem mul_binds {K : PySem.W.Frag} {f : Addr} {fd : FuncData} (F : FunD K "multiply" "multiply" (defArgs sMul) (defBody sMul) (defScope sMul) [.non] [] f fd) : L2.Binds K fd ["factors", "bound"] [Value.none] := by
  obtain ⟨ds, v, b⟩ := F.binds1 (ps := ["factors", "bound"]) 1 0 (by simp) rfl fun T kV doc pm an cdv ct us its h1 h2 => match us, its, h1, h2 with
    | [_], [_], _, _ => ⟨_, rfl, rfl⟩
  have v' : Vals [V.non] ds := v
  cases v' with
  | cons r rs =>
    cases rs
    obtain rfl : _ = Value.none := r
    exact b
theorem mul_binds2 {K : PySem.W.Frag} {f : Addr} {fd : FuncData} (F : FunD K "multiply" "multiply" (defArgs sMul) (defBody sMul) (defScope sMul) [.non] [] f fd) : L2.Binds K fd ["factors", "bound"] [] := by
  obtain ⟨ds, v, b⟩ := F.binds1 (ps := ["factors", "bound"]) 2 1 (by simp) rfl fun T kV doc pm an cdv ct us its h1 h2 => match us, its, h1, h2 with
    | [_, _], [_], _, _ => ⟨_, rfl, rfl⟩
  have v' : Vals [] ds := v
  cases v'
  exact b
theorem js_binds2 {K : PySem.W.Frag} {f : Addr} {fd : FuncData} (F : FunD K "joined_size" "joined_size" (defArgs sJSize) (defBody sJSize) (defScope sJSize) [.non] [] f fd) : L2.Binds K fd ["space", "sizes", "bound"] [Value.none] := by
  obtain ⟨ds, v, b⟩ := F.binds1 (ps := ["space", "sizes", "bound"]) 2 0 (by simp) rfl fun T kV doc pm an cdv ct us its h1 h2 => match us, its, h1, h2 with
    | [_, _], [_], _, _ => ⟨_, rfl, rfl⟩
  have v' : Vals [V.non] ds := v
  cases v' with
  | cons r rs =>
    cases rs
    obtain rfl : _ = Value.none := r
    exact b
theorem kb_mk {K : PySem.W.Frag} {fd : FuncData} {x : Str} (kb1 : ∀ (s : Shared) (u : Value), BindsTo s fd ⟨[u], []⟩ [(x, u)]) (kb2 : ∀ (s : Shared) (u : Value), BindsTo s fd ⟨[], [(x, u)]⟩ [(x, u)]) : KBinds K fd [x] [x] (fun us ws => us ++ ws) (fun vs zs => vs ++ zs) := by
  refine ⟨fun s us ws _ hl => ?_, fun a b => a.append b⟩
  match us, ws, hl with
  | [u], [], _ => exact kb1 s u
  | [], [u], _ => exact kb2 s u
  | [], [], hl => cases hl
  | _ :: _ :: _, _, hl => simp at hl
  | [_], _ :: _, hl => simp at hl
  | [], _ :: _ :: _, hl => simp at hl
theorem js_binds {K : PySem.W.Frag} {f : Addr} {fd : FuncData} (F : FunD K "joined_size" "joined_size" (defArgs sJSize) (defBody sJSize) (defScope sJSize) [.non] [] f fd) : L2.Binds K fd ["space", "sizes", "bound"] [] := by
  obtain ⟨ds, v, b⟩ := F.binds1 (ps := ["space", "sizes", "bound"]) 3 1 (by simp) rfl fun T kV doc pm an cdv ct us its h1 h2 => match us, its, h1, h2 with
    | [_, _, _], [_], _, _ => ⟨_, rfl, rfl⟩
  have v' : Vals [] ds := v
  cases v'
  exact b
theorem def_mk {K : PySem.W.Frag} {h : Heap} {mg : Str → Option Value} {x : Str} {st : Stmt} {ps : List Str} {f : Addr} {oc : Value} {od an : Option Addr} {osl : Array (Option Value)} {kV doc pm cdv ct : Value} (X : K.In h) (G : h.Ns mainGlobals mg)
    (a : PySem.W.nsIn K mainGlobals x = some (some (.ref f))) (l : K.lookup f = some ⟨oc, od, .func (PySem.W.fnOf x x (defArgs st) (defBody st) (defScope st) .none kV doc pm an cdv ct), osl⟩) (c : PySem.W.codeIn K cdv x = true) (k : PySem.W.keepIn K (.ref f) = true)
    (hb : ∀ (kV doc pm : Value) (an : Option Addr) (cdv ct : Value) (us : List Value), us.length = ps.length → bindArgs (PySem.W.fnOf x x (defArgs st) (defBody st) (defScope st) .none kV doc pm an cdv ct) ⟨us, []⟩ = pure (ps.zip us)) :
    DefOk K mg x st ps f (PySem.W.fnOf x x (defArgs st) (defBody st) (defScope st) .none kV doc pm an cdv ct) := ⟨fun_mk l c k, (fun_mk l c k).binds hb, PySem.W.mg_of X G a⟩
theorem all_mk {l : PySem.W.OpenLaw} {w : World} {K : PySem.W.Frag} {h : Heap} {mg : Str → Option Value} {fa fM fJ dS : Addr} {dM dJ : FuncData} {f_raise f_multi f_moved f_countstr f_moveon f_names f_osize f_nested f_repeat f_subsize f_wordsize f_arrsize f_walksize f_step f_cycsize f_matsize f_permsize f_treesize f_strsize f_sizeof f_ldeck f_ldraw f_lpower f_lfact f_lbin f_lall f_lnames f_rsub f_rword f_rarr f_rwalk f_rseat f_rperm f_rstr f_rnest f_llaw : Addr} {d_raise d_multi d_moved d_countstr d_moveon d_names d_osize d_nested d_repeat d_subsize d_wordsize d_arrsize d_walksize d_step d_cycsize d_matsize d_permsize d_treesize d_strsize d_sizeof d_ldeck d_ldraw d_lpower d_lfact d_lbin d_lall d_lnames d_rsub d_rword d_rarr d_rwalk d_rseat d_rperm d_rstr d_rnest d_llaw : FuncData} {esS : Array DictEntry} {mS : Nat} (X : K.In h) (G : h.Ns mainGlobals mg) (hfa : mg "law" = some (.ref fa))
    (n0 : PySem.W.nsIn K mainGlobals "isinstance" = some none)
    (n1 : PySem.W.nsIn K mainGlobals "int" = some none)
    (n2 : PySem.W.nsIn K mainGlobals "bool" = some none)
    (n3 : PySem.W.nsIn K mainGlobals "str" = some none)
    (n4 : PySem.W.nsIn K mainGlobals "tuple" = some none)
    (n5 : PySem.W.nsIn K mainGlobals "len" = some none)
    (n6 : PySem.W.nsIn K mainGlobals "all" = some none)
    (n7 : PySem.W.nsIn K mainGlobals "zip" = some none)
    (n8 : PySem.W.nsIn K mainGlobals "sum" = some none)
    (n9 : PySem.W.nsIn K mainGlobals "set" = some none)
    (n10 : PySem.W.nsIn K mainGlobals "range" = some none)
    (z0 : PySem.W.nsIn K mainGlobals "list" = some none)
    (z1 : PySem.W.nsIn K mainGlobals "max" = some none)
    (z2 : PySem.W.nsIn K mainGlobals "min" = some none)
    (e1 : PySem.W.nsIn K mainGlobals "comb" = some (some (.builtin "math.comb")))
    (e2 : PySem.W.nsIn K mainGlobals "factorial" = some (some (.builtin "math.factorial")))
    (o_raise : DefOk K mg "raise_to" sRaise ["base", "exponent"] f_raise d_raise)
    (o_multi : DefOk K mg "multinomial" sMulti ["counts"] f_multi d_multi)
    (o_moved : DefOk K mg "count_moved" sMoved ["n", "moved"] f_moved d_moved)
    (o_countstr : DefOk K mg "count_strings" sCountStr ["automaton", "n"] f_countstr d_countstr)
    (o_moveon : DefOk K mg "move_on" sMoveOn ["moves", "ways"] f_moveon d_moveon)
    (o_names : DefOk K mg "names_of" sNames ["order"] f_names d_names)
    (o_osize : DefOk K mg "order_size" sOSize ["order"] f_osize d_osize)
    (o_nested : DefOk K mg "nested_spaces" sNested ["space"] f_nested d_nested)
    (o_repeat : DefOk K mg "repeated" sRepeat ["counts", "items"] f_repeat d_repeat)
    (o_subsize : DefOk K mg "subset_size" sSubSize ["space"] f_subsize d_subsize)
    (o_wordsize : DefOk K mg "word_size" sWordSize ["space"] f_wordsize d_wordsize)
    (o_arrsize : DefOk K mg "arrangement_size" sArrSize ["space"] f_arrsize d_arrsize)
    (o_walksize : DefOk K mg "walk_size" sWalkSize ["space"] f_walksize d_walksize)
    (o_step : DefOk K mg "step_on" sStep ["ways", "low", "high"] f_step d_step)
    (o_cycsize : DefOk K mg "cycle_size" sCycSize ["space"] f_cycsize d_cycsize)
    (o_matsize : DefOk K mg "matching_size" sMatSize ["space"] f_matsize d_matsize)
    (o_permsize : DefOk K mg "permutation_size" sPermSize ["space"] f_permsize d_permsize)
    (o_treesize : DefOk K mg "tree_size" sTreeSize ["space"] f_treesize d_treesize)
    (o_strsize : DefOk K mg "string_size" sStrSize ["space"] f_strsize d_strsize)
    (o_sizeof : DefOk K mg "size_of" sSizeOf ["space"] f_sizeof d_sizeof)
    (o_ldeck : DefOk K mg "_law_deck" sDeck ["_law_script"] f_ldeck d_ldeck)
    (o_ldraw : DefOk K mg "_law_draw" sDraw ["_law_deck_here", "_law_bound"] f_ldraw d_ldraw)
    (o_lpower : DefOk K mg "_law_power" s_power ["_law_base", "_law_exponent"] f_lpower d_lpower)
    (o_lfact : DefOk K mg "_law_factorial" s_factorial ["_law_n"] f_lfact d_lfact)
    (o_lbin : DefOk K mg "_law_binomial" s_binomial ["_law_n", "_law_k"] f_lbin d_lbin)
    (o_lall : DefOk K mg "_law_all" s_all ["_law_names_here", "_law_word"] f_lall d_lall)
    (o_lnames : DefOk K mg "_law_names" s_names ["_law_deck_here", "_law_many"] f_lnames d_lnames)
    (o_rsub : DefOk K mg "_law_subsets_right" s_subsets_right ["_law_deck_here"] f_rsub d_rsub)
    (o_rword : DefOk K mg "_law_words_right" s_words_right ["_law_deck_here"] f_rword d_rword)
    (o_rarr : DefOk K mg "_law_arrangements_right" s_arrangements_right ["_law_deck_here"] f_rarr d_rarr)
    (o_rwalk : DefOk K mg "_law_walks_right" s_walks_right ["_law_deck_here"] f_rwalk d_rwalk)
    (o_rseat : DefOk K mg "_law_seats_right" s_seats_right ["_law_deck_here"] f_rseat d_rseat)
    (o_rperm : DefOk K mg "_law_permutations_right" s_permutations_right ["_law_deck_here"] f_rperm d_rperm)
    (o_rstr : DefOk K mg "_law_strings_right" s_strings_right ["_law_deck_here"] f_rstr d_rstr)
    (o_rnest : DefOk K mg "_law_nested_right" s_nested_right ["_law_deck_here"] f_rnest d_rnest)
    (o_llaw : DefOk K mg "law" s_law ["_law_script"] f_llaw d_llaw)
    (FM : FunD K "multiply" "multiply" (defArgs sMul) (defBody sMul) (defScope sMul) [.non] [] fM dM)
    (gM : PySem.W.nsIn K mainGlobals "multiply" = some (some (.ref fM)))
    (FJ : FunD K "joined_size" "joined_size" (defArgs sJSize) (defBody sJSize) (defScope sJSize) [.non] [] fJ dJ)
    (gJ : PySem.W.nsIn K mainGlobals "joined_size" = some (some (.ref fJ)))
    (gS : PySem.W.nsIn K mainGlobals "LEAF_SIZES" = some (some (.ref dS)))
    (aS : K.lookup dS = some ⟨.type "dict", none, .dict esS mS, #[]⟩)
    (kS : PySem.W.KeysLit w.params esS.toList)
    (wS : (dS == sysModules) = false)
    (s0 : PySem.W.nsIn K dS "subset" = some (some (.ref f_subsize)))
    (s1 : PySem.W.nsIn K dS "word" = some (some (.ref f_wordsize)))
    (s2 : PySem.W.nsIn K dS "arrangement" = some (some (.ref f_arrsize)))
    (s3 : PySem.W.nsIn K dS "walk" = some (some (.ref f_walksize)))
    (s4 : PySem.W.nsIn K dS "cycle" = some (some (.ref f_cycsize)))
    (s5 : PySem.W.nsIn K dS "matching" = some (some (.ref f_matsize)))
    (s6 : PySem.W.nsIn K dS "permutation" = some (some (.ref f_permsize)))
    (s7 : PySem.W.nsIn K dS "tree" = some (some (.ref f_treesize)))
    (s8 : PySem.W.nsIn K dS "string" = some (some (.ref f_strsize)))
    (ndS : ((szs f_subsize f_wordsize f_arrsize f_walksize f_cycsize f_matsize f_permsize f_treesize f_strsize).map (·.1)).Nodup)
    (hbind : ∀ (s : Shared) (u : Value), BindsTo s d_llaw ⟨[u], []⟩ [("_law_script", u)]) :
    ∃ fd : FuncData, (∀ (s : Shared) (u : Value), BindsTo s fd ⟨[u], []⟩ [("_law_script", u)]) ∧ ∀ base : Heap, K.In base → base.Ns mainGlobals mg → FnG l.prog w K mg base 15 fa fd ["_law_script"] (spLaw K) := by
  have e := hfa.symm.trans o_llaw.g
  cases e
  have nm : Nm mg := ⟨PySem.W.mg_none_of X G n0, PySem.W.mg_none_of X G n1, PySem.W.mg_none_of X G n2, PySem.W.mg_none_of X G n3, PySem.W.mg_none_of X G n4, PySem.W.mg_none_of X G n5, PySem.W.mg_none_of X G n6, PySem.W.mg_none_of X G n7, PySem.W.mg_none_of X G n8, PySem.W.mg_none_of X G n9, PySem.W.mg_none_of X G n10⟩
  have t0 : mg "list" = none := PySem.W.mg_none_of X G z0
  have t1 : mg "max" = none := PySem.W.mg_none_of X G z1
  have t2 : mg "min" = none := PySem.W.mg_none_of X G z2
  have hc1 := PySem.W.mg_of X G e1
  have hc2 := PySem.W.mg_of X G e2
  have KS : ∃ es n, KDict K w dS es n := ⟨_, _, aS, kS, wS⟩
  have bM := mul_binds FM
  have bJ2 := js_binds2 FJ
  have Z : ∀ base : Heap, FnOk l.prog w K mg base CX0 13 f_sizeof d_sizeof ["space"] (spSzOf 2) := size_mk nm t0 t1 hc1 hc2 o_subsize o_wordsize o_arrsize o_walksize o_cycsize o_matsize o_permsize o_treesize o_strsize o_raise o_multi o_moved o_names o_osize o_step o_moveon o_countstr o_nested o_repeat o_sizeof FJ (PySem.W.mg_of X G gJ) ⟨fM, dM, FM, bM, PySem.W.mg_of X G gM⟩ (mul_binds2 FM) (PySem.W.mg_of X G gS) KS ndS s0 s1 s2 s3 s4 s5 s6 s7 s8 bJ2
  exact ⟨d_llaw, hbind, fun base _ _ => law_mk nm t0 t2 o_ldeck o_ldraw o_lpower o_lfact o_lbin o_lall o_lnames o_rsub o_rword o_rarr o_rwalk o_rseat o_rperm o_rstr o_rnest o_llaw o_sizeof Z base⟩
theorem law_sp (K : PySem.W.Frag) (H : Hp) (a : Addr) (ns : List Int) (hl : ns.length ≤ 63) (_ : Only H) (hS : SqL K H a (ns.map V.int)) : spLaw K [.ref a] H (fun v _ => v = .bl true) fun _ _ _ => False := ⟨a, ns, rfl, hS, hl, fun _ => rfl⟩
end K6
open PySem PySem.W PyProof.Rows
set_option maxRecDepth 100000 in
set_option maxHeartbeats 0 in
theorem PySem.Challenge.cw_undrawn_k06_sizes_of_large_spaces_holds : PySem.Challenge.rw_undrawn_k06_sizes_of_large_spaces.Holds := by
  w_on; o_law; k_head; (case hw => w_witness2)
  k_fill
  refine L2.walk_G (l := PySem.Challenge.rw_undrawn_k06_sizes_of_large_spaces) (n := 63) (k := 15) (x := "_law_script") (sp := K6.spLaw) rfl (by decide) rfl ⟨rfl, by decide, by decide⟩ (fun w h Y => PySem.W.kIn_of Y) ?F K6.law_sp
  case F =>
    intro w mg fa h KX G hmg
    refine' K6.all_mk KX G hmg ?n0 ?n1 ?n2 ?n3 ?n4 ?n5 ?n6 ?n7 ?n8 ?n9 ?n10 ?z0 ?z1 ?z2 ?e1 ?e2 ?o_raise ?o_multi ?o_moved ?o_countstr ?o_moveon ?o_names ?o_osize ?o_nested ?o_repeat ?o_subsize ?o_wordsize ?o_arrsize ?o_walksize ?o_step ?o_cycsize ?o_matsize ?o_permsize ?o_treesize ?o_strsize ?o_sizeof ?o_ldeck ?o_ldraw ?o_lpower ?o_lfact ?o_lbin ?o_lall ?o_lnames ?o_rsub ?o_rword ?o_rarr ?o_rwalk ?o_rseat ?o_rperm ?o_rstr ?o_rnest ?o_llaw ?FM ?gM ?FJ ?gJ ?gS ?aS ?kS ?wS ?s0 ?s1 ?s2 ?s3 ?s4 ?s5 ?s6 ?s7 ?s8 ?ndS ?hbind
    (case n0 => k_is)
    (case n1 => k_is)
    (case n2 => k_is)
    (case n3 => k_is)
    (case n4 => k_is)
    (case n5 => k_is)
    (case n6 => k_is)
    (case n7 => k_is)
    (case n8 => k_is)
    (case n9 => k_is)
    (case n10 => k_is)
    (case z0 => k_is)
    (case z1 => k_is)
    (case z2 => k_is)
    (case e1 => k_is)
    (case e2 => k_is)
    (case o_raise => refine' K6.def_mk KX G ?a ?l ?c ?k (fun _ _ _ _ _ _ us hl => match us, hl with | [_, _], _ => rfl); (case a => k_is); (case l => k_is); (case c => k_is); (case k => k_is))
    (case o_multi => refine' K6.def_mk KX G ?a ?l ?c ?k (fun _ _ _ _ _ _ us hl => match us, hl with | [_], _ => rfl); (case a => k_is); (case l => k_is); (case c => k_is); (case k => k_is))
    (case o_moved => refine' K6.def_mk KX G ?a ?l ?c ?k (fun _ _ _ _ _ _ us hl => match us, hl with | [_, _], _ => rfl); (case a => k_is); (case l => k_is); (case c => k_is); (case k => k_is))
    (case o_countstr => refine' K6.def_mk KX G ?a ?l ?c ?k (fun _ _ _ _ _ _ us hl => match us, hl with | [_, _], _ => rfl); (case a => k_is); (case l => k_is); (case c => k_is); (case k => k_is))
    (case o_moveon => refine' K6.def_mk KX G ?a ?l ?c ?k (fun _ _ _ _ _ _ us hl => match us, hl with | [_, _], _ => rfl); (case a => k_is); (case l => k_is); (case c => k_is); (case k => k_is))
    (case o_names => refine' K6.def_mk KX G ?a ?l ?c ?k (fun _ _ _ _ _ _ us hl => match us, hl with | [_], _ => rfl); (case a => k_is); (case l => k_is); (case c => k_is); (case k => k_is))
    (case o_osize => refine' K6.def_mk KX G ?a ?l ?c ?k (fun _ _ _ _ _ _ us hl => match us, hl with | [_], _ => rfl); (case a => k_is); (case l => k_is); (case c => k_is); (case k => k_is))
    (case o_nested => refine' K6.def_mk KX G ?a ?l ?c ?k (fun _ _ _ _ _ _ us hl => match us, hl with | [_], _ => rfl); (case a => k_is); (case l => k_is); (case c => k_is); (case k => k_is))
    (case o_repeat => refine' K6.def_mk KX G ?a ?l ?c ?k (fun _ _ _ _ _ _ us hl => match us, hl with | [_, _], _ => rfl); (case a => k_is); (case l => k_is); (case c => k_is); (case k => k_is))
    (case o_subsize => refine' K6.def_mk KX G ?a ?l ?c ?k (fun _ _ _ _ _ _ us hl => match us, hl with | [_], _ => rfl); (case a => k_is); (case l => k_is); (case c => k_is); (case k => k_is))
    (case o_wordsize => refine' K6.def_mk KX G ?a ?l ?c ?k (fun _ _ _ _ _ _ us hl => match us, hl with | [_], _ => rfl); (case a => k_is); (case l => k_is); (case c => k_is); (case k => k_is))
    (case o_arrsize => refine' K6.def_mk KX G ?a ?l ?c ?k (fun _ _ _ _ _ _ us hl => match us, hl with | [_], _ => rfl); (case a => k_is); (case l => k_is); (case c => k_is); (case k => k_is))
    (case o_walksize => refine' K6.def_mk KX G ?a ?l ?c ?k (fun _ _ _ _ _ _ us hl => match us, hl with | [_], _ => rfl); (case a => k_is); (case l => k_is); (case c => k_is); (case k => k_is))
    (case o_step => refine' K6.def_mk KX G ?a ?l ?c ?k (fun _ _ _ _ _ _ us hl => match us, hl with | [_, _, _], _ => rfl); (case a => k_is); (case l => k_is); (case c => k_is); (case k => k_is))
    (case o_cycsize => refine' K6.def_mk KX G ?a ?l ?c ?k (fun _ _ _ _ _ _ us hl => match us, hl with | [_], _ => rfl); (case a => k_is); (case l => k_is); (case c => k_is); (case k => k_is))
    (case o_matsize => refine' K6.def_mk KX G ?a ?l ?c ?k (fun _ _ _ _ _ _ us hl => match us, hl with | [_], _ => rfl); (case a => k_is); (case l => k_is); (case c => k_is); (case k => k_is))
    (case o_permsize => refine' K6.def_mk KX G ?a ?l ?c ?k (fun _ _ _ _ _ _ us hl => match us, hl with | [_], _ => rfl); (case a => k_is); (case l => k_is); (case c => k_is); (case k => k_is))
    (case o_treesize => refine' K6.def_mk KX G ?a ?l ?c ?k (fun _ _ _ _ _ _ us hl => match us, hl with | [_], _ => rfl); (case a => k_is); (case l => k_is); (case c => k_is); (case k => k_is))
    (case o_strsize => refine' K6.def_mk KX G ?a ?l ?c ?k (fun _ _ _ _ _ _ us hl => match us, hl with | [_], _ => rfl); (case a => k_is); (case l => k_is); (case c => k_is); (case k => k_is))
    (case o_sizeof => refine' K6.def_mk KX G ?a ?l ?c ?k (fun _ _ _ _ _ _ us hl => match us, hl with | [_], _ => rfl); (case a => k_is); (case l => k_is); (case c => k_is); (case k => k_is))
    (case o_ldeck => refine' K6.def_mk KX G ?a ?l ?c ?k (fun _ _ _ _ _ _ us hl => match us, hl with | [_], _ => rfl); (case a => k_is); (case l => k_is); (case c => k_is); (case k => k_is))
    (case o_ldraw => refine' K6.def_mk KX G ?a ?l ?c ?k (fun _ _ _ _ _ _ us hl => match us, hl with | [_, _], _ => rfl); (case a => k_is); (case l => k_is); (case c => k_is); (case k => k_is))
    (case o_lpower => refine' K6.def_mk KX G ?a ?l ?c ?k (fun _ _ _ _ _ _ us hl => match us, hl with | [_, _], _ => rfl); (case a => k_is); (case l => k_is); (case c => k_is); (case k => k_is))
    (case o_lfact => refine' K6.def_mk KX G ?a ?l ?c ?k (fun _ _ _ _ _ _ us hl => match us, hl with | [_], _ => rfl); (case a => k_is); (case l => k_is); (case c => k_is); (case k => k_is))
    (case o_lbin => refine' K6.def_mk KX G ?a ?l ?c ?k (fun _ _ _ _ _ _ us hl => match us, hl with | [_, _], _ => rfl); (case a => k_is); (case l => k_is); (case c => k_is); (case k => k_is))
    (case o_lall => refine' K6.def_mk KX G ?a ?l ?c ?k (fun _ _ _ _ _ _ us hl => match us, hl with | [_, _], _ => rfl); (case a => k_is); (case l => k_is); (case c => k_is); (case k => k_is))
    (case o_lnames => refine' K6.def_mk KX G ?a ?l ?c ?k (fun _ _ _ _ _ _ us hl => match us, hl with | [_, _], _ => rfl); (case a => k_is); (case l => k_is); (case c => k_is); (case k => k_is))
    (case o_rsub => refine' K6.def_mk KX G ?a ?l ?c ?k (fun _ _ _ _ _ _ us hl => match us, hl with | [_], _ => rfl); (case a => k_is); (case l => k_is); (case c => k_is); (case k => k_is))
    (case o_rword => refine' K6.def_mk KX G ?a ?l ?c ?k (fun _ _ _ _ _ _ us hl => match us, hl with | [_], _ => rfl); (case a => k_is); (case l => k_is); (case c => k_is); (case k => k_is))
    (case o_rarr => refine' K6.def_mk KX G ?a ?l ?c ?k (fun _ _ _ _ _ _ us hl => match us, hl with | [_], _ => rfl); (case a => k_is); (case l => k_is); (case c => k_is); (case k => k_is))
    (case o_rwalk => refine' K6.def_mk KX G ?a ?l ?c ?k (fun _ _ _ _ _ _ us hl => match us, hl with | [_], _ => rfl); (case a => k_is); (case l => k_is); (case c => k_is); (case k => k_is))
    (case o_rseat => refine' K6.def_mk KX G ?a ?l ?c ?k (fun _ _ _ _ _ _ us hl => match us, hl with | [_], _ => rfl); (case a => k_is); (case l => k_is); (case c => k_is); (case k => k_is))
    (case o_rperm => refine' K6.def_mk KX G ?a ?l ?c ?k (fun _ _ _ _ _ _ us hl => match us, hl with | [_], _ => rfl); (case a => k_is); (case l => k_is); (case c => k_is); (case k => k_is))
    (case o_rstr => refine' K6.def_mk KX G ?a ?l ?c ?k (fun _ _ _ _ _ _ us hl => match us, hl with | [_], _ => rfl); (case a => k_is); (case l => k_is); (case c => k_is); (case k => k_is))
    (case o_rnest => refine' K6.def_mk KX G ?a ?l ?c ?k (fun _ _ _ _ _ _ us hl => match us, hl with | [_], _ => rfl); (case a => k_is); (case l => k_is); (case c => k_is); (case k => k_is))
    (case o_llaw => refine' K6.def_mk KX G ?a ?l ?c ?k (fun _ _ _ _ _ _ us hl => match us, hl with | [_], _ => rfl); (case a => k_is); (case l => k_is); (case c => k_is); (case k => k_is))
    (case gM => k_is)
    (case FM => refine' K6.funD_mk ?l ?c ?k ?t ?d ?r (by simp); (case l => k_is); (case c => k_is); (case k => k_is); (case t => k_is); (case d => rfl); (case r => exact .cons rfl .nil))
    (case gJ => k_is)
    (case FJ => refine' K6.funD_mk ?l ?c ?k ?t ?d ?r (by simp); (case l => k_is); (case c => k_is); (case k => k_is); (case t => k_is); (case d => rfl); (case r => exact .cons rfl .nil))
    (case gS => k_is)
    (case aS => k_is)
    (case kS => k_keys)
    (case wS => decide)
    (case s0 => k_is)
    (case s1 => k_is)
    (case s2 => k_is)
    (case s3 => k_is)
    (case s4 => k_is)
    (case s5 => k_is)
    (case s6 => k_is)
    (case s7 => k_is)
    (case s8 => k_is)
    (case ndS => decide)
    (case hbind => exact fun s u => .of_eq rfl)
