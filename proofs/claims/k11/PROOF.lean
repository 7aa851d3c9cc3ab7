import PyProof.Rows.All
import Wide.All
import OpenK.AllK
import Wide.FinOn
import HandS.ForMost
import HandS.Style
import HandS.Codes
import HandS.Comp
import HandS.Iter
import HandS.Walk
import HandS.Text
import HandS.Zip
import HandS.IsInst
import HandS.TupAny
import KE.DataCmp
import PyProof.EqKinds
import HandS.Strs
import HandS.More
import HandS.CallLocal
import HandS.Wide
import HandS.WideBits
import KE.KMathGC
import HandS.Gcd
import HandS.Defaults
import HandS.Conv
import KE.DatumOrd
import HandS.TupLen
import PyProof.Rows.Digits
import HandS.TryMany
import HandS.ExcOwn
import HandS.WordsExc
import PyProof.ReprBulk
import PyProof.Rows.IntBool
import PyProof.Rows.EqBoolInt
import KE.KIntText
import HandS.FStr
import HandS.RaiseMore
import HandS.Small
import HandS.Deep
import HandS.Dict
import PyProof.ListNew
import PyProof.Rows.BitMore
import HandS.TupMul
import HandS.SetFor
import PyProof.Rows.SortShellAny
import KE.KDictPairs
import KE.KDictList
import PyProof.Rows.ReprOcc
import KE.KDictZip
import KE.GoesEnum
import HandS.ListItems
import HandS.Zip0
import HandS.DictComp
import KE.KTupSum
import PySem.Challenge.RW_undrawn_k11_answers_of_leaves
set_option Elab.async false
set_option linter.all false
set_option maxRecDepth 100000
set_option maxHeartbeats 4000000
namespace KB
open PySem PySem.Spec PyProof.Rows L2
/-! ### the text by places -/
def top (i : Nat) : Stmt := PySem.Challenge.pw_undrawn_k11_answers_of_leaves.main.body.getD i (.Pass ⟨0, 0, 0, 0⟩)
/-- a tuple whose object is known, one without a dict of its own -/
def TP (H : Hp) (a : Addr) (xs : List V) : Prop := ∀ C : Prop, (∀ o : Obj, H a = some (.frz o (.tup xs)) → o.dict = none → C) → C
theorem TP.fz {H : Hp} {a : Addr} {o : Obj} {xs : List V} (h : H a = some (.frz o (.tup xs))) (n : o.dict = none) : TP H a xs := fun _ g => g o h n
theorem TP.rd {H : Hp} {a : Addr} {xs : List V} (h : TP H a xs) : ∃ o : Obj, H a = some (.frz o (.tup xs)) ∧ o.dict = none := h _ fun o e n => ⟨o, e, n⟩
theorem upR {H H' : Hp} {a : Addr} {xs : List V} (h : TP H a xs) (S : Same H H') : TP H' a xs := fun C g => h C fun o e n => g o (S _ _ e) n
theorem TP.lk {H : Hp} {a : Addr} {xs : List V} (h : TP H a xs) : Rd H a (.tup xs) := .inr (h.rd.imp fun o e => e.1)
theorem TP.uniq {H : Hp} {a : Addr} {xs ys : List V} (h : TP H a xs) (h' : TP H a ys) : xs = ys := by
  obtain ⟨o, e, _⟩ := h.rd
  obtain ⟨o', e', _⟩ := h'.rd
  rw [e] at e'
  cases e'
  rfl
theorem TP.noL {H : Hp} {a : Addr} {xs ys : List V} (h : TP H a xs) (h' : H a = some (.lst ys)) : False := by
  obtain ⟨o, e, _⟩ := h.rd
  rw [e] at h'
  cases h'
theorem sqT_rd {K : PySem.W.Frag} {H : Hp} {a : Addr} {xs : List V} (h : TP H a xs) : SqT K H a xs := .inl h.lk
/-! ### any value that is made of None, bools, ints, texts, tuples, lists, empty dicts -/
mutual
inductive Dat (H : Hp) : V → PyData → Prop
  | non : Dat H .non .none
  | bl (b : Bool) : Dat H (.bl b) (.bool b)
  | int (i : Int) : Dat H (.int i) (.int i)
  | str (x : Str) : x.length ≤ 1000 → Dat H (.str x) (.str x)
  | lst {a : Addr} {xs : List V} {ds : List PyData} : H a = some (.lst xs) → DatAll H xs ds → Dat H (.ref a) (.list ds)
  | tup {a : Addr} {xs : List V} {ds : List PyData} : TP H a xs → DatAll H xs ds → Dat H (.ref a) (.tuple ds)
  | d0 {a : Addr} : H a = some (.dK []) → Dat H (.ref a) (.dict [])
inductive DatAll (H : Hp) : List V → List PyData → Prop
  | nil : DatAll H [] []
  | cons {v : V} {vs : List V} {d : PyData} {ds : List PyData} : Dat H v d → DatAll H vs ds → DatAll H (v :: vs) (d :: ds)
end
mutual
theorem Dat.same {H H' : Hp} (S : Same H H') : ∀ {v : V} {d : PyData}, Dat H v d → Dat H' v d
  | _, _, .non => .non
  | _, _, .bl b => .bl b
  | _, _, .int i => .int i
  | _, _, .str x h => .str x h
  | _, _, .lst h t => .lst (S _ _ h) (DatAll.same S t)
  | _, _, .tup h t => .tup (upR h S) (DatAll.same S t)
  | _, _, .d0 h => .d0 (S _ _ h)
theorem DatAll.same {H H' : Hp} (S : Same H H') : ∀ {vs : List V} {ds : List PyData}, DatAll H vs ds → DatAll H' vs ds
  | _, _, .nil => .nil
  | _, _, .cons h t => .cons (Dat.same S h) (DatAll.same S t)
end
theorem DatAll.len {H : Hp} : ∀ {vs : List V} {ds : List PyData}, DatAll H vs ds → vs.length = ds.length
  | _, _, .nil => rfl
  | _, _, .cons _ t => congrArg (· + 1) (DatAll.len t)
theorem DatAll.get {H : Hp} : ∀ {xs : List V} {ds : List PyData} {j : Nat} {x : V}, DatAll H xs ds → xs[j]? = some x → ∃ d, ds[j]? = some d ∧ Dat H x d
  | _, _, _, _, .nil, e => by simp at e
  | _, _, 0, _, .cons t _, e => by
    simp at e
    subst e
    exact ⟨_, rfl, t⟩
  | _, _, j + 1, x, .cons _ ts, e => by
    obtain ⟨d, h1, h2⟩ := DatAll.get (j := j) (x := x) ts (by simpa using e)
    exact ⟨d, by simpa using h1, h2⟩
theorem DatAll.at {H : Hp} : ∀ {xs : List V} {ds : List PyData} {j : Nat} {d : PyData}, DatAll H xs ds → ds[j]? = some d → ∃ x, xs[j]? = some x ∧ Dat H x d
  | _, _, _, _, .nil, e => by simp at e
  | _, _, 0, _, .cons t _, e => by
    simp at e
    subst e
    exact ⟨_, rfl, t⟩
  | _, _, j + 1, x, .cons _ ts, e => by
    obtain ⟨d, h1, h2⟩ := DatAll.at (j := j) (d := x) ts (by simpa using e)
    exact ⟨d, by simpa using h1, h2⟩
/-- the type's name -/
def tyD : PyData → String
  | .none => "NoneType"
  | .bool _ => "bool"
  | .int _ => "int"
  | .str _ => "str"
  | .list _ => "list"
  | .tuple _ => "tuple"
  | .dict _ => "dict"
theorem Dat.ty {K : PySem.W.Frag} {H : Hp} {v : V} {d : PyData} (h : Dat H v d) : TyX K H v (.type (tyD d)) := by
  cases h with
  | non => exact .base .non
  | bl b => exact .base (.bl b)
  | int i => exact .base (.int i)
  | str x _ => exact .base (.str x)
  | lst h _ => exact .base (.lst h)
  | tup h _ =>
    obtain ⟨o, h, _⟩ := h.rd
    exact .fTuple h
  | d0 h => exact .base (.dK h)
/-! ### what the small predicates say of such values -/
def isInt : PyData → Bool
  | .int _ => true
  | _ => false
def isBool : PyData → Bool
  | .bool _ => true
  | _ => false
def isStr : PyData → Bool
  | .str _ => true
  | _ => false
def isTup : PyData → Bool
  | .tuple _ => true
  | _ => false
/-- an int from lo to hi -/
def btw (lo hi : Int) : PyData → Bool
  | .int i => decide (lo ≤ i) && decide (i ≤ hi)
  | _ => false
theorem kit_int (K : PySem.W.Frag) (d : PyData) : PySem.W.kitOne K (.type (tyD d)) (.type "int") = some (isInt d || isBool d) := by
  cases d with
  | none => exact kit_ty (a := "NoneType") (b := "int") (r := false) (by decide +kernel)
  | bool b => exact kit_ty (a := "bool") (b := "int") (r := true) (by decide +kernel)
  | int i => exact kit_ty (a := "int") (b := "int") (r := true) (by decide +kernel)
  | str x => exact kit_ty (a := "str") (b := "int") (r := false) (by decide +kernel)
  | list l => exact kit_ty (a := "list") (b := "int") (r := false) (by decide +kernel)
  | tuple l => exact kit_ty (a := "tuple") (b := "int") (r := false) (by decide +kernel)
  | dict l => exact kit_ty (a := "dict") (b := "int") (r := false) (by decide +kernel)
theorem kit_bool (K : PySem.W.Frag) (d : PyData) : PySem.W.kitOne K (.type (tyD d)) (.type "bool") = some (isBool d) := by
  cases d with
  | none => exact kit_ty (a := "NoneType") (b := "bool") (r := false) (by decide +kernel)
  | bool b => exact kit_ty (a := "bool") (b := "bool") (r := true) (by decide +kernel)
  | int i => exact kit_ty (a := "int") (b := "bool") (r := false) (by decide +kernel)
  | str x => exact kit_ty (a := "str") (b := "bool") (r := false) (by decide +kernel)
  | list l => exact kit_ty (a := "list") (b := "bool") (r := false) (by decide +kernel)
  | tuple l => exact kit_ty (a := "tuple") (b := "bool") (r := false) (by decide +kernel)
  | dict l => exact kit_ty (a := "dict") (b := "bool") (r := false) (by decide +kernel)
theorem kit_str (K : PySem.W.Frag) (d : PyData) : PySem.W.kitOne K (.type (tyD d)) (.type "str") = some (isStr d) := by
  cases d with
  | none => exact kit_ty (a := "NoneType") (b := "str") (r := false) (by decide +kernel)
  | bool b => exact kit_ty (a := "bool") (b := "str") (r := false) (by decide +kernel)
  | int i => exact kit_ty (a := "int") (b := "str") (r := false) (by decide +kernel)
  | str x => exact kit_ty (a := "str") (b := "str") (r := true) (by decide +kernel)
  | list l => exact kit_ty (a := "list") (b := "str") (r := false) (by decide +kernel)
  | tuple l => exact kit_ty (a := "tuple") (b := "str") (r := false) (by decide +kernel)
  | dict l => exact kit_ty (a := "dict") (b := "str") (r := false) (by decide +kernel)
theorem kit_tuple (K : PySem.W.Frag) (d : PyData) : PySem.W.kitOne K (.type (tyD d)) (.type "tuple") = some (isTup d) := by
  cases d with
  | none => exact kit_ty (a := "NoneType") (b := "tuple") (r := false) (by decide +kernel)
  | bool b => exact kit_ty (a := "bool") (b := "tuple") (r := false) (by decide +kernel)
  | int i => exact kit_ty (a := "int") (b := "tuple") (r := false) (by decide +kernel)
  | str x => exact kit_ty (a := "str") (b := "tuple") (r := false) (by decide +kernel)
  | list l => exact kit_ty (a := "list") (b := "tuple") (r := false) (by decide +kernel)
  | tuple l => exact kit_ty (a := "tuple") (b := "tuple") (r := true) (by decide +kernel)
  | dict l => exact kit_ty (a := "dict") (b := "tuple") (r := false) (by decide +kernel)
structure Nm (mg : Str → Option Value) : Prop where
  isinstance : mg "isinstance" = none
  int : mg "int" = none
  bool : mg "bool" = none
  str : mg "str" = none
  tuple : mg "tuple" = none
  len : mg "len" = none
  list : mg "list" = none
  range : mg "range" = none
  repr : mg "repr" = none
  all : mg "all" = none
  any : mg "any" = none
  zip : mg "zip" = none
  sum : mg "sum" = none
  enumerate : mg "enumerate" = none
  dict : mg "dict" = none
structure DefOk (K : PySem.W.Frag) (mg : Str → Option Value) (x : Str) (st : Stmt) (ps : List Str) (f : Addr) (fd : FuncData) : Prop where
  F : Fun K x x st f fd
  b : L2.Binds K fd ps []
  g : mg x = some (.ref f)
theorem same_new {H : Hp} {p : Addr} {o : HO} (h : H p = none) : Same H (upd H p o) := fun b u e => by rw [upd_ne (ne_of_none e h)]; exact e
theorem if_t {c : Bool} {A B : Prop} (hc : c = true) (h : A) : if c = true then A else B := by
  rw [if_pos hc]
  exact h
theorem if_f {c : Bool} {A B : Prop} (hc : c = false) (h : B) : if c = true then A else B := by
  rw [hc, if_neg Bool.false_ne_true]
  exact h
theorem grow {H Hx : Hp} {D : Addr} {xs : List V} {y : V} (nD : H D = none) (S : Same H Hx) : Same H (upd Hx D (.lst (xs ++ [y]))) := fun b o e => by
  have bD : b ≠ D := fun z => by
    rw [z, nD] at e
    cases e
  rw [upd_ne bD]
  exact S _ _ e
theorem datAll_append {H : Hp} : ∀ {xs ys : List V} {ds es : List PyData}, DatAll H xs ds → DatAll H ys es → DatAll H (xs ++ ys) (ds ++ es)
  | _, _, _, _, .nil, t => t
  | _, _, _, _, .cons h t, u => .cons h (datAll_append t u)
theorem nat_of {i : Int} (h : 0 ≤ i) : ∃ j : Nat, i = j := ⟨i.toNat, by omega⟩
end KB
set_option maxRecDepth 100000
set_option maxHeartbeats 8000000
namespace L2
open PySem PySem.Spec PyProof.Rows HT
section
variable {X : Cx}
def rCatF (K : PySem.W.Frag) : R2 := fun x y H Q => ∃ a b xs ys, x = .ref a ∧ y = .ref b ∧ SqT K H a xs ∧ SqT K H b ys ∧ xs.length + ys.length ≤ sizeLine ∧
  (xs = [] → Q (.ref b) H) ∧ (xs ≠ [] → ys = [] → Q (.ref a) H) ∧ (xs ≠ [] → ys ≠ [] → ∀ (p : Addr) (o : Obj), H p = none → o.dict = none → Q (.ref p) (upd H p (.frz o (.tup (xs ++ ys)))))
theorem op_catF : OpR X (binaryOp .Add) (rCatF X.K) := by
  intro pins s σ H x y v u Q I rx ry h
  obtain ⟨a, b, xs, ys, rfl, rfl, ha, hb, hz, q0, q1, q2⟩ := h
  cases rx
  cases ry
  obtain ⟨its, r1, p1, _⟩ := I.tuple ha
  obtain ⟨its2, r2, p2, _⟩ := I.tuple hb
  by_cases hx : xs = []
  · subst hx
    cases r1
    exact cat_tup0 p1 p2 ⟨.ref b, H, I, rfl, q0 rfl⟩
  · refine HT.cat_tup p1 p2 (fun z => hx (r1.nil_iff.mp z)) (fun z => ⟨.ref a, H, I, rfl, q1 hx (r2.nil_iff.mp z)⟩) (fun z => ?_) (by rw [← r1.length, ← r2.length]; exact hz)
    exact ⟨.ref s.heap.objs.size, upd H s.heap.objs.size (.frz _ (.tup (xs ++ ys))), I.laid (t' := s.toks) (fun b ob q => Heap.get?_push_of_some _ q) (Nat.le_refl _) (show ObjOk X.prog X.w _ _ _ (.frz _ (.tup (xs ++ ys))) from ⟨Heap.get?_push_size _ rfl, by rw [List.length_append]; exact hz, _, r1.append r2, IsTup.new _ _⟩), rfl, q2 hx (fun w => z (r2.nil_iff.mpr w)) _ _ (I.hok.fresh (Nat.le_refl _)) rfl⟩
def rSlF (K : PySem.W.Frag) : V → Option Int → Option Int → Hp → VK → Prop := fun x lo hi H Q => ∃ a xs, x = .ref a ∧ SqT K H a xs ∧
  (HT.sIx xs.length 0 lo = 0 ∧ HT.sIx xs.length xs.length hi = xs.length → Q (.ref a) H) ∧ (¬ (HT.sIx xs.length 0 lo = 0 ∧ HT.sIx xs.length xs.length hi = xs.length) → ∀ (p : Addr) (o : Obj), H p = none → o.dict = none → Q (.ref p) (upd H p (.frz o (.tup (cutV xs lo hi)))))
theorem sl_tupF : SlR X (rSlF X.K) := by
  intro pins s σ H x v vl vu lo hi sl Q I rx hs pl pu h
  obtain ⟨a, xs, rfl, hx, q1, q2⟩ := h
  cases rx
  obtain ⟨its, r, ht, hz⟩ := I.tuple hx
  have hlen : its.toArray.size = xs.length := by rw [List.size_toArray]; exact r.length.symm
  by_cases hw : HT.sIx xs.length 0 lo = 0 ∧ HT.sIx xs.length xs.length hi = xs.length
  · refine ⟨"tuple", _, PyProof.Rows.slot_tuple_getitem.lookup, ht.typeIs, ?_⟩
    exact getItem_tuple_whole ht hs pl pu (by rw [hlen]; exact hw) ⟨.ref a, H, I, rfl, q1 hw⟩
  · refine ⟨"tuple", _, PyProof.Rows.slot_tuple_getitem.lookup, ht.typeIs, ?_⟩
    refine HT.getItem_tuple_cut ht hs pl pu (by rw [hlen]; exact hw) ?_ (by rw [hlen]; exact hz)
    rw [hlen]
    exact ⟨.ref s.heap.objs.size, upd H s.heap.objs.size (.frz _ (.tup (cutV xs lo hi))), I.laid (t' := s.toks) (fun b ob q => Heap.get?_push_of_some _ q) (Nat.le_refl _) (show ObjOk X.prog X.w _ _ _ (.frz _ (.tup (cutV xs lo hi))) from ⟨Heap.get?_push_size _ rfl, Nat.le_trans (cutV_length xs lo hi) hz, _, (r.drop (HT.sIx xs.length 0 lo)).take (HT.sIx xs.length xs.length hi - HT.sIx xs.length 0 lo), IsTup.new _ _⟩), rfl, q2 hw _ _ (I.hok.fresh (Nat.le_refl _)) rfl⟩
end
end L2
namespace KB
open PySem PySem.Spec PyProof.Rows L2
/-! ### tuples whose object stays known: written ones, tuple(list); dict of such a tuple of pairs; list(d.values()) -/
def tTupF (t : TA) : TE := fun σ H Q => t σ H fun xs H1 => xs.length ≤ sizeLine ∧ ∀ (p : Addr) (o : Obj), H1 p = none → o.dict = none → Q (.ref p) (upd H1 p (.frz o (.tup xs)))
/-- the tuple's object is known -/
def Fz (H : Hp) (v : V) : Prop := ∃ (a : Addr) (o : Obj) (xs : List V), v = .ref a ∧ H a = some (.frz o (.tup xs)) ∧ o.dict = none
theorem Fz.same {H H' : Hp} {v : V} (h : Fz H v) (S : Same H H') : Fz H' v := by
  obtain ⟨a, o, xs, e, h, n⟩ := h
  exact ⟨a, o, xs, e, S _ _ h, n⟩
section
variable {X : Cx}
theorem pe_tupF {es : List Expr} {t : TA} {x1 : Nat} {pos : Pos} (h : PA X es t) : PE X (.Tuple es x1 pos) (tTupF t) := by
  refine ⟨fun pins s σ H Q I hq => ?_⟩
  refine wpAny_Tuple_spliced (thn (h.run pos pins s σ H _ I hq) fun us s1 ⟨xs, H1, I1, r, z, q⟩ => ⟨by rw [← r.length]; exact z, ?_⟩)
  have hf : H1 s1.heap.objs.size = none := I1.hok.fresh (Nat.le_refl _)
  exact ⟨.ref s1.heap.objs.size, upd H1 s1.heap.objs.size (.frz _ (.tup xs)), I1.laid (t' := s1.toks) (fun b u e => Heap.get?_push_of_some _ e) (Nat.le_refl _) (show ObjOk X.prog X.w _ _ _ (.frz _ (.tup xs)) from ⟨Heap.get?_push_size _ rfl, z, us, r, ⟨_, Heap.get?_push_size _ rfl, rfl, _, rfl⟩⟩), rfl, q _ _ hf rfl⟩
def rTupF (K : PySem.W.Frag) : List V → Hp → VK → Prop := fun xs H Q => ∃ p ys, xs = [.ref p] ∧ SqL K H p ys ∧ ∀ (l : Addr) (o : Obj), H l = none → o.dict = none → Q (.ref l) (upd H l (.frz o (.tup ys)))
theorem call_tupF : CallR X (.type "tuple") (rTupF X.K) := by
  intro pins s σ H xs us Q I r h
  obtain ⟨p, ys, rfl, hq, q⟩ := h
  rw [Vals.ref1 r]
  obtain ⟨its, r', pl, hz⟩ := I.list hq
  have hlen := r'.length
  refine call_tuple_list pl.isList (fun h' kp => ?_) (by simp only [List.size_toArray] <;> omega)
  have I1 : Inv X pins σ H { s with heap := h' } := I.kept (t' := s.toks) kp
  exact ⟨.ref h'.objs.size, upd H h'.objs.size (.frz _ (.tup ys)), I1.laid (t' := s.toks) (fun b o e => Heap.get?_push_of_some _ e) (Nat.le_refl _) (show ObjOk X.prog X.w _ _ _ (.frz _ (.tup ys)) from ⟨Heap.get?_push_size _ rfl, hz, its, r', IsTup.new _ _⟩), rfl, q _ _ (I1.hok.fresh (Nat.le_refl _)) rfl⟩
end
end KB
set_option maxRecDepth 100000
set_option maxHeartbeats 4000000
namespace KB
open PySem PySem.Spec PyProof.Rows L2
abbrev sDeck : Stmt := top 23
abbrev sDraw : Stmt := top 24
abbrev sPick : Stmt := top 25
/-! ### the deck of choices -/
/-- a deck at p: its cells at q, the mixed number m, the count c -/
structure DeckAt (H : Hp) (p q : Addr) (ns : List Int) (m c : Int) : Prop where
  ob : H p = some (.lst [.ref q, .int m, .int c])
  ce : H q = some (.lst (ns.map V.int))
  m0 : 0 ≤ m
  m1 : m < 2147483587
  c0 : 0 ≤ c
  c1 : c ≤ 1000000000
  ln : ns.length ≤ 63
theorem DeckAt.ne {H : Hp} {p q : Addr} {ns : List Int} {m c : Int} (D : DeckAt H p q ns m c) : p ≠ q := fun e => by
  have z := D.ce
  rw [← e, D.ob] at z
  have z' := Option.some.inj z
  injection z' with z''
  cases ns with
  | nil => cases z''
  | cons a l => injection z'' with y _; cases y
theorem DeckAt.same {H H' : Hp} {p q : Addr} {ns : List Int} {m c : Int} (D : DeckAt H p q ns m c) (S : Same H H') : DeckAt H' p q ns m c := ⟨S _ _ D.ob, S _ _ D.ce, D.m0, D.m1, D.c0, D.c1, D.ln⟩
/-- what was tracked, but at p and q -/
def Off (p q : Addr) (H H' : Hp) : Prop := ∀ b o, H b = some o → b ≠ p → b ≠ q → H' b = some o
theorem Off.of_same {p q : Addr} {H H' : Hp} (S : Same H H') : Off p q H H' := fun b o e _ _ => S b o e
theorem Off.trans {p q : Addr} {H H1 H2 : Hp} (a : Off p q H H1) (b : Off p q H1 H2) : Off p q H H2 := fun c o e h1 h2 => b c o (a c o e h1 h2) h1 h2
theorem Off.refl {p q : Addr} {H : Hp} : Off p q H H := fun _ _ e _ _ => e
theorem dp_ints {K : PySem.W.Frag} {H : Hp} : ∀ ns : List Int, DpAll K H (ns.map V.int) (ns.map PyData.int)
  | [] => .nil
  | a :: l => .cons (.int a) (dp_ints l)
theorem lay_ints : ∀ ns : List Int, PyData.canLayAll0 (ns.map PyData.int) = true
  | [] => by simp [PyData.canLayAll0]
  | a :: l => by simp [PyData.canLayAll0, PyData.canLay0, lay_ints l]
theorem depth_ints : ∀ ns : List Int, PyData.depthAll (ns.map PyData.int) = 0
  | [] => by simp [PyData.depthAll]
  | a :: l => by simp [PyData.depthAll, PyData.depth, depth_ints l]
theorem shaped_ints (ns : List Int) : SeqAt.shaped (.list (ns.map PyData.int)) = true := by
  have h2 : PyData.depth (.list (ns.map PyData.int)) ≤ 64 := by
    rw [PyData.depth, depth_ints]
    decide
  unfold SeqAt.shaped
  rw [Bool.and_eq_true, PyData.canLay0]
  exact ⟨lay_ints ns, decide_eq_true h2⟩
def spDeck (K : PySem.W.Frag) : Sp := fun vs H Q _ => ∃ (a : Addr) (ns : List Int), vs = [.ref a] ∧ SqL K H a (ns.map V.int) ∧ ns.length ≤ 63 ∧
  ∀ (p q : Addr) (ms : List Int) (m : Int) (H' : Hp), Same H H' → H p = none → H q = none → DeckAt H' p q ms m 0 → Q (.ref p) H'
def spDraw : Sp := fun vs H Q _ => ∃ (p q : Addr) (ns : List Int) (m c n : Int), vs = [.ref p, .int n] ∧ 0 < n ∧ n ≤ 1000000 ∧ DeckAt H p q ns m c ∧ c + 1 ≤ 1000000000 ∧
  ∀ (i : Int) (ns' : List Int) (H' : Hp), 0 ≤ i → i < n → Off p q H H' → DeckAt H' p q ns' m (c + 1) → Q (.int i) H'
section
variable {P : Program} {w : World} {K : PySem.W.Frag} {mg : Str → Option Value} {base : Heap}
theorem scDeck : FnScope ["_law_script", "_law_cells", "_law_mix", "_law_cell"] ["_law_script"] (defScope sDeck) := ⟨rfl, rfl, rfl, by decide +kernel, rfl, by decide +kernel, by decide +kernel⟩
theorem ok_deck {f : Addr} {fd : FuncData} (F : Fun K "_law_deck" "_law_deck" sDeck f fd) (T : Nm mg) (Tl : mg "list" = none) : FnOk P w K mg base CX0 1 f fd ["_law_script"] (spDeck K) := by
  refine F.ok scDeck (fun vs H Q E h => ?_) (fun cdv A outer s H vs Q E hr h => ?_)
  · obtain ⟨a, ns, rfl, _⟩ := h
    rfl
  · obtain ⟨a, ns, rfl, hS, hl, k⟩ := h
    refine ⟨_, pss_cons (ps_par (i := 1) (j := 2) rfl scDeck.nd rfl rfl (by decide) rfl rfl (pa_cons (pe_callTy call_list_of (by rfl) Tl (by decide +kernel) (pa_cons (pe_slice sl_list (pv 0) po_none (po_some pe_int)) pa_nil)) (pa_cons pe_int pa_nil)) (by rfl))
      (pss_cons (ps_for PassesOwn.never rfl (pi_list (pv 1)) (pg_name (i := 3) scDeck.nd rfl (Or.inl rfl))
        (pss_one (ps_set (i := 2) scDeck.nd rfl (Or.inl rfl) (pe_op op_mod (pe_op op_add (pe_op op_add (pe_op op_mul (pv 2) pe_int) (pe_op op_mod (pv 3) pe_int)) pe_int) pe_int))))
      (pss_one (ps_ret (pe_lst (pa_cons (pe_revL (pv 1)) (pa_cons (pv 2) (pa_cons pe_int pa_nil))))))), ?_⟩
    -- script[:63]; list(..)
    refine ⟨_, rfl, 63, rfl, a, _, rfl, hS, fun p1 np1 => ?_⟩
    have hcut : (cutV (ns.map V.int) none (some 63)).length ≤ 63 := by
      have z := cutV_length (ns.map V.int) none (some 63)
      rw [List.length_map] at z
      omega
    obtain ⟨cs, hcs, hcl⟩ : ∃ cs : List Int, cutV (ns.map V.int) none (some 63) = cs.map V.int ∧ cs.length ≤ 63 := by
      refine ⟨(ns.drop (HT.sIx ns.length 0 none)).take (HT.sIx ns.length ns.length (some 63) - HT.sIx ns.length 0 none), ?_, ?_⟩
      · unfold cutV
        rw [List.length_map, List.map_take, List.map_drop]
      · rw [List.length_take, List.length_drop]
        omega
    rw [hcs]
    refine ⟨p1, _, rfl, .inl (.inl (.inl upd_same)), fun q1 nq1 => ⟨_, _, rfl, ?_⟩⟩
    have s1 : Same H (upd (upd H p1 (.lst (cs.map V.int))) q1 (.lst (cs.map V.int))) := (same_new np1).trans (same_new nq1)
    -- the loop
    refine ⟨_, rfl, q1, rfl, ⟨_, .inl (.inl upd_same)⟩, for_list (K := K) (a := q1) (xs := cs.map V.int) (fun i σ H' => ∃ (m : Int) (v : Option V), σ = [some (.ref a), some (.ref q1), some (.int m), v] ∧ H' = upd (upd H p1 (.lst (cs.map V.int))) q1 (.lst (cs.map V.int)) ∧ 0 ≤ m ∧ m < 2147483587)
      ⟨50047, none, rfl, rfl, by decide, by decide⟩ (fun i σ H' _ ⟨_, _, _, e, _⟩ => by rw [e]; exact .inl (.inl upd_same)) ?_ ?_⟩
    · rintro i y σ H' hi ⟨m, v, rfl, rfl, h0, h1⟩
      obtain ⟨z, rfl⟩ : ∃ z, y = V.int z := by
        rw [List.getElem?_map] at hi
        cases e : cs[i]? with
        | none =>
          rw [e] at hi
          cases hi
        | some z =>
          rw [e] at hi
          exact ⟨z, (Option.some.inj hi).symm⟩
      refine ⟨_, rfl, _, _, rfl, rfl, .inl ⟨by omega, by omega⟩, ?_⟩
      refine ⟨_, rfl, _, _, rfl, rfl, (by show (0 : Int) < _; decide), _, _, rfl, rfl, _, _, rfl, rfl, _, _, rfl, rfl, (by show (0 : Int) < _; decide), ?_⟩
      exact ⟨_, _, rfl, rfl, Int.emod_nonneg _ (by decide), Int.emod_lt_of_pos _ (by decide)⟩
    · rintro σ H' ⟨m, v, rfl, rfl, h0, h1⟩
      refine ⟨_, rfl, q1, _, rfl, .inl (.inl upd_same), fun r1 nr1 => ⟨_, rfl, (by show 3 ≤ sizeLine; decide), fun d nd => ?_⟩⟩
      rw [← List.map_reverse] at nd ⊢
      refine k d r1 cs.reverse m _ ((s1.trans (same_new nr1)).trans (same_new nd)) ?_ ?_ ⟨upd_same, ?_, h0, h1, by decide, by decide, by rw [List.length_reverse]; exact hcl⟩
      · exact ((s1.trans (same_new nr1))).free nd
      · exact s1.free nr1
      · rw [upd_ne (ne_of_none upd_same nd), upd_same]
theorem scDraw : FnScope ["_law_deck_here", "_law_bound", "_law_cell", "_law_mixed"] ["_law_deck_here", "_law_bound"] (defScope sDraw) := ⟨rfl, rfl, rfl, by decide +kernel, rfl, by decide +kernel, by decide +kernel⟩
theorem ok_draw {f : Addr} {fd : FuncData} (F : Fun K "_law_draw" "_law_draw" sDraw f fd) : FnOk P w K mg base CX0 1 f fd ["_law_deck_here", "_law_bound"] spDraw := by
  refine F.ok scDraw (fun vs H Q E h => ?_) (fun cdv A outer s H vs Q E hr h => ?_)
  · obtain ⟨p, q, ns, m, c, n, rfl, _⟩ := h
    rfl
  · obtain ⟨p, q, ns, m, c, n, rfl, hn0, hn1, D, hc, k⟩ := h
    have hu := hr.units
    have hpq := D.ne
    refine ⟨_, pss_cons (ps_asg (pe_op op_add (pe_ix ix_list (pv 0) pe_int (fun _ _ => rfl)) pe_int) (pg_sub (pv 0) pe_int set_list (fun _ => rfl)))
      (pss_cons (ps_set (i := 2) scDraw.nd rfl (Or.inl rfl) (pe_ix ix_list (pv 0) pe_int (fun _ _ => rfl)))
      (C8.pss_cut (ps_if (pt_cmpR (op_neD hu) (pe_ix ix_list (pv 0) pe_int (fun _ _ => rfl)) (pe_lst pa_nil) (nomark _))
          (pss_cons (ps_set (i := 2) scDraw.nd rfl (Or.inl rfl) (pe_bm0 PySem.F.plainAttrs_list PySem.F.slot_list_pop PySem.F.type_list_pop mt_pop (pe_ix ix_list (pv 0) pe_int (fun _ _ => rfl))))
          (pss_cons (ps_if (pt_cmpR op_ge (pv 2) (pe_op op_pow pe_int pe_int) (nomark _))
              (pss_cons (ps_expr (pe_bm PySem.F.plainAttrs_list PySem.F.slot_list_append PySem.F.type_list_append mt_append (pe_ix ix_list (pv 0) pe_int (fun _ _ => rfl)) (pa_cons (pe_op op_fdivN (pv 2) (pv 1)) pa_nil)))
              (pss_one (ps_ret (pe_op op_mod (pv 2) (pv 1))))) pss_nil)
          (pss_one (ps_set (i := 2) scDraw.nd rfl (Or.inl rfl) (pe_op op_add (pv 2) (pe_ix ix_list (pv 0) pe_int (fun _ _ => rfl))))))) pss_nil)
      (pss_cons (ps_set (i := 3) scDraw.nd rfl (Or.inl rfl) (pe_op op_mod (pe_op op_mul (pe_op op_add (pe_op op_add (pe_op op_mod (pv 2) pe_int) (pe_op op_mul (pe_op op_mul pe_int (pe_ix ix_list (pv 0) pe_int (fun _ _ => rfl))) (pe_ix ix_list (pv 0) pe_int (fun _ _ => rfl)))) pe_int) pe_int) pe_int))
      (pss_cons (ps_set (i := 3) scDraw.nd rfl (Or.inl rfl) (pe_op op_mod (pe_op op_add (pe_op op_add (pe_op op_mul (pv 3) (pv 3)) (pe_op op_mul pe_int (pe_ix ix_list (pv 0) pe_int (fun _ _ => rfl)))) pe_int) pe_int))
      (pss_one (ps_ret (pe_op op_mod (pe_op op_fdiv (pe_op op_mod (pe_op op_mul (pv 3) pe_int) pe_int) pe_int) (pv 1)))))))), ?_⟩
    have c2 : ∀ {x y z : V}, atI [x, y, z] 2 = some z := fun {x y z} => atI_nat (xs := [x, y, z]) (j := 2) rfl
    have c1 : ∀ {x y z : V}, atI [x, y, z] 1 = some y := fun {x y z} => atI_nat (xs := [x, y, z]) (j := 1) rfl
    have c0 : ∀ {x y z : V}, atI [x, y, z] 0 = some x := fun {x y z} => atI_nat (xs := [x, y, z]) (j := 0) rfl
    -- deck[2] = deck[2] + 1
    refine ⟨_, rfl, p, _, _, _, rfl, rfl, SqL.of D.ob, c2, _, _, rfl, rfl, _, rfl, p, _, _, 2, rfl, rfl, D.ob, rfl, ?_⟩
    have eset : ([V.ref q, V.int m, V.int c].set 2 (V.int (c + 1))) = [V.ref q, V.int m, V.int (c + 1)] := rfl
    rw [eset]
    have D1 : DeckAt (upd H p (.lst [.ref q, .int m, .int (c + 1)])) p q ns m (c + 1) :=
      ⟨upd_same, by rw [upd_ne hpq.symm]; exact D.ce, D.m0, D.m1, by have := D.c0; omega, hc, D.ln⟩
    have off1 : Off p q H (upd H p (.lst [.ref q, .int m, .int (c + 1)])) := fun b o e h1 _ => by rw [upd_ne h1]; exact e
    -- cell = deck[1]
    refine ⟨_, rfl, p, _, _, _, rfl, rfl, SqL.of D1.ob, c1, ?_⟩
    -- if deck[0] != []: .. ; what follows holds for any cell
    refine ⟨fun σ H' => ∃ (z : Int) (ns' : List Int), σ = [some (.ref p), some (.int n), some (.int z), none] ∧ Off p q H H' ∧ DeckAt H' p q ns' m (c + 1), ?_, ?_⟩
    · refine ⟨_, rfl, p, _, _, _, rfl, rfl, SqL.of D1.ob, c0, (by show 0 ≤ sizeLine; decide), fun e ne => ?_⟩
      have D2 : DeckAt (upd (upd H p (.lst [.ref q, .int m, .int (c + 1)])) e (.lst [])) p q ns m (c + 1) := D1.same (same_new ne)
      have off2 : Off p q H (upd (upd H p (.lst [.ref q, .int m, .int (c + 1)])) e (.lst [])) := off1.trans (.of_same (same_new ne))
      refine ⟨.list (ns.map .int), .list [], .lst (SqL.of D2.ce) (dp_ints ns), .lst (SqL.of upd_same) .nil, shaped_ints ns, shaped_ints [], _, rfl, ?_⟩
      generalize hH2 : upd (upd H p (.lst [.ref q, .int m, .int (c + 1)])) e (.lst []) = H2 at D2 off2 ⊢
      cases hns : ns with
      | nil =>
        have e0 : PyData.eqv (.list (([] : List Int).map PyData.int)) (.list []) = true := by simp [PyData.eqv, PyData.eqvAll]
        rw [e0]
        refine iteF ?_
        exact ⟨m, [], rfl, off2, by rw [hns] at D2; exact D2⟩
      | cons a l =>
        have e0 : PyData.eqv (.list ((a :: l).map PyData.int)) (.list []) = false := by simp [PyData.eqv, PyData.eqvAll]
        rw [e0]
        refine iteT ?_
        rw [hns] at D2
        -- cell = deck[0].pop()
        obtain ⟨l', z, hz⟩ : ∃ (l' : List Int) (z : Int), a :: l = l' ++ [z] := ⟨(a :: l).dropLast, (a :: l).getLast (by simp), (List.dropLast_concat_getLast (by simp)).symm⟩
        rw [hz] at D2
        have hln : l'.length + 1 ≤ 63 := by
          have z1 := D2.ln
          rw [List.length_append] at z1
          exact z1
        have elast : ((l' ++ [z]).map V.int)[((l' ++ [z]).map V.int).length - 1]? = some (.int z) := by simp
        have edrop : ((l' ++ [z]).map V.int).dropLast = l'.map V.int := by simp
        refine ⟨_, rfl, p, _, _, _, rfl, rfl, SqL.of D2.ob, c0, .inl ⟨rfl, _, SqL.of D2.ce⟩, q, _, _, rfl, rfl, D2.ce, elast, ?_⟩
        rw [edrop]
        have D3 : DeckAt (upd H2 q (.lst (l'.map V.int))) p q l' m (c + 1) := ⟨by rw [upd_ne hpq]; exact D2.ob, upd_same, D2.m0, D2.m1, D2.c0, D2.c1, by omega⟩
        have off3 : Off p q H (upd H2 q (.lst (l'.map V.int))) := off2.trans fun b o e _ h2 => by rw [upd_ne h2]; exact e
        generalize upd H2 q (.lst (l'.map V.int)) = H3 at D3 off3 ⊢
        -- if cell >= 10 ** 18
        refine ⟨_, rfl, _, _, rfl, rfl, ⟨by decide, by decide, by decide⟩, _, _, rfl, rfl, _, rfl, ?_⟩
        refine ite2 (fun _ => ?_) (fun _ => ?_)
        · refine ⟨_, rfl, p, _, _, _, rfl, rfl, SqL.of D3.ob, c0, .inl ⟨rfl, _, SqL.of D3.ce⟩, _, rfl, _, rfl, _, _, rfl, rfl, ⟨by omega, by omega⟩, q, _, _, rfl, rfl, D3.ce, (by rw [List.length_map, sizeLine_eq]; omega), ?_⟩
          have eapp : l'.map V.int ++ [V.int (z.fdiv n)] = (l' ++ [z.fdiv n]).map V.int := by simp
          rw [eapp]
          have D4 : DeckAt (upd H3 q (.lst ((l' ++ [z.fdiv n]).map V.int))) p q (l' ++ [z.fdiv n]) m (c + 1) :=
            ⟨by rw [upd_ne hpq]; exact D3.ob, upd_same, D3.m0, D3.m1, D3.c0, D3.c1, by rw [List.length_append]; exact hln⟩
          refine ⟨_, rfl, _, rfl, _, _, rfl, rfl, hn0, ?_⟩
          exact k _ _ _ (Int.emod_nonneg _ (by omega)) (Int.emod_lt_of_pos _ hn0) (off3.trans fun b o e _ h2 => by rw [upd_ne h2]; exact e) D4
        · refine ⟨_, rfl, _, rfl, p, _, _, _, rfl, rfl, SqL.of D3.ob, c1, _, _, rfl, rfl, ?_⟩
          exact ⟨_, l', rfl, off3, D3⟩
    · rintro σ' H' ⟨z, ns', rfl, off', D'⟩
      have ix2 := fun (g : Hp → Prop) => g
      refine ⟨_, rfl, _, _, rfl, rfl, (by show (0 : Int) < _; decide), _, rfl, p, _, _, _, rfl, rfl, SqL.of D'.ob, c2, _, _, rfl, rfl, .inl ⟨by decide, by decide⟩, _, rfl, p, _, _, _, rfl, rfl, SqL.of D'.ob, c2, _, _, rfl, rfl, .inl ⟨by have := D'.c0; omega, by have := D'.c1; omega⟩,
        _, _, rfl, rfl, _, _, rfl, rfl, _, _, rfl, rfl, .inr ⟨by decide, by decide⟩, _, _, rfl, rfl, (by show (0 : Int) < _; decide), ?_⟩
      generalize hx : (z % 2147483629 + 65539 * (c + 1) * (c + 1) + 29) * 39373 % 2147483647 = x
      have x0 : 0 ≤ x := by rw [← hx]; exact Int.emod_nonneg _ (by decide)
      have x1 : x < 2147483647 := by rw [← hx]; exact Int.emod_lt_of_pos _ (by decide)
      refine ⟨_, rfl, _, rfl, _, _, rfl, rfl, .inl ⟨by omega, by omega⟩, _, rfl, p, _, _, _, rfl, rfl, SqL.of D'.ob, c2, _, _, rfl, rfl, .inl ⟨by decide, by decide⟩, _, _, rfl, rfl, _, _, rfl, rfl, _, _, rfl, rfl, (by show (0 : Int) < _; decide), ?_⟩
      refine ⟨_, rfl, _, _, rfl, rfl, .inr ⟨by decide, by decide⟩, _, _, rfl, rfl, (by show (0 : Int) < _; decide), _, _, rfl, rfl, ⟨by decide, by decide⟩, _, rfl, _, _, rfl, rfl, hn0, ?_⟩
      exact k _ ns' H' (Int.emod_nonneg _ (by omega)) (Int.emod_lt_of_pos _ hn0) off' D'
theorem scPick : FnScope ["_law_deck_here", "_law_items"] ["_law_deck_here", "_law_items"] (defScope sPick) := ⟨rfl, rfl, rfl, by decide +kernel, rfl, by decide +kernel, by decide +kernel⟩
/-- one of the items, at some place -/
def spPick : Sp := fun vs H Q _ => ∃ (p q t : Addr) (ns : List Int) (m c : Int) (xs : List V), vs = [.ref p, .ref t] ∧ H t = some (.lst xs) ∧ t ≠ p ∧ t ≠ q ∧ 0 < xs.length ∧ xs.length ≤ 1000 ∧ DeckAt H p q ns m c ∧ c + 1 ≤ 1000000000 ∧
  ∀ (j : Nat) (x : V) (ns' : List Int) (H' : Hp), xs[j]? = some x → Off p q H H' → DeckAt H' p q ns' m (c + 1) → Q x H'
theorem ok_pick {f fD : Addr} {fd fdD : FuncData} (F : Fun K "_law_pick" "_law_pick" sPick f fd) (T : Nm mg) (FD : Fun K "_law_draw" "_law_draw" sDraw fD fdD) (bD : Binds K fdD ["_law_deck_here", "_law_bound"] []) (gD : mg "_law_draw" = some (.ref fD)) :
    FnOk P w K mg base CX0 2 f fd ["_law_deck_here", "_law_items"] spPick := by
  have GD : FnOk P w K mg base CX0 1 fD fdD ["_law_deck_here", "_law_bound"] spDraw := ok_draw FD
  refine F.ok scPick (fun vs H Q E h => ?_) (fun cdv A outer s H vs Q E hr h => ?_)
  · obtain ⟨p, q, t, ns, m, c, xs, rfl, _⟩ := h
    rfl
  · obtain ⟨p, q, t, ns, m, c, xs, rfl, ht, tp, tq, hx0, hx1, D, hc, k⟩ := h
    refine ⟨_, pss_one (ps_ret (pe_ix ix_list (pv 1) (pe_call GD hr rfl gD FD.kp bD .nil pass0 (pa_cons (pv 0) (pa_cons (pe_callB call_len_seq (by rfl) T.len PySem.boot_len (pa_cons (pv 1) pa_nil)) pa_nil))) (fun _ _ => rfl))), ?_⟩
    refine ⟨_, rfl, _, rfl, _, rfl, t, _, rfl, .inl (SqL.of ht), p, q, ns, m, c, (xs.length : Int), rfl, by omega, by omega, D, hc, fun i ns' H' h0 h1 off D' => ?_⟩
    obtain ⟨j, rfl⟩ : ∃ j : Nat, i = (j : Int) := ⟨i.toNat, by omega⟩
    have hj : j < xs.length := by omega
    exact ⟨t, xs, _, xs[j], rfl, rfl, SqL.of (off _ _ ht tp tq), atI_nat (List.getElem?_eq_getElem hj), k j _ ns' H' (List.getElem?_eq_getElem hj) off D'⟩
end
/-! ### the deck stands apart -/
def hide (p q : Addr) (H : Hp) : Hp := fun b => if b = p ∨ b = q then none else H b
/-- a deck at p with its cells at q, at most b choices made -/
def Dk (H : Hp) (p q : Addr) (b : Nat) : Prop := ∃ ns m c, DeckAt H p q ns m c ∧ c ≤ (b : Int)
section
variable {H H' : Hp} {p q t : Addr} {b : Nat}
theorem hide_sub (p q : Addr) (H : Hp) : Same (hide p q H) H := fun c o e => by
  unfold hide at e
  split at e
  · cases e
  · exact e
theorem hide_at {c : Addr} {o : HO} (h : H c = some o) (hp : c ≠ p) (hq : c ≠ q) : hide p q H c = some o := by
  unfold hide
  rw [if_neg (fun z => z.elim hp hq)]
  exact h
theorem hide_same (S : Same H H') : Same (hide p q H) (hide p q H') := fun c o e => by
  unfold hide at e ⊢
  split at e
  · cases e
  · rename_i h
    rw [if_neg h]
    exact S _ _ e
theorem hide_off (O : Off p q H H') : Same (hide p q H) (hide p q H') := fun c o e => by
  unfold hide at e ⊢
  split at e
  · cases e
  · rename_i h
    rw [if_neg h]
    exact O _ _ e (fun z => h (.inl z)) (fun z => h (.inr z))
theorem Dk.same (D : Dk H p q b) (S : Same H H') : Dk H' p q b := by
  obtain ⟨ns, m, c, D, h⟩ := D
  exact ⟨ns, m, c, D.same S, h⟩
theorem Dk.mono {b' : Nat} (D : Dk H p q b) (h : b ≤ b') : Dk H p q b' := by
  obtain ⟨ns, m, c, D, hc⟩ := D
  exact ⟨ns, m, c, D, by omega⟩
theorem Dk.new (D : Dk H p q b) (n : H t = none) : t ≠ p ∧ t ≠ q := by
  obtain ⟨ns, m, c, D, hc⟩ := D
  refine ⟨fun e => ?_, fun e => ?_⟩
  · rw [e, D.ob] at n
    cases n
  · rw [e, D.ce] at n
    cases n
theorem hide_new {o : HO} (D : Dk H p q b) (n : H t = none) : hide p q (upd H t o) t = some o := hide_at upd_same (D.new n).1 (D.new n).2
theorem hide_none (h : hide p q H t = none) (hp : t ≠ p) (hq : t ≠ q) : H t = none := by
  unfold hide at h
  rw [if_neg (fun z => z.elim hp hq)] at h
  exact h
/-- a choice of n -/
theorem draw_of {n : Int} {Q : VK} {E : XK} (D : Dk H p q b) (h0 : 0 < n) (h1 : n ≤ 1000000) (hb : b < 100000000) (k : ∀ (i : Nat) (H' : Hp), (i : Int) < n → Off p q H H' → Dk H' p q (b + 1) → Q (.int (i : Nat)) H') : spDraw [.ref p, .int n] H Q E := by
  obtain ⟨ns, m, c, D, hc⟩ := D
  refine ⟨p, q, ns, m, c, n, rfl, h0, h1, D, by omega, fun i ns' H' i0 i1 off D' => ?_⟩
  obtain ⟨j, rfl⟩ : ∃ j : Nat, i = j := ⟨i.toNat, by omega⟩
  exact k j H' i1 off ⟨ns', m, c + 1, D', by omega⟩
/-- one of the items of a list -/
theorem pick_of {xs : List V} {Q : VK} {E : XK} (D : Dk H p q b) (ht : H t = some (.lst xs)) (tp : t ≠ p) (tq : t ≠ q) (h0 : 0 < xs.length) (h1 : xs.length ≤ 1000) (hb : b < 100000000) (k : ∀ (j : Nat) (x : V) (H' : Hp), xs[j]? = some x → Off p q H H' → Dk H' p q (b + 1) → Q x H') : spPick [.ref p, .ref t] H Q E := by
  obtain ⟨ns, m, c, D, hc⟩ := D
  exact ⟨p, q, t, ns, m, c, xs, rfl, ht, tp, tq, h0, h1, D, by omega, fun j x ns' H' hx off D' => k j x H' hx off ⟨ns', m, c + 1, D', by omega⟩⟩
end
theorem dk_upd {H : Hp} {p q r : Addr} {b : Nat} {o : HO} (D : Dk H p q b) (h1 : r ≠ p) (h2 : r ≠ q) : Dk (upd H r o) p q b := by
  obtain ⟨ns, m, c, D, hc⟩ := D
  exact ⟨ns, m, c, ⟨by rw [upd_ne h1.symm]; exact D.ob, by rw [upd_ne h2.symm]; exact D.ce, D.m0, D.m1, D.c0, D.c1, D.ln⟩, hc⟩
theorem dk_ne {H : Hp} {p q a : Addr} {b : Nat} {xs : List V} (D : Dk H p q b) (h : H a = some (.tup xs)) : a ≠ p ∧ a ≠ q := by
  obtain ⟨ns, m, c, D, hc⟩ := D
  refine ⟨fun e => ?_, fun e => ?_⟩
  · rw [e, D.ob] at h
    cases h
  · rw [e, D.ce] at h
    cases h
end KB
set_option maxRecDepth 100000
set_option maxHeartbeats 4000000
namespace L2
open PySem PySem.Spec PyProof.Rows
section
variable {X : Cx}
/-- a list beside an empty list, a tuple beside an empty tuple -/
def rEmpty (neg : Bool) : R2 := fun x y H Q => ∃ (a b : Addr) (xs : List V), x = .ref a ∧ y = .ref b ∧ ((H a = some (.lst xs) ∧ H b = some (.lst [])) ∨ (H a = some (.tup xs) ∧ H b = some (.tup []))) ∧ Q (.bl (if neg then !xs.isEmpty else xs.isEmpty)) H
theorem nil_of {us : List Value} (r : Vals ([] : List V) us) : us = [] := by
  cases r
  rfl
theorem op_empty (hu : X.A.units < cLine) : OpR X (compareOp .Eq) (rEmpty false) := by
  intro pins s σ H x y v u Q I rx ry h
  obtain ⟨a, b, xs, rfl, rfl, h, q⟩ := h
  cases rx
  cases ry
  rcases h with ⟨ha, hb⟩ | ⟨ha, hb⟩
  · obtain ⟨its, rv, p, _⟩ := I.list (SqL.of ha)
    obtain ⟨its2, rv2, p2, _⟩ := I.list (SqL.of hb)
    obtain rfl := nil_of rv2
    cases xs with
    | nil =>
      obtain rfl := nil_of rv
      exact SeqAt.eq_listAt (e := fun _ => true) p.isList p2.isList rfl hu (fun j h1 h2 => absurd h1 (Nat.not_lt_zero _)) ⟨.bl true, H, I, rfl, q⟩
    | cons x0 l =>
      cases rv with
      | cons r0 rs => exact SeqAt.eq_list_lengthsAt p.isList p2.isList (by simp) hu ⟨.bl false, H, I, rfl, q⟩
  · obtain ⟨its, rv, p, _⟩ := I.tuple (SqT.of ha)
    obtain ⟨its2, rv2, p2, _⟩ := I.tuple (SqT.of hb)
    obtain rfl := nil_of rv2
    cases xs with
    | nil =>
      obtain rfl := nil_of rv
      exact SeqAt.eq_tupleAt (e := fun _ => true) p p2 hu (fun j h1 h2 => absurd h1 (Nat.not_lt_zero _)) ⟨.bl true, H, I, rfl, q⟩
    | cons x0 l =>
      cases rv with
      | cons r0 rs => exact SeqAt.eq_tupleAt (e := fun _ => true) p p2 hu (fun j h1 h2 => absurd h2 (Nat.not_lt_zero _)) ⟨.bl false, H, I, by simp [RelV], q⟩
theorem op_nempty (hu : X.A.units < cLine) : OpR X (compareOp .NotEq) (rEmpty true) := by
  intro pins s σ H x y v u Q I rx ry h
  obtain ⟨a, b, xs, rfl, rfl, h, q⟩ := h
  cases rx
  cases ry
  rcases h with ⟨ha, hb⟩ | ⟨ha, hb⟩
  · obtain ⟨its, rv, p, _⟩ := I.list (SqL.of ha)
    obtain ⟨its2, rv2, p2, _⟩ := I.list (SqL.of hb)
    obtain rfl := nil_of rv2
    cases xs with
    | nil =>
      obtain rfl := nil_of rv
      exact SeqAt.RcNeAt.lists (e := fun _ => true) p.isList p2.isList rfl hu (fun j h1 h2 => absurd h1 (Nat.not_lt_zero _)) _ _ _ _ ⟨.bl false, H, I, rfl, q⟩
    | cons x0 l =>
      cases rv with
      | cons r0 rs => exact SeqAt.RcNeAt.lists_lengths p.isList p2.isList (by simp) hu _ _ _ _ ⟨.bl true, H, I, rfl, q⟩
  · obtain ⟨its, rv, p, _⟩ := I.tuple (SqT.of ha)
    obtain ⟨its2, rv2, p2, _⟩ := I.tuple (SqT.of hb)
    obtain rfl := nil_of rv2
    cases xs with
    | nil =>
      obtain rfl := nil_of rv
      exact SeqAt.RcNeAt.tuples (e := fun _ => true) p p2 hu (fun j h1 h2 => absurd h1 (Nat.not_lt_zero _)) _ _ _ _ ⟨.bl false, H, I, rfl, q⟩
    | cons x0 l =>
      cases rv with
      | cons r0 rs => exact SeqAt.RcNeAt.tuples (e := fun _ => true) p p2 hu (fun j h1 h2 => absurd h2 (Nat.not_lt_zero _)) _ _ _ _ ⟨.bl true, H, I, by simp [RelV], q⟩
end
end L2
namespace L2
open PySem PySem.Spec PyProof.Rows
/-! ### repr of any such value, with ints of up to 4,300 digits and empty dicts at any place -/
mutual
def okInt : PyData → Prop
  | .int i => i.natAbs < 10 ^ 4300
  | .list l => okInts l
  | .tuple l => okInts l
  | _ => True
def okInts : List PyData → Prop
  | [] => True
  | d :: ds => okInt d ∧ okInts ds
end
section
variable {prog : Program} {w : World} {A : Around} {E : Value → Shared → Prop} {s : Shared}
theorem call_int_reprS {a : Int} {t : Tok} {Q : Value → Shared → Prop} (hn : s.heap.NoDigits) (hlt : a.natAbs < 10 ^ 4300) (h : Q (.str (toString a) s.toks) { s with toks := s.toks + 1 }) :
    wpAny (model prog w) A (call (.builtin "int.__repr__") [.int a t]) Q E s := by
  (refine wpAny_call_entry F.slot_int_repr (typeIs_int s a t) F.entry_int_repr ?_ (F.args_int_repr_1 _); unfold Builtin.«int.__repr__»)
  show wpAny (model prog w) _ (do let r ← Builtin.overDigitLimit? a; _) _ _ s
  exact wpAny_bind (overDigitLimit_any hn (fun _ => wpAny_bind (wpAny_mkStr (wpAny_pure ⟨_, rfl, h⟩) (int_text_fits10 hlt))) (fun hge => absurd hlt (Nat.not_lt.mpr hge)))
theorem pyReprObj_intS {a : Int} {t : Tok} {Q : Value → Shared → Prop} (hu : A.units < cLine) (hn : s.heap.NoDigits) (hlt : a.natAbs < 10 ^ 4300) (h : Q (.str (toString a) s.toks) { s with toks := s.toks + 1 }) :
    wpAny (model prog w) A (pyReprObj (.int a t)) Q E s :=
  wpAny_pyReprObj_slot hu (typeIs_int s a t) F.slot_int_repr.toG (call_int_reprS hn hlt ⟨_, _, rfl, h⟩)
theorem reprK_int {h₀ : Heap} {as : List Addr} {d : Nat} {a : Int} (t : Tok) (hn : h₀.NoDigits) (hlt : a.natAbs < 10 ^ 4300) : ReprK prog w as h₀ d (.int a t) (toString a) := by
  intro base hb A g E s Q _ _ hu hk0 hQ
  have hn' : base ≤ sizeLine := by omega
  (rw [pyReprUnder_leaf (v := .int a t) hn' (fun _ e => nomatch e)]; unfold pyRepr)
  exact wpAny_bind (pyReprObj_intS (by omega) (hn.keeps hk0) hlt (wpAny_pure (hQ s.heap _ fun _ _ e => e)))
end
end L2
namespace KB
open PySem PySem.Spec PyProof.Rows L2
section
variable {P : Program} {w : World} {H : Hp} {h : Heap}
mutual
theorem dat_repr (ok : HOk P w H h) (nd : h.NoDigits) : ∀ {v : V} {d : PyData} {u : Value}, Dat H v d → RelV v u → okInt d → d.shown.length ≤ sizeLine → ∃ as bs, Reads h u d as ∧ ReadAtMost h d.depth bs ∧ ReprK P w bs h d.depth u d.shown
  | _, _, _, .non, r, _, _ => by
    cases r
    exact ⟨[], [], .none, (fun _ z => nomatch z), by simp only [PyData.shown]; exact .of_is ReprIs.none _ _ _⟩
  | _, _, _, .bl b, r, _, _ => by
    cases r
    exact ⟨[], [], .bool b, (fun _ z => nomatch z), by simp only [PyData.shown]; exact .of_is (ReprIs.bool b) _ _ _⟩
  | _, _, _, .int i, r, hi, _ => by
    obtain ⟨t, rfl⟩ := r
    exact ⟨[], [], .int i t, (fun _ z => nomatch z), by simp only [PyData.shown]; exact reprK_int t nd (by simpa only [okInt] using hi)⟩
  | _, _, _, .str x _, r, _, hz => by
    obtain ⟨t, rfl⟩ := r
    exact ⟨[], [], .str x t, (fun _ z => nomatch z), by simp only [PyData.shown]; exact .of_is (ReprIs.str x t (by simpa only [PyData.shown] using hz)) _ _ _⟩
  | _, _, _, .lst (a := a) (xs := xs) (ds := ds) e t, r, hi, hz => by
    cases r
    obtain ⟨_, its, m, rv, ho⟩ := (show ObjOk P w H h a (.lst xs) from ok a _ e)
    have hz' : (listText (PyData.shownAll ds)).length ≤ sizeLine := by simpa only [PyData.shown] using hz
    obtain ⟨as, bs, ra, hb, hk⟩ := datAll_repr ok nd t rv (by simpa only [okInt] using hi) (fun q hq => Nat.le_trans (listText_mem_le hq) hz')
    have rl : Reads h (.ref a) (.list ds) _ := .list ho rfl rfl ra
    refine ⟨_, a :: bs, rl, ReadAtMost.cons rl (by simp only [PyData.depth]; omega) hb, ?_⟩
    have hna : a ∉ bs := not_mem_of_deeper rl (by simp only [PyData.depth]; omega) hb
    simp only [PyData.depth, PyData.shown]
    cases its with
    | nil =>
      cases ra
      simp only [PyData.shownAll, listText_nil]
      exact ReprK.listEmpty ho rfl rfl
    | cons x l => exact ReprK.list (na := _) ho rfl rfl hna (by simpa using hk.length_eq) (fun i y e' => hk.item i y (by simpa using e'))
  | _, _, _, .tup (a := a) (xs := xs) (ds := ds) e t, r, hi, hz => by
    cases r
    obtain ⟨_, its, rv, o, ho, hc, m, hd⟩ := (show ObjOk P w H h a (.tup xs) from Rd.ok e.lk ok)
    have hz' : (tupleText (PyData.shownAll ds)).length ≤ sizeLine := by simpa only [PyData.shown] using hz
    obtain ⟨as, bs, ra, hb, hk⟩ := datAll_repr ok nd t rv (by simpa only [okInt] using hi) (fun q hq => Nat.le_trans (tupleText_mem_le hq) hz')
    have rl : Reads h (.ref a) (.tuple ds) _ := .tuple ho hc hd ra
    refine ⟨_, a :: bs, rl, ReadAtMost.cons rl (by simp only [PyData.depth]; omega) hb, ?_⟩
    have hna : a ∉ bs := not_mem_of_deeper rl (by simp only [PyData.depth]; omega) hb
    simp only [PyData.depth, PyData.shown]
    exact ReprK.tuple ho hc hd hna hk
  | _, _, _, .d0 (a := a) e, r, _, _ => by
    cases r
    obtain ⟨_, ns, vs, kv, o, es, ep, ho, hx, hd, hk, hp, _⟩ := (show ObjOk P w H h a (.dK []) from ok a _ e)
    cases kv
    have e0 : es.toList = [] := by
      generalize es.toList = l at hp
      cases hp
      rfl
    have rl : Reads h (.ref a) (.dict []) (a :: [] ++ []) := .dict (kvs := []) ho hx.1 hd (by rw [e0]; exact .nil) (by rw [e0]; exact .nil)
    have hsys : (a == sysModules) = false := beq_eq_false_iff_ne.mpr fun z => by
      rw [z] at ns
      simp at ns
    refine ⟨_, [a], rl, ReadAtMost.cons (n := 0) rl (Nat.zero_le _) (fun _ z => nomatch z), ?_⟩
    have k := ReprK.dict (prog := P) (w := w) (as := []) (d := 0) (ps := []) ho hx.1 hd hsys (by simp) (by rw [e0]; exact .nil)
    have k' := k.level_le (d' := (PyData.dict []).depth) (by simp [PyData.depth, PyData.depthKv])
    simpa only [PyData.shown, PyData.shownKv] using k'
theorem datAll_repr (ok : HOk P w H h) (nd : h.NoDigits) : ∀ {vs : List V} {ds : List PyData} {us : List Value}, DatAll H vs ds → Vals vs us → okInts ds → (∀ t ∈ PyData.shownAll ds, t.length ≤ sizeLine) →
    ∃ as bs, ReadsAll h us ds as ∧ ReadAtMost h (PyData.depthAll ds) bs ∧ ReprAllK P w bs h (PyData.depthAll ds) us (PyData.shownAll ds)
  | _, _, _, .nil, .nil, _, _ => ⟨[], [], .nil, (fun _ z => nomatch z), by simp only [PyData.shownAll]; exact .nil⟩
  | _, _, _, .cons (d := d) (ds := ds) t ts, .cons r rs, hi, hz => by
    have hi' : okInt d ∧ okInts ds := by simpa only [okInts] using hi
    obtain ⟨as, b1, ra, hb1, k1⟩ := dat_repr ok nd t r hi'.1 (hz _ (by simp only [PyData.shownAll]; exact List.mem_cons_self ..))
    obtain ⟨cs, b2, rb, hb2, k2⟩ := datAll_repr ok nd ts rs hi'.2 (fun q hq => hz q (by simp only [PyData.shownAll]; exact List.mem_cons_of_mem _ hq))
    refine ⟨as ++ cs, b1 ++ b2, .cons ra rb, ?_, ?_⟩
    · simp only [PyData.depthAll]
      exact (hb1.mono (Nat.le_max_left _ _)).append (hb2.mono (Nat.le_max_right _ _))
    · simp only [PyData.depthAll, PyData.shownAll]
      refine .cons ((k1.more fun b hb => List.mem_append_left _ hb).level_le (Nat.le_max_left _ _)) ?_
      exact k2.more_le (fun b hb => List.mem_append_right _ hb) (Nat.le_max_right _ _)
end
end
section
variable {X : Cx}
theorem nodig {K : PySem.W.Frag} {mg : Str → Option Value} {h : Heap} (M : L2.Mod K mg h) (e : PySem.W.nsIn K cStatics "sys.int_max_str_digits" = some none) : h.NoDigits := by
  obtain ⟨mc, h1, _⟩ := M.nolimit
  exact ⟨mc, h1, PySem.W.ns_none_of M.kin h1 e⟩
def rReprD : List V → Hp → VK → Prop := fun xs H Q => ∃ v d, xs = [v] ∧ Dat H v d ∧ okInt d ∧ d.depth ≤ 64 ∧ d.shown.length ≤ sizeLine ∧ Q (.str d.shown) H
theorem call_reprD (hg : X.A.guards = some []) (hu : X.A.units + 128 < cLine) (e : PySem.W.nsIn X.K cStatics "sys.int_max_str_digits" = some none) : CallR X (.builtin "repr") rReprD := by
  intro pins s σ H xs us Q I r hh
  obtain ⟨v, d, rfl, th, hi, hd, hz, q⟩ := hh
  obtain ⟨u, rfl, ru⟩ := vals1 r
  have nd : s.heap.NoDigits := (nodig I.ok.mod e).keeps I.bk
  have done : ∀ (h' : Heap) (u tk : Nat), (∀ b o, s.heap.get? b = some o → h'.get? b = some o) → EP X pins σ Q (.str d.shown u) { s with heap := h', toks := tk } := fun h' u tk k => ⟨.str _, H, I.kept (t' := tk) k, ⟨_, rfl⟩, q⟩
  cases th with
  | non =>
    cases ru
    exact PySem.P.repr_of_none (by simpa only [PyData.shown] using done s.heap _ _ fun _ _ e => e)
  | bl b =>
    cases ru
    exact PySem.P.repr_of_bool (by simpa only [PyData.shown] using done s.heap _ _ fun _ _ e => e)
  | str x _ =>
    obtain ⟨t, rfl⟩ := ru
    exact PySem.P.repr_of_str (by simpa only [PyData.shown] using done s.heap _ _ fun _ _ e => e) (by simpa only [PyData.shown] using hz)
  | int i =>
    obtain ⟨t, rfl⟩ := ru
    refine call_repr_slot (by omega) (typeIs_int s i t) F.slot_int_repr.toG (call_int_reprS nd (by simpa only [okInt] using hi) ⟨_, _, rfl, ?_⟩)
    simpa only [PyData.shown] using done s.heap _ _ fun _ _ e => e
  | @lst a vs ds e1 t =>
    cases ru
    obtain ⟨_, its, m, rv, ho⟩ := (show ObjOk X.prog X.w H s.heap a (.lst vs) from I.hok a _ e1)
    have hz' : (listText (PyData.shownAll ds)).length ≤ sizeLine := by simpa only [PyData.shown] using hz
    obtain ⟨as, bs, ra, hb, hk⟩ := datAll_repr I.hok nd t rv (by simpa only [okInt] using hi) (fun q hq => Nat.le_trans (listText_mem_le hq) hz')
    have rl : Reads s.heap (.ref a) (.list ds) _ := .list ho rfl rfl ra
    have hna : a ∉ bs := not_mem_of_deeper rl (by simp only [PyData.depth]; omega) hb
    simp only [PyData.depth] at hd
    simp only [PyData.shown] at done
    refine call_repr_slot (by omega) ⟨_, ho, rfl⟩ F.slot_list_repr.toG ?_
    cases its with
    | nil =>
      cases ra
      simp only [PyData.shownAll, listText_nil] at done
      exact call_list_repr_empty ⟨_, ho, rfl⟩ ho rfl ⟨_, _, rfl, done s.heap _ _ fun _ _ e => e⟩
    | cons x l => exact call_list_reprK (h₀ := s.heap) ho rfl rfl hna (by simpa using hk.length_eq) (fun i y e => hk.item i y (by simpa using e)) (A := X.A.in1) (g := []) hg (fun b _ => Clear.nil b) (by show X.A.units + 1 + (PyData.depthAll ds + 1) < cLine; omega) (fun _ _ e => e) (fun h' u tk k => ⟨_, _, rfl, done h' u tk k⟩) hz'
  | @tup a vs ds e1 t =>
    cases ru
    obtain ⟨_, its, rv, o, ho, hc, m, hdd⟩ := (show ObjOk X.prog X.w H s.heap a (.tup vs) from Rd.ok e1.lk I.hok)
    have hz' : (tupleText (PyData.shownAll ds)).length ≤ sizeLine := by simpa only [PyData.shown] using hz
    obtain ⟨as, bs, ra, hb, hk⟩ := datAll_repr I.hok nd t rv (by simpa only [okInt] using hi) (fun q hq => Nat.le_trans (tupleText_mem_le hq) hz')
    have rl : Reads s.heap (.ref a) (.tuple ds) _ := .tuple ho hc hdd ra
    have hna : a ∉ bs := not_mem_of_deeper rl (by simp only [PyData.depth]; omega) hb
    simp only [PyData.depth] at hd
    simp only [PyData.shown] at done
    refine call_repr_slot (by omega) ⟨_, ho, hc⟩ F.slot_tuple_repr ?_
    exact call_tuple_reprK (h₀ := s.heap) ho hc hdd hna hk (A := X.A.in1) (g := []) hg (fun b _ => Clear.nil b) (by show X.A.units + 1 + (PyData.depthAll ds + 1) < cLine; omega) (fun _ _ e => e) (fun h' u tk k => ⟨_, _, rfl, done h' u tk k⟩) hz'
  | @d0 a e1 =>
    cases ru
    obtain ⟨_, ns, vs, kv, o, es, ep, ho, hx, hdd, hk, hp, _⟩ := (show ObjOk X.prog X.w H s.heap a (.dK []) from I.hok a _ e1)
    cases kv
    have e0 : es.toList = [] := by
      generalize es.toList = l at hp
      cases hp
      rfl
    have hsys : (a == sysModules) = false := beq_eq_false_iff_ne.mpr fun z => by
      rw [z] at ns
      simp at ns
    simp only [PyData.shown, PyData.shownKv] at done
    refine call_repr_slot (by omega) ⟨_, ho, hx.1⟩ F.slot_dict_repr ?_
    exact call_dict_reprK (h₀ := s.heap) (as := []) (d := 0) (ps := []) ho hx.1 hdd hsys (by simp) (by rw [e0]; exact .nil) (A := X.A.in1) (g := []) hg (fun b _ => Clear.nil b) (by show X.A.units + 1 + 1 < cLine; omega) (fun _ _ e => e) (fun h' u tk k => ⟨_, _, rfl, done h' u tk k⟩)
end
end KB
namespace L2
open PySem PySem.Spec PyProof.Rows
/-! ### a def that is called where no repr runs -/
structure FnG (P : Program) (w : World) (K : PySem.W.Frag) (mg : Str → Option Value) (base : Heap) (k : Nat) (f : Addr) (fd : FuncData) (ps : List Str) (sp : Sp) : Prop where
  len : ∀ vs H Q E, sp vs H Q E → vs.length = ps.length
  run : ∀ (A : Around) (outer : List Env) (s : Shared) (H : Hp) (args : Args) (us : List Value) (vs : List V) (Q : VK) (E : XK), A.guards = some [] → Room k A → Env0 P w K mg base A outer s H → BindsTo s fd args (ps.zip us) → Vals vs us → sp vs H Q E →
    codeAny (model P w) A (.call (.ref f) args) (CR CX0 outer P w H s Q E) s
section
variable {P : Program} {w : World} {K : PySem.W.Frag} {mg : Str → Option Value} {base : Heap}
theorem Fun.okG {x qual : Str} {st : Stmt} {f : Addr} {fd : FuncData} {N ps : List Str} {k : Nat} {sp : Sp} (F : Fun K x qual st f fd) (S : FnScope N ps (defScope st)) (len : ∀ vs H Q E, sp vs H Q E → vs.length = ps.length)
    (hbody : ∀ (cdv : Value) (A : Around) (outer : List Env) (s : Shared) (H : Hp) (vs : List V) (Q : VK) (E : XK), A.guards = some [] → Room k (A.deeper (envOfC qual (defScope st) s.heap.objs.size f cdv)) → sp vs H Q E →
      ∃ t, PSs (cxOf CX0 P w K mg base N qual (defScope st) f cdv A outer s H E).nox (defBody st) t ∧ t { nx := fun _ H' => Q .non H', rt := Q } (start N vs) H) : FnG P w K mg base (k + 1) f fd ps sp := by
  obtain ⟨oc, od, kV, doc, pm, an, cdv, ct, osl, rfl, lk, hcd⟩ := F.ex
  refine ⟨len, fun A outer s H args us vs Q E hg hr e0 hb r hsp => ?_⟩
  obtain ⟨t, ht, hq⟩ := hbody cdv A outer s H vs Q E hg (hr.deeper _) hsp
  have KX : K.In s.heap := e0.mod.kin.keeps fun b o z => (e0.bs b o z).1
  have inPar : ∀ y ∈ ps.zip us, (defScope st).names.lookup y.1 = some .local ∨ ((defScope st).names.lookup y.1 = some .cell ∧ ((cellsFrom (s.heap.objs.size + 1) (defScope st).names []).lookup y.1).isSome = true) := by
    intro y hy
    have hin : y.1 ∈ ps := (List.of_mem_zip (a := y.1) (b := y.2) hy).1
    rcases S.par y.1 hin with z | z
    · exact .inl z
    · exact .inr ⟨z, PySem.W.cellsFrom_some _ _ _ (.inl z)⟩
  refine codeAny_call_function hr.depth (KX _ _ lk) rfl S.co S.gen rfl (PySem.W.codeRec_of KX hcd) (hb _ _ _ _ ?_)
  refine wpAny_newFunctionEnv_cells S.kind inPar fun env he s1 ic => ?_
  subst he
  have I := inv_start (CX := CX0) (E := E) (cd := cdv) (qual := qual) (f := f) S hr.hd e0 (len _ _ _ _ hsp) r ic
  refine ⟨(e0.mod.nolimit.keeps fun b o z => (e0.bs b o z).1).keeps ic.toInCall.keep, codeAny_func ?_⟩
  refine wpAny_mono (ht.nox.run [] s1 (start N vs) H _ I hq) (fun fl s' q => ?_) fun _ _ z => z
  cases fl with
  | next =>
    obtain ⟨σ', H', J, z⟩ := q
    exact ⟨.non, H', J.os, J.bare, J.base, J.hok, rfl, z⟩
  | ret u =>
    obtain ⟨v, σ', H', J, rv, z⟩ := q
    exact ⟨v, H', J.os, J.bare, J.base, J.hok, rv, z⟩
  | brk =>
    obtain ⟨_, _, _, z⟩ := q
    exact z.elim
  | cont =>
    obtain ⟨_, _, _, z⟩ := q
    exact z.elim
end
section
variable {X : Cx} {k : Nat} {f : Addr} {fd : FuncData} {ps : List Str} {sp : Sp} {x : Str} {p pos : Pos} {e : Expr} {es : List Expr} {t : TA}
theorem pe_callG (F : FnG X.prog X.w X.K X.mg X.base k f fd ps sp) (hg : X.A.guards = some []) (hr : Room k X.A) (gl : Gl X x) (hm : X.mg x = some (.ref f)) (hk : PySem.W.keepIn X.K (.ref f) = true) (hb : Binds X.K fd ps []) (ha : PA X (e :: es) t)
    (hdb : (x == ("__debug__" : Str)) = false := by decide) (he : starEach (e :: es) X.env = (false, eval e X.env) :: starEach es X.env := by rfl) (hpl : (backTo pos (starEach es X.env)).any (·.1) = false := by rfl) :
    PE X (.Call (.Name x p) (e :: es) [] pos) (tCall sp [] E0 t) := by
  refine ⟨fun pins s σ H Q I h => ?_⟩
  refine wpAny_Call_Name_kw (ld_glob I gl hm ?_ hdb)
  refine PySem.W.callWith_K (h₀ := X.base) I.ok.mod.kin hk (thn (ha.run pos pins s σ H _ I h) fun us s1 hh => ?_) he hpl
  obtain ⟨vs, H1, I1, r, q⟩ := hh
  refine ⟨I1.kIn, ?_⟩
  have q' : sp vs H1 Q E0 := by
    have z : sp (vs ++ []) H1 Q E0 := q
    rw [List.append_nil] at z
    exact z
  have hl : us.length = ps.length := r.length.symm.trans (F.len _ _ _ _ q')
  have b := hb s1 us I1.kIn (by rw [List.append_nil]; exact hl)
  rw [List.append_nil] at b
  refine wpAny_call (codeAny_mono (F.run X.A X.stack s1 H1 ⟨us, []⟩ us vs Q E0 hg hr I1.env0 b r q') fun res s' z => ?_)
  cases res with
  | error er => exact False.elim z
  | ok fl =>
    cases fl with
    | ret u => exact I1.after z
    | next => exact False.elim z
    | brk => exact False.elim z
    | cont => exact False.elim z
end
end L2
namespace L2
open PySem PySem.Spec PyProof.Rows
section
variable {P : Program} {w : World} {K : PySem.W.Frag} {mg mb : Str → Option Value} {k : Nat} {fa a : Addr} {fd : FuncData} {x : Str} {sp : Sp} {s1 : Shared} {vs : List Value} {ns : List Int}
/-- the law's call where at most the script is tracked (at a) -/
theorem callG_at (KX : K.In s1.heap) (hns : s1.heap.Ns mainGlobals mg) (hb : s1.heap.Ns builtinsNs mb) (hbb : ∀ x : Str, x ≠ "__name__" → mb x = bootBuiltins x) (hlim : s1.heap.NoLimit) (hg : s1.gens = #[])
    (ha : s1.heap.get? a = some { cls := .type "list", data := .seq vs.toArray }) (hr : Room k callerA) (F : ∀ base : Heap, K.In base → base.Ns mainGlobals mg → FnG P w K mg base k fa fd [x] sp)
    (hbind : ∀ (s : Shared) (u : Value), BindsTo s fd ⟨[u], []⟩ [(x, u)]) (H : Hp) (hO : Only H) (hok : HOk P w H s1.heap) (hA : ∀ b, H b ≠ none → b = a) (hK : H a ≠ none → K.lookup a = none)
    (hsp : sp [.ref a] H (fun v _ => v = .bl true) fun _ _ _ => False) :
    codeAny (model P w) callerA (.call (.ref fa) ⟨[.ref a], []⟩) (fun r s' => r = .ok (.ret (.bool true)) ∧ OldK s1.heap s'.heap ∧ s'.os = s1.os ∧ AllBare s'.gens) s1 := by
  have free : ∀ {b : Addr} {o : Obj}, s1.heap.get? b = some o → o.data ≠ .seq vs.toArray → H b = none := by
    intro b o e hd
    cases q : H b with
    | none => rfl
    | some u =>
      have eb := hA b (by rw [q]; exact fun z => nomatch z)
      rw [eb, ha] at e
      cases e
      exact absurd rfl hd
  have nsB : ∀ {b : Addr} {m : Str → Option Value}, s1.heap.Ns b m → (hidT s1.heap H).Ns b m := by
    intro b m hn
    refine hn.at fun o e => hidT_get e ?_
    obtain ⟨o', es, ep, e', d, -⟩ := hn
    rw [e] at e'
    cases e'
    exact free e (by rw [d]; exact fun z => nomatch z)
  have KB : K.In (hidT s1.heap H) := fun b o e => by
    refine hidT_get (KX b o e) ?_
    cases q : H b with
    | none => rfl
    | some u =>
      have hb0 : H b ≠ none := by rw [q]; exact fun z => nomatch z
      have eb := hA b hb0
      rw [eb] at hb0 e
      rw [hK hb0] at e
      cases e
  have M : Mod K mg (hidT s1.heap H) := ⟨KB, nsB hns, ⟨mb, nsB hb, hbb⟩, by obtain ⟨mc, h1, h2⟩ := hlim; exact ⟨mc, nsB h1, h2⟩⟩
  have e0 : Env0 P w K mg (hidT s1.heap H) callerA [] s1 H := ⟨rfl, M, fun _ _ e => of_hidT e, Nat.le_of_eq (hidT_size _ _), trivial, fun b z => absurd (show b ∈ ([] : List Addr) from z) (List.not_mem_nil), hok, .of_eq hg⟩
  refine codeAny_mono ((F _ KB (nsB hns)).run callerA [] s1 H ⟨[.ref a], []⟩ [.ref a] [.ref a] _ _ rfl hr e0 (hbind s1 (.ref a)) (.cons rfl .nil) hsp) fun r s' z => ?_
  cases r with
  | error e => exact False.elim z
  | ok fl =>
    cases fl with
    | next => exact False.elim z
    | brk => exact False.elim z
    | cont => exact False.elim z
    | ret u =>
      obtain ⟨v, H', os, bare, un, hok', rv, q⟩ := z
      have q' : v = .bl true := q
      subst q'
      obtain rfl : u = Value.bool true := rv
      refine ⟨rfl, OldK.of_keep fun b o e => ?_, os, bare⟩
      cases qb : H b with
      | none => exact un.keep b o e qb (fun z => absurd (show b ∈ ([] : List Addr) from z) (List.not_mem_nil)) (List.not_mem_nil)
      | some y =>
        rcases hO b with z | ⟨ob, xs, z⟩
        · rw [qb] at z
          cases z
        · have e1 := (hok b _ z).1
          have e2 := (hok' b _ (un.frzs b ob _ z)).1
          rw [e] at e1
          cases e1
          exact e2
end
theorem walk_G {l : PySem.W.OpenLaw} {n k : Nat} {q : Program} {loose : List Str} {XP : (Str → Option Value) → Heap → Prop} {YP : World → Heap → Prop} {d : DefRec} {K : Params → PySem.W.Frag} {sp : PySem.W.Frag → Sp} {x : Str}
    (hn : l.most = some n) (hn2 : n ≤ sizeLine) (hdf : d.params.defaults = []) (hr : Room k callerA) (hY : ∀ (w : World) (h : Heap), YP w h → (K w.params).In h)
    (F : ∀ (w : World) (mg : Str → Option Value) (fa : Addr) (h : Heap), (K w.params).In h → h.Ns mainGlobals mg → mg d.name = some (.ref fa) →
      ∃ fd : FuncData, (∀ (s : Shared) (u : Value), BindsTo s fd ⟨[u], []⟩ [(x, u)]) ∧ ∀ base : Heap, (K w.params).In base → base.Ns mainGlobals mg → FnG l.prog w (K w.params) mg base k fa fd [x] (sp (K w.params)))
    (hsp : ∀ (K : PySem.W.Frag) (H : Hp) (a : Addr) (ns : List Int), ns.length ≤ n → Only H → SqL K H a (ns.map V.int) → sp K [.ref a] H (fun v _ => v = .bl true) fun _ _ _ => False) :
    PySem.W.WalkO q loose XP YP l.row.toRowW d [] (fun f vs => PySem.call f vs) := by
  refine Att.attach_call hn hdf fun w s₀ s1 mg mb fa o pm cd doc a vs ns G Y ho hd hcd hmg hobj hints hlen hg => ?_
  have KX := hY w _ Y
  obtain ⟨fd, hb, hF⟩ := F w mg fa _ KX G.T.g hmg
  have hl : ns.length ≤ sizeLine := Nat.le_trans hlen hn2
  have rv := vals_ints hints
  cases hk : (K w.params).lookup a with
  | some oa =>
    have e := KX a oa hk
    rw [hobj] at e
    cases e
    refine callG_at KX G.T.g G.T.b G.T.builtins G.T.nolimit hg hobj hr hF hb (fun _ => none) (fun _ => .inl rfl) (fun b u z => nomatch z) (fun b z => absurd rfl z) (fun z => absurd rfl z) (hsp _ _ a ns hlen (fun _ => .inl rfl) ?_)
    exact .inr ⟨_, vs.toArray, _, hk, rfl, rfl, rfl, by rw [List.size_toArray, hints.length]; exact hl, by simpa using rv⟩
  | none =>
    let H : Hp := fun b => if b = a then some (.frz { cls := .type "list", data := .seq vs.toArray } (.lst (ns.map V.int))) else none
    have Ha : H a = some (.frz { cls := .type "list", data := .seq vs.toArray } (.lst (ns.map V.int))) := if_pos rfl
    have Hn : ∀ {b : Addr}, b ≠ a → H b = none := fun h => if_neg h
    have only : Only H := fun b => by
      by_cases hb : b = a
      · exact .inr ⟨_, _, by rw [hb]; exact Ha⟩
      · exact .inl (Hn hb)
    refine callG_at KX G.T.g G.T.b G.T.builtins G.T.nolimit hg hobj hr hF hb H only (fun b u z => ?_) (fun b z => ?_) (fun _ => hk) (hsp _ H a ns hlen only (.inl (.inr ⟨_, Ha⟩)))
    · by_cases hb : b = a
      · rw [hb, Ha] at z
        cases z
        rw [hb]
        exact ⟨hobj, by rw [List.length_map]; exact hl, vs, _, rv, hobj⟩
      · rw [Hn hb] at z
        cases z
    · by_cases hb : b = a
      · exact hb
      · exact absurd (Hn hb) z
end L2
namespace L2
open PySem PySem.Spec PyProof.Rows
/-! ### f(k = v, ..), nothing by position -/
def tCallKw (sp : Sp) (gV : List V → List V → List V) (E : XK) (tk : TA) : TE := fun σ H Q => tk σ H fun zs H1 => sp (gV [] zs) H1 Q E
section
variable {X : Cx} {CX : CXT} {k : Nat} {f : Addr} {fd : FuncData} {ps ks : List Str} {sp : Sp} {E : XK} {x : Str} {p pos : Pos} {kws : List Keyword} {tk : TA} {g : List Value → List Value → List Value} {gV : List V → List V → List V}
theorem pe_callKw (F : FnOk X.prog X.w X.K X.mg X.base CX k f fd ps sp) (hr : Room k X.A) (hg : Gl X x) (hm : X.mg x = some (.ref f)) (hk : PySem.W.keepIn X.K (.ref f) = true) (hb : KBinds X.K fd ps ks g gV) (hx : Passes CX X E)
    (hkw : PK X kws tk) (hall : (backToKw pos (keywordEach kws X.env)).all (·.1.isSome) = true := by rfl) (hks : (backToKw pos (keywordEach kws X.env)).filterMap (·.1) = ks := by rfl) (hdb : (x == ("__debug__" : Str)) = false := by decide)
    (hpl : ((backTo pos (starEach [] X.env)).any (·.1) || (backToKw pos (keywordEach kws X.env)).any (·.1.isNone)) = false := by rfl) :
    PE X (.Call (.Name x p) [] kws pos) (tCallKw sp gV E tk) := by
  refine ⟨fun pins s σ H Q I h => wpAny_Call_Name_kw (ld_glob I hg hm ?_ hdb)⟩
  refine PySem.W.callWith_KW0 (h₀ := X.base) I.ok.mod.kin hk hall (thn (hkw.run pos pins s σ H _ I h) fun ws s2 hh => ?_) hpl
  obtain ⟨zs, H2, I2, rz, q2⟩ := hh
  refine ⟨I2.kIn, ?_⟩
  rw [hks]
  exact run_fnk (us := []) (vs := []) F hr hb hx I2 .nil rz q2
end
end L2
namespace KB
open PySem PySem.Spec PyProof.Rows L2
/-! ### written data: what it is, wherever it lies -/
def tDat (d : PyData) : TE := fun _ H Q => ∀ (v : V) (H' : Hp), Same H H' → Dat H' v d → Q v H'
def tDats (ds : List PyData) : TA := fun _ H Q => ∀ (vs : List V) (H' : Hp), Same H H' → DatAll H' vs ds → Q vs H'
section
variable {X : Cx} {e : Expr} {es : List Expr} {d : PyData} {ds : List PyData}
theorem pe_weak {t t' : TE} (h : PE X e t) (w : ∀ σ H Q, t' σ H Q → t σ H Q) : PE X e t' := ⟨fun pins s σ H Q I hq => h.run pins s σ H Q I (w σ H Q hq)⟩
theorem pa_weak {t t' : TA} (h : PA X es t) (w : ∀ σ H Q, t' σ H Q → t σ H Q) : PA X es t' := ⟨fun pos pins s σ H Q I hq => h.run pos pins s σ H Q I (w σ H Q hq)⟩
theorem pd_nil : PA X [] (tDats []) := pa_weak pa_nil fun σ H Q h => h [] H (Same.refl H) .nil
theorem pd_cons (a : PE X e (tDat d)) (b : PA X es (tDats ds)) (hs : starEach (e :: es) X.env = (false, eval e X.env) :: starEach es X.env := by rfl) : PA X (e :: es) (tDats (d :: ds)) :=
  pa_weak (pa_cons a b hs) fun σ H Q h v H1 S1 dv vs H2 S2 dvs => h (v :: vs) H2 (S1.trans S2) (.cons (dv.same S2) dvs)
theorem pd_tup {ctx : Nat} {pos : Pos} (hl : ds.length ≤ 1000) (a : PA X es (tDats ds)) : PE X (.Tuple es ctx pos) (tDat (.tuple ds)) :=
  pe_weak (pe_tupF a) fun σ H Q h vs H1 S1 dvs => ⟨by rw [dvs.len, sizeLine_eq]; omega, fun p o np no => h (.ref p) _ (S1.trans (same_new np)) (.tup (TP.fz upd_same no) (dvs.same (same_new np)))⟩
theorem pd_lst {pos : Pos} (hl : ds.length ≤ 1000) (a : PA X es (tDats ds)) : PE X (.List es pos) (tDat (.list ds)) :=
  pe_weak (pe_lst a) fun σ H Q h vs H1 S1 dvs => ⟨by rw [dvs.len, sizeLine_eq]; omega, fun p np => h (.ref p) _ (S1.trans (same_new np)) (.lst upd_same (dvs.same (same_new np)))⟩
theorem pd_of {v : V} (a : PE X e (tC v)) (h : ∀ H : Hp, Dat H v d) : PE X e (tDat d) := pe_weak a fun σ H Q q => q v H (Same.refl H) (h H)
theorem pd_none (a : PE X e (tC .non)) : PE X e (tDat .none) := pd_of a fun _ => .non
theorem pd_bool {b : Bool} (a : PE X e (tC (.bl b))) : PE X e (tDat (.bool b)) := pd_of a fun _ => .bl b
theorem pd_int {i : Int} (a : PE X e (tC (.int i))) : PE X e (tDat (.int i)) := pd_of a fun _ => .int i
theorem pd_str {x : Str} (hx : x.length ≤ 1000) (a : PE X e (tC (.str x))) : PE X e (tDat (.str x)) := pd_of a fun _ => .str x hx
theorem pd_neg {i : Int} {pos : Pos} (a : PE X e (tC (.int i))) : PE X (.UnaryOp .USub e pos) (tDat (.int (-i))) := pe_weak (pe_un un_neg a) fun σ H Q q => ⟨i, rfl, q _ H (Same.refl H) (.int _)⟩
theorem pd_dict {pos : Pos} : PE X (.Dict [] [] pos) (tDat (.dict [])) := pe_weak pe_dnewK fun σ H Q q p np => q (.ref p) _ (same_new np) (.d0 upd_same)
end
end KB
set_option maxRecDepth 100000
set_option maxHeartbeats 4000000
namespace KB
open PySem PySem.Spec PyProof.Rows L2
/-! ### counts of letters, numbers between -/
abbrev Cn : Type := List (Str × Nat)
def cntsD (cs : Cn) : PyData := .tuple (cs.map fun c => .tuple [.str c.1, .int (c.2 : Nat)])
def isS (z : Str) : PyData → Bool
  | .str y => decide (y = z)
  | _ => false
def intOf : PyData → Int
  | .int i => i
  | _ => 0
theorem btw_int {lo hi : Int} {d : PyData} (h : btw lo hi d = true) : ∃ i, d = .int i ∧ lo ≤ i ∧ i ≤ hi := by
  cases d with
  | int i =>
    have h' : (decide (lo ≤ i) && decide (i ≤ hi)) = true := h
    rw [Bool.and_eq_true] at h'
    exact ⟨i, rfl, of_decide_eq_true h'.1, of_decide_eq_true h'.2⟩
  | _ => cases h
theorem btw_mk {lo hi i : Int} (h1 : lo ≤ i) (h2 : i ≤ hi) : btw lo hi (.int i) = true := by
  show (decide (lo ≤ i) && decide (i ≤ hi)) = true
  rw [decide_eq_true h1, decide_eq_true h2]
  rfl
theorem isS_iff {z : Str} {d : PyData} : isS z d = true ↔ d = .str z := by
  cases d with
  | str y =>
    show decide (y = z) = true ↔ _
    rw [decide_eq_true_iff]
    constructor
    · rintro rfl
      rfl
    · intro h
      injection h
  | _ => exact ⟨(fun h => by cases h), (fun h => by cases h)⟩
end KB
set_option maxRecDepth 100000
set_option maxHeartbeats 4000000
namespace KB
open PySem PySem.Spec PyProof.Rows
open PySem.AutoSeq1 (wpAny_loadPart')
/-! ### a dict beside a text -/
theorem sub_str_dict : isSubtype (.type "str") (.type "dict") = pure false := by
  rw [isSubtype_type]
  kernel_rfl
theorem sub_dict_str : isSubtype (.type "dict") (.type "str") = pure false := by
  rw [isSubtype_type]
  kernel_rfl
theorem dict_no_str (l : Addr) (dd : Option Addr) (es : Array DictEntry) (ep : Nat) (sl : Array (Option Value)) (b : Str) (u : Tok) :
    Meets (Builtin.«dict.__eq__» ⟨[.ref l, .str b u], []⟩) (fun _ R s => s.heap.get? l = some { cls := .type "dict", dict := dd, data := .dict es ep, slots := sl } ∧ R (.ok (.ret .notImplemented)) s) :=
  .of_wp fun prog w A R s h => by
    obtain ⟨hp, g, d, tk, os⟩ := s
    obtain ⟨hl, h⟩ := h
    have f1 := sub_str_dict
    wp_walk using wpAny_loadPart' hl
    exact ⟨_, rfl, h⟩
theorem str_no_dict (l : Addr) (dd : Option Addr) (es : Array DictEntry) (ep : Nat) (sl : Array (Option Value)) (b : Str) (u : Tok) :
    Meets (Builtin.«str.__eq__» ⟨[.str b u, .ref l], []⟩) (fun _ R s => s.heap.get? l = some { cls := .type "dict", dict := dd, data := .dict es ep, slots := sl } ∧ R (.ok (.ret .notImplemented)) s) :=
  .of_wp fun prog w A R s h => by
    obtain ⟨hp, g, d, tk, os⟩ := s
    obtain ⟨hl, h⟩ := h
    wp_walk using wpAny_loadPart' hl, wpAny_load hl
    exact ⟨_, rfl, h⟩
end KB
namespace PySem.SeqAt
open PySem PyProof.Rows
theorem k2_dict_str {A : Around} {s : Shared} {l : Addr} {dd : Option Addr} {es : Array DictEntry} {ep : Nat} {sl : Array (Option Value)} (b : Str) (u : Tok) (hl : s.heap.get? l = some { cls := .type "dict", dict := dd, data := .dict es ep, slots := sl }) (hu : A.units < cLine) :
    RcAt A s (.ref l) (.str b u) false := fun prog w E Q h =>
  rc_eq_decline_or (k := false) ⟨_, hl, rfl⟩ (typeIs_str s b u) (by decide) KB.sub_str_dict PySem.F.slot_dict_eq F.slot_str_eq_refl
    (fun _ hq => call_meets PySem.F.slot_dict_eq ⟨_, hl, rfl⟩ PySem.F.entry_dict_eq (PySem.F.args_dict_eq_2 _ _) (KB.dict_no_str l dd es ep sl b u) ⟨hl, hq⟩)
    (fun _ hq => call_meets F.slot_str_eq_refl (typeIs_str s b u) F.entry_str_eq (F.args_str_eq_2 _ _) (KB.str_no_dict l dd es ep sl b u) ⟨hl, hq⟩)
    (fun _ hq => wpAny_of_eq (rfl : isSame (.ref l) (.str b u) = pure false) hq) (.inr hu) h
end PySem.SeqAt
namespace KB
open PySem PySem.Spec PyProof.Rows L2
/-- any value beside a text -/
def eqStr (z : Str) : PyData → Bool
  | .str x => x == z
  | _ => false
def rEqStr : R2 := fun x y H Q => ∃ d z, Dat H x d ∧ y = .str z ∧ Q (.bl (eqStr z d)) H
section
variable {X : Cx}
theorem op_eqStr (hu : X.A.units < cLine) : OpR X (compareOp .Eq) rEqStr := by
  intro pins s σ H x y v u Q I rx ry h
  obtain ⟨d, z, hd, rfl, q⟩ := h
  obtain ⟨t, rfl⟩ := ry
  have fin : ∀ k : Bool, k = eqStr z d → EP X pins σ Q (.bool k) s := fun k e => ⟨.bl k, H, I, rfl, by rw [e]; exact q⟩
  cases hd with
  | non =>
    cases rx
    exact PySem.SeqAt.RcAt.none_str z t _ _ _ _ (fin _ rfl)
  | bl b =>
    cases rx
    exact PySem.SeqAt.RcAt.bool_str b z t _ _ _ _ (fin _ rfl)
  | int i =>
    obtain ⟨t2, rfl⟩ := rx
    exact PySem.SeqAt.RcAt.int_str i t2 z t _ _ _ _ (fin _ rfl)
  | str x hx =>
    obtain ⟨t2, rfl⟩ := rx
    exact PySem.SeqAt.RcAt.str_str x t2 z t _ _ _ _ (fin _ rfl)
  | @lst a xs ds ha hx =>
    cases rx
    obtain ⟨its, rv, p, _⟩ := I.list (SqL.of ha)
    exact PySem.SeqAt.RcAt.list_str z t p.isList hu _ _ _ _ (fin _ rfl)
  | @tup a xs ds ha hx =>
    cases rx
    obtain ⟨its, rv, p, _⟩ := I.tuple (sqT_rd ha)
    exact PySem.SeqAt.RcAt.tuple_str z t p hu _ _ _ _ (fin _ rfl)
  | @d0 a ha =>
    cases rx
    obtain ⟨_, ns, vs, kv, o, es, ep, ho, hx, hd, hk, hp, _⟩ := (show ObjOk X.prog X.w H s.heap a (.dK []) from I.hok a _ ha)
    obtain ⟨oc, od, dt, sl⟩ := o
    have e1 : oc = .type "dict" := hx.1
    have e2 : dt = .dict es ep := hd
    subst e1 e2
    exact PySem.SeqAt.k2_dict_str z t ho hu _ _ _ _ (fin _ rfl)
end
end KB
namespace PySem.SeqAt
open PySem PyProof.Rows
theorem k2_str_dict {A : Around} {s : Shared} {l : Addr} {dd : Option Addr} {es : Array DictEntry} {ep : Nat} {sl : Array (Option Value)} (b : Str) (u : Tok) (hl : s.heap.get? l = some { cls := .type "dict", dict := dd, data := .dict es ep, slots := sl }) (hu : A.units < cLine) :
    EqAt A s (.str b u) (.ref l) false := fun prog w E Q h => by
  unfold eqBool
  refine wpAny_holding (wpAny_ite_split (fun hab => absurd (eq_of_beq hab) nofun) fun _ => wpAny_bind ?_)
  exact rc_eq_decline_or (k := false) (typeIs_str s b u) ⟨_, hl, rfl⟩ (by decide) KB.sub_dict_str F.slot_str_eq PySem.F.slot_dict_eq_refl
    (fun _ hq => call_meets F.slot_str_eq (typeIs_str s b u) F.entry_str_eq (F.args_str_eq_2 _ _) (KB.str_no_dict l dd es ep sl b u) ⟨hl, hq⟩)
    (fun _ hq => call_meets PySem.F.slot_dict_eq_refl ⟨_, hl, rfl⟩ PySem.F.entry_dict_eq (PySem.F.args_dict_eq_2 _ _) (KB.dict_no_str l dd es ep sl b u) ⟨hl, hq⟩)
    (fun _ hq => wpAny_of_eq (rfl : isSame (.str b u) (.ref l) = pure false) hq) (.inr hu) (wpAny_truthy_bool h)
end PySem.SeqAt
namespace KB
open PySem PySem.Spec PyProof.Rows L2
section
variable {X : Cx}
/-- a text among the items, held against any value -/
theorem str_eqAt {pins : List (Addr × Obj)} {σ : L2.St} {H : Hp} {s : Shared} {x : V} {v : Value} {d : PyData} (I : Inv X pins σ H s) (hd : Dat H x d) (rx : RelV x v) {A : Around} (hu : A.units < cLine) (z : Str) (t : Tok) : SeqAt.EqAt A s (.str z t) v (eqStr z d) := by
  cases hd with
  | non =>
    cases rx
    exact SeqAt.EqAt.str_none z t
  | bl b =>
    cases rx
    exact SeqAt.EqAt.str_bool z t b
  | int i =>
    obtain ⟨t2, rfl⟩ := rx
    exact SeqAt.EqAt.str_int z t i t2
  | str y hy =>
    obtain ⟨t2, rfl⟩ := rx
    have e : eqStr z (.str y) = (z == y) := by
      show (y == z) = (z == y)
      by_cases h : y = z
      · rw [h]
      · rw [beq_eq_false_iff_ne.mpr h, beq_eq_false_iff_ne.mpr (Ne.symm h)]
    rw [e]
    exact SeqAt.EqAt.str_str z t y t2
  | @lst a xs ds ha hx =>
    cases rx
    obtain ⟨its, rv, p, _⟩ := I.list (SqL.of ha)
    exact SeqAt.EqAt.str_list z t p.isList hu
  | @tup a xs ds ha hx =>
    cases rx
    obtain ⟨its, rv, p, _⟩ := I.tuple (sqT_rd ha)
    exact SeqAt.EqAt.str_tuple z t p hu
  | @d0 a ha =>
    cases rx
    obtain ⟨_, ns, vs, kv, o, es, ep, ho, hx, hd, hk, hp, _⟩ := (show ObjOk X.prog X.w H s.heap a (.dK []) from I.hok a _ ha)
    obtain ⟨oc, od, dt, sl⟩ := o
    have e1 : oc = .type "dict" := hx.1
    have e2 : dt = .dict es ep := hd
    subst e1 e2
    exact SeqAt.k2_str_dict z t ho hu
/-- x in (texts), x not in (texts) -/
def rInStrs (neg : Bool) : R2 := fun x y H Q => ∃ (d : PyData) (p : Addr) (zs : List Str), Dat H x d ∧ y = .ref p ∧ TP H p (zs.map V.str) ∧ Q (.bl (if neg then !zs.any fun z => eqStr z d else zs.any fun z => eqStr z d)) H
def eStr (d : PyData) : Value → Bool
  | .str z _ => eqStr z d
  | _ => false
theorem any_strs {d : PyData} : ∀ {zs : List Str} {its : List Value}, Vals (zs.map V.str) its → its.any (eStr d) = zs.any fun z => eqStr z d
  | [], _, .nil => rfl
  | z :: zs, _, .cons r rs => by
    obtain ⟨t, rfl⟩ := r
    rw [List.any_cons, List.any_cons, any_strs rs]
    rfl
theorem mem_strs {zs : List Str} {its : List Value} (r : Vals (zs.map V.str) its) : ∀ y ∈ its, ∃ z t, y = .str z t := by
  intro y hy
  obtain ⟨i, hi⟩ := List.mem_iff_getElem?.mp hy
  have hl := r.length
  have hlt := (List.getElem?_eq_some_iff.mp hi).1
  obtain ⟨x, hx⟩ : ∃ x, (zs.map V.str)[i]? = some x := ⟨_, List.getElem?_eq_getElem (by omega)⟩
  obtain ⟨u, hu, ru⟩ := r.get hx
  rw [hi] at hu
  cases hu
  rw [List.getElem?_map] at hx
  cases e : zs[i]? with
  | none =>
    rw [e] at hx
    cases hx
  | some z =>
    rw [e] at hx
    cases hx
    obtain ⟨t, rfl⟩ := ru
    exact ⟨z, t, rfl⟩
theorem op_notInStrs (hu : X.A.units + 1 < cLine) : OpR X (compareOp .NotIn) (rInStrs true) := by
  intro pins s σ H x y v u Q I rx ry h
  obtain ⟨d, p, zs, hd, rfl, hp, q⟩ := h
  cases ry
  obtain ⟨its, r, pl, _⟩ := I.tuple (sqT_rd hp)
  refine SeqAt.notIn_tupleAt (eStr d) pl (fun w hw => ?_) ⟨.bl _, H, I, rfl, ?_⟩
  · obtain ⟨z, t, rfl⟩ := mem_strs r w (by simpa using hw)
    exact str_eqAt I hd rx hu z t
  · rw [show its.toArray.any (eStr d) = its.any (eStr d) by simp, any_strs r]
    exact q
theorem op_inStrs (hu : X.A.units + 1 < cLine) : OpR X (compareOp .In) (rInStrs false) := by
  intro pins s σ H x y v u Q I rx ry h
  obtain ⟨d, p, zs, hd, rfl, hp, q⟩ := h
  cases ry
  obtain ⟨its, r, pl, _⟩ := I.tuple (sqT_rd hp)
  refine SeqAt.in_tupleAt (eStr d) pl (fun w hw => ?_) ⟨.bl _, H, I, rfl, ?_⟩
  · obtain ⟨z, t, rfl⟩ := mem_strs r w (by simpa using hw)
    exact str_eqAt I hd rx hu z t
  · rw [show its.toArray.any (eStr d) = its.any (eStr d) by simp, any_strs r]
    exact q
end
end KB
namespace KB
open PySem PySem.Spec PyProof.Rows L2
/-! ### promises -/
/-- a predicate of one value; no tracked object changes -/
def spP (f : PyData → Bool) : Sp := fun vs H Q _ => ∃ (v : V) (d : PyData), vs = [v] ∧ Dat H v d ∧ ∀ H', Same H H' → Q (.bl (f d)) H'
def spBtw : Sp := fun vs H Q _ => ∃ (v : V) (d : PyData) (lo hi : Int), vs = [v, .int lo, .int hi] ∧ Dat H v d ∧ ∀ H', Same H H' → Q (.bl (btw lo hi d)) H'
/-- a tuple of lo to hi items -/
def tupOf (lo hi : Int) : PyData → Bool
  | .tuple ds => decide (lo ≤ (ds.length : Int)) && decide ((ds.length : Int) ≤ hi)
  | _ => false
def spTup : Sp := fun vs H Q _ => ∃ (v : V) (d : PyData) (lo hi : Int), vs = [v, .int lo, .int hi] ∧ Dat H v d ∧ ∀ H', Same H H' → Q (.bl (tupOf lo hi d)) H'
section
variable {P : Program} {w : World} {K : PySem.W.Frag} {mg : Str → Option Value} {base : Heap}
end
end KB
set_option maxRecDepth 100000
set_option maxHeartbeats 4000000
namespace KB
open PySem PySem.Spec PyProof.Rows L2
/-- [f(x) for x in a tuple] -/
theorem lc_map {K : PySem.W.Frag} {H : Hp} {a : Addr} {xs : List V} {ds : List PyData} {g : TG} {te : TE} {vs : List Nat} {σ : L2.St} {D : Addr} {Qd : Hp → Prop} (f : PyData → V) (ha : TP H a xs) (hx : DatAll H xs ds) (hz : xs.length ≤ 1000000) (nD : H D = none)
    (hs : ∀ (i : Nat) (x : V) (d : PyData) (Hx : Hp), xs[i]? = some x → ds[i]? = some d → Dat Hx x d → Same H Hx → ∀ R : VK, (∀ H', Same Hx H' → R (f d) H') → g x (wipe σ vs) Hx fun σ2 H2 => wipe σ2 vs = wipe σ vs ∧ te σ2 H2 R)
    (mono : ∀ (x : V) (Hx : Hp) (A B : L2.St → Hp → Prop), (∀ σ2 H2, A σ2 H2 → B σ2 H2) → g x (wipe σ vs) Hx A → g x (wipe σ vs) Hx B)
    (hd : ∀ Hx, Same H Hx → Hx D = some (.lst (ds.map f)) → Qd Hx) :
    ∃ W : Nat → Nat → Hp → Prop, (∃ m, W 0 m (upd H D (.lst []))) ∧ ∀ i m H, W i m H →
      ((Itt K a).stop i H ∧ Qd H) ∨ ((Itt K a).go i H ∧ ∃ Nx : Hp → Prop, (∀ H', Nx H' → ∃ m', m' < m ∧ W (i + 1) m' H') ∧ ∀ x H', (Itt K a).yld i H x H' → g x (wipe σ vs) H' fun σ2 H2 => wipe σ2 vs = wipe σ vs ∧ tYes σ2 H2 fun b H3 =>
        if b = true then te σ2 H3 fun y H4 => ∃ acc, H4 D = some (.lst acc) ∧ acc.length < sizeLine ∧ Nx (upd H4 D (.lst (acc ++ [y]))) else Nx H3) := by
  refine lc_tup (K := K) (a := a) (xs := xs) (fun j Hx => Same H Hx ∧ Hx D = some (.lst ((ds.take j).map f))) ⟨same_new nD, upd_same⟩ (fun j Hx _ ⟨S, _⟩ => sqT_rd (upR ha S)) ?_ ?_
  · rintro i x Hx hi ⟨S, hD⟩
    obtain ⟨d, hdi, td⟩ := hx.get hi
    refine mono x Hx _ _ (fun σ2 H2 h => ⟨h.1, ?_⟩) (hs i x d Hx hi hdi (td.same S) S (fun y H4 => ∃ acc, H4 D = some (.lst acc) ∧ acc.length < sizeLine ∧ Same H (upd H4 D (.lst (acc ++ [y]))) ∧ upd H4 D (.lst (acc ++ [y])) D = some (.lst ((ds.take (i + 1)).map f))) fun H' S' => ?_)
    · dsimp only [tYes]
      first
        | exact if_t rfl h.2
        | exact h.2
    · have hi' : i < xs.length := (List.getElem?_eq_some_iff.mp hi).1
      refine ⟨_, S' _ _ hD, ?_, grow nD (S.trans S'), ?_⟩
      · rw [List.length_map, List.length_take, sizeLine_eq]
        omega
      · rw [upd_same, List.take_add_one, hdi]
        simp
  · rintro Hx ⟨S, hD⟩
    refine hd Hx S ?_
    rw [hD, hx.len, List.take_length]
theorem mono_name {i : Nat} {vs : List Nat} {σ : L2.St} : ∀ (x : V) (Hx : Hp) (A B : L2.St → Hp → Prop), (∀ σ2 H2, A σ2 H2 → B σ2 H2) → gName i x (wipe σ vs) Hx A → gName i x (wipe σ vs) Hx B := fun x Hx A B h a => h _ _ a
/-- any part of a tuple -/
theorem slAny_of {K : PySem.W.Frag} {H : Hp} {a : Addr} {xs : List V} {lo hi : Option Int} {Q : VK} (ha : TP H a xs) (hq : ∀ (b : Addr) (Hb : Hp), Same H Hb → TP Hb b (cutV xs lo hi) → Q (.ref b) Hb) : rSlF K (.ref a) lo hi H Q := by
  refine ⟨a, xs, rfl, sqT_rd ha, fun z => hq a H (Same.refl H) ?_, fun _ p o np no => hq p _ (same_new np) (TP.fz upd_same no)⟩
  have e : cutV xs lo hi = xs := by
    unfold cutV
    rw [z.1, z.2, List.drop_zero, Nat.sub_zero, List.take_length]
  rw [e]
  exact ha
/-- two tuples, one behind the other -/
theorem catA_of {K : PySem.W.Frag} {H : Hp} {a b : Addr} {xs ys : List V} {Q : VK} (ha : TP H a xs) (hb : TP H b ys) (hz : xs.length + ys.length ≤ sizeLine) (hq : ∀ (c : Addr) (Hc : Hp), Same H Hc → TP Hc c (xs ++ ys) → Q (.ref c) Hc) : rCatF K (.ref a) (.ref b) H Q := by
  refine ⟨a, b, xs, ys, rfl, rfl, sqT_rd ha, sqT_rd hb, hz, fun e => hq b H (Same.refl H) ?_, fun _ e => hq a H (Same.refl H) ?_, fun _ _ p o np no => hq p _ (same_new np) (TP.fz upd_same no)⟩
  · rw [e, List.nil_append]
    exact hb
  · rw [e, List.append_nil]
    exact ha
/-! ### questions of the parts -/
abbrev Tops : Type := List (Str × Int)
def kvT (t : Tops) : List (Key × V) := t.map fun p => (.inr p.1, .int p.2)
def takesB (t : Tops) (z : Str) (as : List PyData) : Bool := match t.lookup z, as with
  | some m, [a] => btw 0 m a
  | _, _ => false
theorem kv_get : ∀ (t : Tops) (z : Str), valV (kvT t) (.inr z) = (t.lookup z).map V.int
  | [], z => rfl
  | p :: t, z => by
    unfold kvT
    rw [List.map_cons, List.lookup]
    by_cases h : z = p.1
    · rw [show (z == p.1) = true by rw [h]; exact beq_self_eq_true _]
      exact valV_pos (by rw [h])
    · rw [beq_eq_false_iff_ne.mpr h]
      rw [valV_neg (fun e => h (by injection e with e; exact e.symm))]
      exact kv_get t z
def spTakes : Sp := fun vs H Q _ => ∃ (t a : Addr) (tp : Tops) (z : Str) (xs : List V) (as : List PyData), vs = [.ref t, .str z, .ref a] ∧ H t = some (.dK (kvT tp)) ∧ TP H a xs ∧ DatAll H xs as ∧ ∀ H', Same H H' → Q (.bl (takesB tp z as)) H'
/-- what a question's def gets: a part, the word, the arguments -/
def spQ (ok : Hp → List V → Prop) (f : Str → List PyData → Bool) : Sp := fun vs H Q _ => ∃ (a0 a : Addr) (ps : List V) (z : Str) (xs : List V) (as : List PyData), vs = [.ref a0, .str z, .ref a] ∧ TP H a0 ps ∧ ok H ps ∧ z.length ≤ 1000 ∧ TP H a xs ∧ DatAll H xs as ∧ ∀ H', Same H H' → Q (.bl (f z as)) H'
def subsetB (n k : Int) (z : Str) (as : List PyData) : Bool := takesB [("contains", n - 1), ("rank", n), ("select", k - 1)] z as
def cycleB (n : Int) (z : Str) (as : List PyData) : Bool := takesB [("successor", n - 1), ("predecessor", n - 1)] z as
def matchB (n : Int) (z : Str) (as : List PyData) : Bool := takesB [("partner", 2 * n - 1)] z as
def treeB (n : Int) (z : Str) (as : List PyData) : Bool := takesB [("parent", n - 1)] z as && !decide (intOf (as.headD .none) = 0)
def choiceB (z : Str) (as : List PyData) : Bool := decide (z = "selected") && decide (as.length = 0)
def totC (cs : Cn) : Int := (cs.map fun c => (c.2 : Int)).sum
def selB (cs : Cn) (l o : PyData) : Bool := cs.any fun c => eqStr c.1 l && btw 0 ((c.2 : Int) - 1) o
def wordB (cs : Cn) (z : Str) (as : List PyData) : Bool := if (decide (z = "select") && decide (as.length = 2)) = true then selB cs (as.getD 0 .none) (as.getD 1 .none) else takesB [("letter", totC cs - 1), ("prefix", totC cs), ("entry", totC cs - 1)] z as
def okSub (n k : Int) : Hp → List V → Prop := fun _ ps => ∃ x0, ps = [x0, .int n, .int k]
def okNum (n : Int) : Hp → List V → Prop := fun _ ps => ∃ x0 r, ps = x0 :: .int n :: r
def okCnt (cs : Cn) : Hp → List V → Prop := fun H ps => ∃ x0 x1 r, ps = x0 :: x1 :: r ∧ Dat H x1 (cntsD cs)
section
variable {P : Program} {w : World} {K : PySem.W.Frag} {mg : Str → Option Value} {base : Heap}
theorem disp_same {H1 : Hp} {p : Addr} {o : HO} (np : H1 p = none) : Same H1 (upd (upd H1 p (.dK [])) p o) := fun c o e => by
  rw [upd_ne (ne_of_none e np), upd_ne (ne_of_none e np)]
  exact e
theorem takes_one {t : Tops} {z : Str} {as : List PyData} (h : takesB t z as = true) : ∃ i : Int, as = [.int i] := by
  unfold takesB at h
  split at h
  · obtain ⟨i, rfl, _⟩ := btw_int h
    exact ⟨i, rfl⟩
  · cases h
end
end KB
set_option maxRecDepth 100000
set_option maxHeartbeats 4000000
namespace KB
open PySem PySem.Spec PyProof.Rows L2
/-! ### questions of words and decorated spaces -/
def cntD (c : Str × Nat) : PyData := .tuple [.str c.1, .int (c.2 : Nat)]
def cN : PyData → Int
  | .tuple [_, .int n] => n
  | _ => 0
def cS : PyData → Str
  | .tuple [.str s, _] => s
  | _ => ""
theorem cnt_at {H : Hp} {x : V} {c : Str × Nat} (h : Dat H x (cntD c)) : ∃ b : Addr, x = .ref b ∧ TP H b [.str c.1, .int (c.2 : Nat)] := by
  unfold cntD at h
  cases h with
  | @tup b ys _ hb hy =>
    cases hy with
    | cons h0 t0 =>
      cases t0 with
      | cons h1 t1 =>
        cases h0
        cases h1
        cases t1
        exact ⟨b, rfl, hb⟩
theorem sum_len10 : ∀ cs : Cn, ((cs.map cntD).map fun d => V.int (cN d)) = (cs.map fun c => (c.2 : Int)).map V.int
  | [] => rfl
  | c :: cs => by
    rw [List.map_cons, List.map_cons, List.map_cons, List.map_cons, sum_len10 cs]
    rfl
theorem sel_any (cs : Cn) (l o : PyData) : ((cs.map cntD).map fun d => V.bl (eqStr (cS d) l && btw 0 (cN d - 1) o)) = (cs.map fun c => (eqStr c.1 l && btw 0 ((c.2 : Int) - 1) o)).map V.bl := by
  rw [List.map_map, List.map_map]
  rfl
section
variable {P : Program} {w : World} {K : PySem.W.Frag} {mg : Str → Option Value} {base : Heap}
end
end KB
set_option maxRecDepth 100000
set_option maxHeartbeats 8000000
namespace KB
open PySem PySem.Spec PyProof.Rows L2
/-! ### names -/
/-- one sign from a to z -/
def azB (c : Nat) : Bool := !decide ([c] < ("a" : Str).cps.toList) && !decide (("z" : Str).cps.toList < [c])
def nameS (s : Str) : Bool := decide (1 ≤ (s.length : Int)) && decide ((s.length : Int) ≤ 6) && s.cps.toList.all azB
def nameB : PyData → Bool
  | .str s => nameS s
  | _ => false
section
variable {P : Program} {w : World} {K : PySem.W.Frag} {mg : Str → Option Value} {base : Heap}
end
/-! ### such values as the machine reads them -/
section
variable {P : Program} {w : World} {H : Hp} {h : Heap}
mutual
theorem Dat.reads (ok : HOk P w H h) : ∀ {v : V} {d : PyData} {u : Value}, Dat H v d → RelV v u → ∃ as, Reads h u d as
  | _, _, _, .non, r => ⟨[], by cases r; exact .none⟩
  | _, _, _, .bl b, r => ⟨[], by cases r; exact .bool b⟩
  | _, _, _, .int i, r => ⟨[], by obtain ⟨t, rfl⟩ := r; exact .int i t⟩
  | _, _, _, .str x _, r => ⟨[], by obtain ⟨t, rfl⟩ := r; exact .str x t⟩
  | _, _, _, .lst (a := a) (xs := xs) e t, r => by
    cases r
    obtain ⟨_, its, n, rv, ho⟩ := (show ObjOk P w H h a (.lst xs) from ok a _ e)
    obtain ⟨as, ra⟩ := DatAll.reads ok t rv
    exact ⟨_, .list ho rfl rfl ra⟩
  | _, _, _, .tup (a := a) (xs := xs) e t, r => by
    cases r
    obtain ⟨_, its, rv, o, ho, hc, m, hd⟩ := (show ObjOk P w H h a (.tup xs) from Rd.ok e.lk ok)
    obtain ⟨as, ra⟩ := DatAll.reads ok t rv
    exact ⟨_, .tuple ho hc hd ra⟩
  | _, _, _, .d0 (a := a) e, r => by
    cases r
    obtain ⟨_, ns, vs, kv, o, es, ep, ho, hx, hd, hk, hp, _⟩ := (show ObjOk P w H h a (.dK []) from ok a _ e)
    cases kv
    have e0 : es.toList = [] := by
      generalize es.toList = l at hp
      cases hp
      rfl
    exact ⟨a :: [] ++ [], .dict (kvs := []) ho hx.1 hd (by rw [e0]; exact .nil) (by rw [e0]; exact .nil)⟩
theorem DatAll.reads (ok : HOk P w H h) : ∀ {vs : List V} {ds : List PyData} {us : List Value}, DatAll H vs ds → Vals vs us → ∃ as, ReadsAll h us ds as
  | _, _, _, .nil, .nil => ⟨[], .nil⟩
  | _, _, _, .cons t ts, .cons r rs => by
    obtain ⟨as, ra⟩ := Dat.reads ok t r
    obtain ⟨bs, rb⟩ := DatAll.reads ok ts rs
    exact ⟨as ++ bs, .cons ra rb⟩
end
end
/-! ### < of two values of one form -/
section
variable {X : Cx}
def rLtDat : R2 := fun x y H Q => ∃ d e, Dat H x d ∧ Dat H y e ∧ PySem.W.alike d e = true ∧ d ≠ .none ∧ d.depth ≤ 60 ∧ Q (.bl (PySem.W.dataLt d e)) H
theorem op_ltDat (hu : X.A.units + 64 < cLine) : OpR X (compareOp .Lt) rLtDat := by
  intro pins s σ H x y v u Q I rx ry h
  obtain ⟨d, e, hd, he, ha, hn, hz, q⟩ := h
  obtain ⟨as, r1⟩ := hd.reads I.hok rx
  obtain ⟨bs, r2⟩ := he.reads I.hok ry
  exact PySem.W.lt_data r1 r2 ha hn (by omega) ⟨.bl _, H, I, rfl, q⟩
end
/-! ### strictly ascending -/
/-- neighbours that can be compared -/
def AscOk (ds : List PyData) : Prop := ∀ i, i + 1 < ds.length → PySem.W.alike (ds.getD i .none) (ds.getD (i + 1) .none) = true ∧ ds.getD i .none ≠ .none ∧ (ds.getD i .none).depth ≤ 60
def ascB (ds : List PyData) : Bool := (List.range (ds.length - 1)).all fun i => PySem.W.dataLt (ds.getD i .none) (ds.getD (i + 1) .none)
def spAsc : Sp := fun vs H Q _ => ∃ (a : Addr) (xs : List V) (ds : List PyData), vs = [.ref a] ∧ (H a = some (.lst xs) ∨ TP H a xs) ∧ DatAll H xs ds ∧ AscOk ds ∧ ∀ H', Same H H' → Q (.bl (ascB ds)) H'
theorem cut1 (xs : List V) : cutV xs (some 1) none = xs.drop 1 := by
  unfold cutV
  have e1 : HT.sIx xs.length 0 (some 1) = min 1 xs.length := HT.sIx_nat xs.length 0 1
  have e2 : HT.sIx xs.length xs.length none = xs.length := HT.sIx_none _ _
  rw [e1, e2]
  cases xs with
  | nil => rfl
  | cons x l =>
    have e3 : min 1 (x :: l).length = 1 := by
      rw [List.length_cons]
      omega
    rw [e3]
    exact List.take_of_length_le (by simp)
/-- t[1:] -/
theorem slA_of {K : PySem.W.Frag} {H : Hp} {a : Addr} {xs : List V} {Q : VK} (ha : TP H a xs) (hq : ∀ (b : Addr) (Hb : Hp), Same H Hb → TP Hb b (xs.drop 1) → Q (.ref b) Hb) : rSlF K (.ref a) (some 1) none H Q := by
  refine ⟨a, xs, rfl, sqT_rd ha, fun z => ?_, fun _ p o np no => ?_⟩
  · have e1 : HT.sIx xs.length 0 (some 1) = min 1 xs.length := HT.sIx_nat xs.length 0 1
    have e2 : min 1 xs.length = 0 := e1.symm.trans z.1
    cases xs with
    | nil => exact hq a H (fun _ _ e => e) ha
    | cons x l =>
      rw [List.length_cons] at e2
      omega
  · rw [cut1]
    exact hq p _ (same_new np) (TP.fz upd_same no)
section
variable {K : PySem.W.Frag} {a b : Addr} {xs ys : List V}
theorem walk_zip2 {n : Nat} (hn : n = min xs.length ys.length) : Walk (RZ.ItzT K a b) n (fun H => SqT K H a xs ∧ SqT K H b ys) (YPair (fun i => xs[i]?) (fun i => ys[i]?)) := by
  subst hn
  constructor
  · intro i _ hi q
    exact ⟨xs, ys, xs[i]'(by omega), ys[i]'(by omega), q.1, q.2, List.getElem?_eq_getElem (by omega), List.getElem?_eq_getElem (by omega)⟩
  · intro _ q
    exact ⟨xs, ys, q.1, q.2, by omega⟩
  · intro i H v H' _ q y
    obtain ⟨T, x, z, e1, e2, e3, e4, e5⟩ := y
    exact ⟨T, x, z, e1, e2, e3, e4 _ q.1, e5 _ q.2⟩
end
section
variable {P : Program} {w : World} {K : PySem.W.Frag} {mg : Str → Option Value} {base : Heap}
/-- one turn of the list of comparisons -/
theorem asc_turn {H Hx : Hp} {D : Addr} {xs : List V} {ds : List PyData} {j : Nat} {x y : V} {U : Addr} (nD : H D = none) (S : Same H Hx) (hD : Hx D = some (.lst ((List.range j).map fun i => V.bl (PySem.W.dataLt (ds.getD i .none) (ds.getD (i + 1) .none)))))
    (hx : DatAll H xs ds) (ok : AscOk ds) (h1 : xs[j]? = some x) (h2 : (xs.drop 1)[j]? = some y) (hj : j < 1000000) (nU : Hx U = none) :
    rLtDat x y (upd Hx U (.tup [x, y])) (fun z H4 => ∃ acc, H4 D = some (.lst acc) ∧ acc.length < sizeLine ∧ Same H (upd H4 D (.lst (acc ++ [z]))) ∧ upd H4 D (.lst (acc ++ [z])) D = some (.lst ((List.range (j + 1)).map fun i => V.bl (PySem.W.dataLt (ds.getD i .none) (ds.getD (i + 1) .none))))) := by
  have S1 := S.trans (same_new (o := HO.tup [x, y]) nU)
  obtain ⟨d, hd, td⟩ := hx.get h1
  have h2' : xs[j + 1]? = some y := by
    rw [List.getElem?_drop] at h2
    rw [Nat.add_comm]
    exact h2
  obtain ⟨e, he, te⟩ := hx.get h2'
  have g1 : ds.getD j .none = d := by rw [List.getD_eq_getElem?_getD, hd]; rfl
  have g2 : ds.getD (j + 1) .none = e := by rw [List.getD_eq_getElem?_getD, he]; rfl
  have hlt : j + 1 < ds.length := by
    have z := (List.getElem?_eq_some_iff.mp he).1
    exact z
  obtain ⟨o1, o2, o3⟩ := ok j hlt
  rw [g1, g2] at o1
  rw [g1] at o2 o3
  refine ⟨d, e, td.same S1, te.same S1, o1, o2, o3, _, same_new nU _ _ hD, ?_, grow nD S1, ?_⟩
  · rw [List.length_map, List.length_range, sizeLine_eq]
    omega
  · rw [upd_same, List.range_succ, List.map_append]
    show _ = some (HO.lst (_ ++ [V.bl (PySem.W.dataLt (ds.getD j .none) (ds.getD (j + 1) .none))]))
    rw [g1, g2]
end
end KB
set_option maxRecDepth 100000
set_option maxHeartbeats 8000000
namespace KB
open PySem PySem.Spec PyProof.Rows L2
/-! ### [p(x) for x in a tuple] -/
theorem lc_all {K : PySem.W.Frag} {H : Hp} {a : Addr} {xs : List V} {ds : List PyData} {g : TG} {te : TE} {vs : List Nat} {σ : L2.St} {D : Addr} {Qd : Hp → Prop} (p : PyData → Bool) (ha : TP H a xs) (hx : DatAll H xs ds) (hz : xs.length ≤ 1000000) (nD : H D = none)
    (hs : ∀ (i : Nat) (x : V) (d : PyData) (Hx : Hp), xs[i]? = some x → ds[i]? = some d → Dat Hx x d → Same H Hx → ∀ R : VK, (∀ H', Same Hx H' → R (.bl (p d)) H') → g x (wipe σ vs) Hx fun σ2 H2 => wipe σ2 vs = wipe σ vs ∧ te σ2 H2 R)
    (mono : ∀ (x : V) (Hx : Hp) (A B : L2.St → Hp → Prop), (∀ σ2 H2, A σ2 H2 → B σ2 H2) → g x (wipe σ vs) Hx A → g x (wipe σ vs) Hx B)
    (hd : ∀ Hx, Same H Hx → Hx D = some (.lst ((ds.map p).map V.bl)) → Qd Hx) :
    ∃ W : Nat → Nat → Hp → Prop, (∃ m, W 0 m (upd H D (.lst []))) ∧ ∀ i m H, W i m H →
      ((Itt K a).stop i H ∧ Qd H) ∨ ((Itt K a).go i H ∧ ∃ Nx : Hp → Prop, (∀ H', Nx H' → ∃ m', m' < m ∧ W (i + 1) m' H') ∧ ∀ x H', (Itt K a).yld i H x H' → g x (wipe σ vs) H' fun σ2 H2 => wipe σ2 vs = wipe σ vs ∧ tYes σ2 H2 fun b H3 =>
        if b = true then te σ2 H3 fun y H4 => ∃ acc, H4 D = some (.lst acc) ∧ acc.length < sizeLine ∧ Nx (upd H4 D (.lst (acc ++ [y]))) else Nx H3) := by
  refine lc_tup (K := K) (a := a) (xs := xs) (fun j Hx => Same H Hx ∧ Hx D = some (.lst (((ds.take j).map p).map V.bl))) ⟨same_new nD, upd_same⟩ (fun j Hx _ ⟨S, _⟩ => sqT_rd (upR ha S)) ?_ ?_
  · rintro i x Hx hi ⟨S, hD⟩
    obtain ⟨d, hdi, td⟩ := hx.get hi
    refine mono x Hx _ _ (fun σ2 H2 h => ⟨h.1, ?_⟩) (hs i x d Hx hi hdi (td.same S) S (fun y H4 => ∃ acc, H4 D = some (.lst acc) ∧ acc.length < sizeLine ∧ Same H (upd H4 D (.lst (acc ++ [y]))) ∧ upd H4 D (.lst (acc ++ [y])) D = some (.lst (((ds.take (i + 1)).map p).map V.bl))) fun H' S' => ?_)
    · dsimp only [tYes]
      first
        | exact if_t rfl h.2
        | exact h.2
    · have hi' : i < xs.length := (List.getElem?_eq_some_iff.mp hi).1
      refine ⟨_, S' _ _ hD, ?_, grow nD (S.trans S'), ?_⟩
      · rw [List.length_map, List.length_map, List.length_take, sizeLine_eq]
        omega
      · rw [upd_same, List.take_add_one, hdi]
        simp
  · rintro Hx ⟨S, hD⟩
    refine hd Hx S ?_
    rw [hD, hx.len, List.take_of_length_le (Nat.le_refl _)]
theorem all_bools {K : PySem.W.Frag} {H : Hp} {D : Addr} {bs : List Bool} {Q : VK} (h : H D = some (.lst (bs.map V.bl))) (q : Q (.bl (bs.all id)) H) : rAll K [.ref D] H Q := ⟨D, bs, rfl, SqL.of h, q⟩
def tupItems : PyData → List PyData
  | .tuple ds => ds
  | _ => []
def statesB (d : PyData) : Bool := tupOf 0 8 d && ((tupItems d).all (btw 0 7) && ascB (tupItems d))
theorem tupOf_len {lo hi : Int} {d : PyData} (h : tupOf lo hi d = true) : ∃ ds, d = .tuple ds ∧ lo ≤ (ds.length : Int) ∧ (ds.length : Int) ≤ hi := by
  cases d with
  | tuple ds =>
    have h' : (decide (lo ≤ (ds.length : Int)) && decide ((ds.length : Int) ≤ hi)) = true := h
    rw [Bool.and_eq_true] at h'
    exact ⟨ds, rfl, of_decide_eq_true h'.1, of_decide_eq_true h'.2⟩
  | _ => cases h
theorem all_btw {lo hi : Int} {ds : List PyData} (h : ds.all (btw lo hi) = true) : ∀ d ∈ ds, ∃ i, d = .int i := fun d hd => by
  obtain ⟨i, e, _⟩ := btw_int (List.all_eq_true.mp h d hd)
  exact ⟨i, e⟩
theorem asc_ints {ds : List PyData} (h : ∀ d ∈ ds, ∃ i, d = .int i) : AscOk ds := fun i hi => by
  have g : ∀ j, j < ds.length → ∃ z, ds.getD j .none = .int z := fun j hj => by
    obtain ⟨z, e⟩ := h ds[j] (List.getElem_mem hj)
    exact ⟨z, by rw [List.getD_eq_getElem?_getD, List.getElem?_eq_getElem hj]; exact e⟩
  obtain ⟨x, ex⟩ := g i (by omega)
  obtain ⟨y, ey⟩ := g (i + 1) hi
  rw [ex, ey]
  exact ⟨by simp [PySem.W.alike], by simp, by simp [PyData.depth]⟩
section
variable {P : Program} {w : World} {K : PySem.W.Frag} {mg : Str → Option Value} {base : Heap}
/-- as for Pre.GA: a tuple that is short -/
theorem asc_tup {H : Hp} {a : Addr} {xs : List V} {ds : List PyData} {Q : VK} {E : XK} (ha : TP H a xs) (hx : DatAll H xs ds) (hz : xs.length < 1000000) (ok : AscOk ds) (q : ∀ H', Same H H' → Q (.bl (ascB ds)) H') :
    spAsc [.ref a] H Q E ∧ ∀ b ys, (H b = some (.lst ys) ∨ TP H b ys) → ([V.ref a] : List V) = [.ref b] → ys.length < 1000000 := by
  refine ⟨⟨a, xs, ds, rfl, .inr ha, hx, ok, q⟩, fun b ys h e => ?_⟩
  injection e with e _
  injection e with e
  subst e
  rcases h with h | h
  · exact (ha.noL h).elim
  · rw [← ha.uniq h]
    exact hz
theorem asc_lst {H : Hp} {a : Addr} {xs : List V} {ds : List PyData} {Q : VK} {E : XK} (ha : H a = some (.lst xs)) (hx : DatAll H xs ds) (hz : xs.length < 1000000) (ok : AscOk ds) (q : ∀ H', Same H H' → Q (.bl (ascB ds)) H') :
    spAsc [.ref a] H Q E ∧ ∀ b ys, (H b = some (.lst ys) ∨ TP H b ys) → ([V.ref a] : List V) = [.ref b] → ys.length < 1000000 := by
  refine ⟨⟨a, xs, ds, rfl, .inl ha, hx, ok, q⟩, fun b ys h e => ?_⟩
  injection e with e _
  injection e with e
  subst e
  rcases h with h | h
  · rw [ha] at h
    cases h
    exact hz
  · exact (h.noL ha).elim
end
end KB
set_option maxRecDepth 100000
set_option maxHeartbeats 8000000
namespace KB
open PySem PySem.Spec PyProof.Rows L2
def permB (n : Int) (z : Str) (as : List PyData) : Bool := takesB [("image", n - 1), ("preimage", n - 1)] z as
/-- a tuple of names, ascending (what is_ascending may be asked: short, and all are texts) -/
def letsB (d : PyData) : Bool := isTup d && ((tupItems d).all nameB && ascB (tupItems d))
theorem asc_names {ds : List PyData} (h : ∀ d ∈ ds, ∃ s, d = .str s) : AscOk ds := fun i hi => by
  have g : ∀ j, j < ds.length → ∃ z, ds.getD j .none = .str z := fun j hj => by
    obtain ⟨z, e⟩ := h ds[j] (List.getElem_mem hj)
    exact ⟨z, by rw [List.getD_eq_getElem?_getD, List.getElem?_eq_getElem hj]; exact e⟩
  obtain ⟨x, ex⟩ := g i (by omega)
  obtain ⟨y, ey⟩ := g (i + 1) hi
  rw [ex, ey]
  exact ⟨by simp [PySem.W.alike], by simp, by simp [PyData.depth]⟩
theorem name_is {d : PyData} (h : nameB d = true) : ∃ s, d = .str s := by
  cases d with
  | str s => exact ⟨s, rfl⟩
  | _ => cases h
def spLets : Sp := fun vs H Q _ => ∃ (v : V) (d : PyData), vs = [v] ∧ Dat H v d ∧ (tupItems d).length ≤ 1000 ∧ ∀ H', Same H H' → Q (.bl (letsB d)) H'
section
variable {P : Program} {w : World} {K : PySem.W.Frag} {mg : Str → Option Value} {base : Heap}
end
end KB
set_option maxRecDepth 100000
set_option maxHeartbeats 8000000
namespace KB
open PySem PySem.Spec PyProof.Rows L2
/-! ### asks_walk -/
theorem and_one (x : Int) : Builtin.bitAnd x 1 = x % 2 := by
  by_cases h : 0 ≤ x
  · rw [bitAnd_pp h (by decide)]
    have e : (1 : Int).toNat = 1 := rfl
    rw [e, Nat.and_one_is_mod]
    omega
  · rw [bitAnd_np h (by decide)]
    have e : (1 : Int).toNat = 1 := rfl
    have e2 : Builtin.bitNot x = -x - 1 := rfl
    rw [e, e2, Nat.and_comm, Nat.and_one_is_mod]
    omega
theorem inV2 (z x y : Str) : inV (.str z) [.str x, .str y] = (decide (z = x) || decide (z = y)) := by
  have e : ∀ a : Str, eqV (.str a) (.str z) = decide (z = a) := fun a => by
    show (a == z) = decide (z = a)
    by_cases h : z = a
    · rw [decide_eq_true h, h]
      exact beq_self_eq_true _
    · rw [decide_eq_false h]
      exact beq_eq_false_iff_ne.mpr fun y => h y.symm
  unfold inV
  rw [List.any_cons, List.any_cons, e, e, List.any_nil, Bool.or_false]
def topsW (n s e : Int) : Tops := if (n + e - s) % 2 = 0 then [("height", n), ("up", (n + e - s) / 2 - 1), ("down", (n - e + s) / 2 - 1)] else [("height", n)]
def walkB (n s e : Int) (z : Str) (as : List PyData) : Bool := if ((decide (z = "first_visit") || decide (z = "last_visit")) && decide (as.length = 2)) = true then btw 0 n (as.getD 0 .none) && isInt (as.getD 1 .none) else takesB (topsW n s e) z as
def okWalk (n s e : Int) : Hp → List V → Prop := fun _ ps => ∃ x0 x4 x5, ps = [x0, .int n, .int s, .int e, x4, x5]
section
variable {P : Program} {w : World} {K : PySem.W.Frag} {mg : Str → Option Value} {base : Heap}
end
end KB
set_option maxRecDepth 100000
set_option maxHeartbeats 8000000
namespace KB
open PySem PySem.Spec PyProof.Rows L2
def at0 (ds : List PyData) (i : Nat) : PyData := ds.getD i .none
theorem at_of {ds : List PyData} {i : Nat} {d : PyData} (h : ds[i]? = some d) : at0 ds i = d := by
  unfold at0
  rw [List.getD_eq_getElem?_getD, h]
  rfl
/-! ### orders -/
def orderB : Nat → PyData → Bool
  | 0, _ => false
  | n + 1, d => tupOf 2 2 d && (if eqStr "item" (at0 (tupItems d) 0) = true then nameB (at0 (tupItems d) 1)
      else ((eqStr "series" (at0 (tupItems d) 0) || eqStr "parallel" (at0 (tupItems d) 0)) && (tupOf 2 6 (at0 (tupItems d) 1) && (tupItems (at0 (tupItems d) 1)).all (orderB n))))
theorem fn_none {P : Program} {w : World} {K : PySem.W.Frag} {mg : Str → Option Value} {base : Heap} {k : Nat} {f : Addr} {fd : FuncData} {ps : List Str} : FnOk P w K mg base CX0 k f fd ps (fun _ _ _ _ => False) := ⟨fun _ _ _ _ h => h.elim, fun _ _ _ _ _ _ _ _ _ _ _ _ _ h => h.elim⟩
/-! ### the names of an order -/
def strOf : PyData → Str
  | .str s => s
  | _ => Str.empty
def namesN : Nat → PyData → List Str
  | 0, _ => []
  | n + 1, d => if eqStr "item" (at0 (tupItems d) 0) = true then [strOf (at0 (tupItems d) 1)] else (tupItems (at0 (tupItems d) 1)).flatMap (namesN n)
theorem flat_len {f : PyData → List Str} {m : Nat} : ∀ {l : List PyData}, (∀ d ∈ l, (f d).length ≤ m) → (l.flatMap f).length ≤ l.length * m
  | [], _ => by simp
  | a :: l, h => by
    have h1 := h a (by simp)
    have h2 := flat_len (l := l) fun d hd => h d (by simp [hd])
    rw [List.flatMap_cons, List.length_append, List.length_cons, Nat.succ_mul]
    omega
/-- what orderB says, one level -/
theorem order_cases {n : Nat} {d : PyData} (h : orderB (n + 1) d = true) : ∃ d0 d1, d = .tuple [d0, d1] ∧ ((eqStr "item" d0 = true ∧ nameB d1 = true) ∨
    (eqStr "item" d0 = false ∧ ∃ es, d1 = .tuple es ∧ 2 ≤ es.length ∧ es.length ≤ 6 ∧ ∀ e ∈ es, orderB n e = true)) := by
  rw [orderB, Bool.and_eq_true] at h
  obtain ⟨ds, rfl, l1, l2⟩ := tupOf_len h.1
  match ds, (show ds.length = 2 by omega) with
  | [d0, d1], _ =>
    refine ⟨d0, d1, rfl, ?_⟩
    have h2 : (if eqStr "item" d0 = true then nameB d1 else ((eqStr "series" d0 || eqStr "parallel" d0) && (tupOf 2 6 d1 && (tupItems d1).all (orderB n)))) = true := h.2
    cases h0 : eqStr "item" d0 with
    | true =>
      rw [h0] at h2
      exact .inl ⟨rfl, h2⟩
    | false =>
      rw [h0] at h2
      have h3 : ((eqStr "series" d0 || eqStr "parallel" d0) && (tupOf 2 6 d1 && (tupItems d1).all (orderB n))) = true := h2
      rw [Bool.and_eq_true, Bool.and_eq_true] at h3
      obtain ⟨es, rfl, l3, l4⟩ := tupOf_len h3.2.1
      exact .inr ⟨rfl, es, rfl, by omega, by omega, List.all_eq_true.mp h3.2.2⟩
theorem names_len : ∀ (n : Nat) (d : PyData), orderB n d = true → (namesN n d).length ≤ 6 ^ n
  | 0, _, _ => by simp [namesN]
  | n + 1, d, h => by
    obtain ⟨d0, d1, rfl, hh⟩ := order_cases h
    have e : namesN (n + 1) (.tuple [d0, d1]) = if eqStr "item" d0 = true then [strOf d1] else (tupItems d1).flatMap (namesN n) := by rw [namesN]; rfl
    have p : 0 < 6 ^ n := Nat.pos_of_ne_zero (by simp)
    rw [e, Nat.pow_succ]
    rcases hh with ⟨h0, _⟩ | ⟨h0, es, rfl, _, l6, hes⟩
    · rw [h0, if_pos rfl]
      show 1 ≤ _
      omega
    · rw [h0, if_neg Bool.false_ne_true]
      have z := flat_len (l := es) fun e he => names_len n e (hes e he)
      have z2 : es.length * 6 ^ n ≤ 6 * 6 ^ n := Nat.mul_le_mul_right _ l6
      show (es.flatMap (namesN n)).length ≤ _
      omega
theorem flat_pre {f : PyData → List Str} {es : List PyData} {i : Nat} {e : PyData} (h : es[i]? = some e) : (es.take (i + 1)).flatMap f = (es.take i).flatMap f ++ f e := by
  rw [List.take_add_one, h]
  simp
theorem flat_take {f : PyData → List Str} (es : List PyData) (i : Nat) : ((es.take i).flatMap f).length ≤ (es.flatMap f).length := by
  have z : es.flatMap f = (es.take i).flatMap f ++ (es.drop i).flatMap f := by rw [← List.flatMap_append, List.take_append_drop]
  rw [z, List.length_append]
  omega
/-- the inner walk of a comprehension -/
theorem in_it {J : It} {n : Nat} {G : Hp → Prop} {Y : Nat → Hp → V → Hp → Prop} (w : Walk J n G Y) {Nx : Hp → Prop} {step : Nat → V → Hp → (Hp → Prop) → Prop} {H4 : Hp} (Pv : Nat → Hp → Prop) (h0 : Pv 0 H4) (hG : ∀ j H, j ≤ n → Pv j H → G H)
    (hs : ∀ j x H H', j < n → Pv j H → Y j H x H' → step j x H' (Pv (j + 1))) (hd : ∀ H, Pv n H → Nx H) :
    ∃ W1 : Nat → Nat → Hp → Prop, (∃ m, W1 0 m H4) ∧ ∀ j k H, W1 j k H → (J.stop j H ∧ Nx H) ∨ (J.go j H ∧ ∃ N1 : Hp → Prop, (∀ H', N1 H' → ∃ k', k' < k ∧ W1 (j + 1) k' H') ∧ ∀ x H', J.yld j H x H' → step j x H' N1) := by
  refine ⟨fun j k H => k + j = n ∧ Pv j H, ⟨n, rfl, h0⟩, fun j k H ⟨e, p⟩ => ?_⟩
  have g := hG j H (by omega) p
  by_cases hj : j < n
  · refine .inr ⟨w.goes j H hj g, Pv (j + 1), fun H' p' => ⟨n - (j + 1), by omega, by omega, p'⟩, fun x H' y => hs j x H H' hj p (w.yields j H x H' hj g y)⟩
  · obtain rfl : j = n := by omega
    exact .inl ⟨w.stops H g, hd H p⟩
def spNames (n : Nat) : Sp := fun vs H Q _ => ∃ (v : V) (d : PyData), vs = [v] ∧ n ≤ 6 ∧ Dat H v d ∧ orderB n d = true ∧ ∀ p H', Same H H' → H p = none → H' p = some (.lst ((namesN n d).map V.str)) → Q (.ref p) H'
abbrev sNames : Stmt := top 1
theorem dat_name {H : Hp} {v : V} {d : PyData} (h : Dat H v d) (hn : nameB d = true) : v = .str (strOf d) := by
  cases h with
  | str x _ => rfl
  | _ => cases hn
section
variable {P : Program} {w : World} {K : PySem.W.Frag} {mg : Str → Option Value} {base : Heap}
theorem scNames : FnScope ["order", "word", "rest", "inner", "name"] ["order"] (defScope sNames) := ⟨rfl, rfl, rfl, by decide +kernel, rfl, by decide +kernel, by decide +kernel⟩
theorem names_body {f : Addr} {fd : FuncData} {k : Nat} {sp : Sp} (F : Fun K "names_of" "names_of" sNames f fd) (b : L2.Binds K fd ["order"] []) (g : mg "names_of" = some (.ref f)) (G : FnOk P w K mg base CX0 k f fd ["order"] sp) (n : Nat)
    (hn : ∀ m, n = m + 1 → n ≤ 6 → ∀ (x : V) (d : PyData) (H : Hp) (R : VK), Dat H x d → orderB m d = true → (∀ p H', Same H H' → H p = none → H' p = some (.lst ((namesN m d).map V.str)) → R (.ref p) H') → sp [x] H R E0) : FnOk P w K mg base CX0 (k + 1) f fd ["order"] (spNames n) := by
  refine F.ok scNames (fun vs H Q E h => ?_) (fun cdv A outer s H vs Q E hr h => ?_)
  · obtain ⟨v, d, rfl, _⟩ := h
    rfl
  · obtain ⟨v, d, rfl, h6, hd, ho, q⟩ := h
    have hu0 := hr.units0
    refine ⟨_, pss_cons (ps_asg (pv 0) (pg_tup rfl (pgs_cons (pg_name (i := 1) scNames.nd rfl (Or.inl rfl)) (pgs_cons (pg_name (i := 2) scNames.nd rfl (Or.inl rfl)) pgs_nil))))
      (pss_cons (ps_if (pt_cmpR (op_eqStr hu0) (pv 1) pe_str (nomark _)) (pss_one (ps_ret (pe_lst (pa_cons (pv 2) pa_nil)))) pss_nil)
      (pss_one (ps_ret (pe_lc2 (own := [("inner", 3), ("name", 4)]) (vs1 := [4]) (g := gName 3) (tt := tYes) (wi1 := iList K (tCall sp [] E0 (tCons (tVar 3) tNil))) (g1 := gName 4) (tt1 := tYes) rfl scNames.nd (pi_tup (pv 2)) (blkOk_by (N := ["order", "word", "rest", "inner", "name"]) (sc := defScope sNames) (by decide +kernel)) (by decide)
          (fun _ _ _ _ _ => pg_name (i := 3) scNames.nd rfl (Or.inl rfl)) (fun _ _ _ _ _ => pts_nil) (fun _ _ _ _ _ => pi_list (pe_call G hr rfl g F.kp b .nil pass0 (pa_cons (pv 3) pa_nil)))
          (fun _ _ _ _ _ => pg_name (i := 4) scNames.nd rfl (Or.inl rfl)) (fun _ _ _ _ _ => pts_nil) (fun _ _ _ _ _ => pv 4))))), ?_⟩
    cases n with
    | zero => exact Bool.noConfusion ((show false = true from ho) : false = true)
    | succ m =>
      have hlen := names_len _ _ ho
      have h66 : 6 ^ (m + 1) ≤ 46656 := by
        have z : 6 ^ (m + 1) ≤ 6 ^ 6 := Nat.pow_le_pow_right (by decide) h6
        exact z
      obtain ⟨d0, d1, rfl, hh⟩ := order_cases ho
      have eN : namesN (m + 1) (.tuple [d0, d1]) = if eqStr "item" d0 = true then [strOf d1] else (tupItems d1).flatMap (namesN m) := by rw [namesN]; rfl
      rw [eN] at q hlen
      cases hd with
      | @tup a xs _ ha hx =>
        cases hx with
        | @cons x0 _ _ _ c0 t0 =>
          cases t0 with
          | @cons x1 _ _ _ c1 t1 =>
            cases t1
            refine ⟨_, rfl, a, _, rfl, sqT_rd ha, rfl, _, _, rfl, _, _, rfl, rfl, _, rfl, d0, "item", c0, rfl, _, rfl, ?_⟩
            rcases hh with ⟨h0, hn1⟩ | ⟨h0, es, rfl, l2, l6, hes⟩
            · rw [h0] at q ⊢
              refine if_t rfl ⟨_, rfl, (by show 1 ≤ sizeLine; decide), fun p np => q p _ (same_new np) np ?_⟩
              rw [upd_same, dat_name c1 hn1]
              rfl
            · rw [h0] at q hlen ⊢
              have q1 : ∀ p H', Same H H' → H p = none → H' p = some (.lst ((es.flatMap (namesN m)).map V.str)) → Q (.ref p) H' := q
              have hlen1 : (es.flatMap (namesN m)).length ≤ 6 ^ (m + 1) := hlen
              cases c1 with
              | @tup a2 ys _ ha2 hx2 =>
                have hl2 := hx2.len
                refine if_f rfl ⟨_, rfl, a2, rfl, ⟨_, sqT_rd ha2⟩, fun D nD => in_it (walk_tup (K := K) (a := a2) (xs := ys)) (fun i Hx => Same H Hx ∧ Hx D = some (.lst (((es.take i).flatMap (namesN m)).map V.str))) ⟨same_new nD, by rw [upd_same]; rfl⟩ (fun i Hx _ ⟨S, _⟩ => sqT_rd (upR ha2 S)) ?_ ?_⟩
                · rintro i x Hx Hy hi ⟨S, hD⟩ ⟨rfl, hxi⟩
                  obtain ⟨e, hei, te⟩ := hx2.get hxi
                  refine ⟨rfl, _, rfl, hn m rfl h6 x e Hy _ (te.same S) (hes e (List.mem_of_getElem? hei)) fun p H1 S1 np hp => ?_⟩
                  have pD : p ≠ D := fun z => by
                    rw [z, hD] at np
                    cases np
                  refine ⟨p, rfl, ⟨_, SqL.of hp⟩, in_it (walk_list (K := K) (a := p) (xs := (namesN m e).map V.str)) (fun j Hz => Same H Hz ∧ Hz p = some (.lst ((namesN m e).map V.str)) ∧ Hz D = some (.lst (((es.take i).flatMap (namesN m) ++ (namesN m e).take j).map V.str)))
                    ⟨S.trans S1, hp, by rw [List.take_zero, List.append_nil]; exact S1 _ _ hD⟩ (fun j Hz _ ⟨_, h, _⟩ => SqL.of h) ?_ ?_⟩
                  · rintro j y Hz Hz' hj ⟨S2, hp2, hD2⟩ ⟨rfl, hy⟩
                    rw [List.getElem?_map] at hy
                    obtain ⟨nm, hnm, rfl⟩ : ∃ nm, (namesN m e)[j]? = some nm ∧ y = V.str nm := by
                      cases hz : (namesN m e)[j]? with
                      | none =>
                        rw [hz] at hy
                        cases hy
                      | some nm =>
                        rw [hz] at hy
                        exact ⟨nm, rfl, (Option.some.inj hy).symm⟩
                    have hjl : j < (namesN m e).length := (List.getElem?_eq_some_iff.mp hnm).1
                    have tot := flat_take (f := namesN m) es (i + 1)
                    rw [flat_pre hei, List.length_append] at tot
                    refine ⟨rfl, _, rfl, _, hD2, ?_, grow nD S2, ?_, ?_⟩
                    · rw [List.length_map, List.length_append, List.length_take, sizeLine_eq]
                      omega
                    · rw [upd_ne pD]
                      exact hp2
                    · rw [upd_same, List.take_add_one, hnm]
                      simp
                  · rintro Hz ⟨S2, hp2, hD2⟩
                    refine ⟨S2, ?_⟩
                    rw [hD2, List.length_map, List.take_length, flat_pre hei]
                · rintro Hx ⟨S, hD⟩
                  refine q1 D Hx S nD ?_
                  rw [hD, hl2, List.take_length]
/-- names_of(d), d an order of at most n levels -/
theorem ok_names {f : Addr} {fd : FuncData} (F : Fun K "names_of" "names_of" sNames f fd) (b : L2.Binds K fd ["order"] []) (g : mg "names_of" = some (.ref f)) : ∀ n : Nat, FnOk P w K mg base CX0 (1 + n) f fd ["order"] (spNames n)
  | 0 => by
    have z := names_body (P := P) (w := w) (base := base) (k := 0) (sp := fun _ _ _ _ => False) F b g fn_none 0 fun m e => by cases e
    exact z
  | n + 1 => by
    have G := ok_names F b g n
    have z := names_body F b g G (n + 1) fun m e l6 x d H R hd ho hR => by
      obtain rfl : n = m := Nat.succ.inj e
      exact ⟨x, d, rfl, by omega, hd, ho, hR⟩
    rw [show 1 + (n + 1) = 1 + n + 1 by omega]
    exact z
end
end KB
set_option maxRecDepth 100000
set_option maxHeartbeats 8000000
namespace KB
open PySem PySem.Spec PyProof.Rows L2
/-! ### asks_arrangement -/
section
variable {X : Cx}
/-- x in [texts] -/
def rInL : R2 := fun x y H Q => ∃ (d : PyData) (p : Addr) (zs : List Str), Dat H x d ∧ y = .ref p ∧ H p = some (.lst (zs.map V.str)) ∧ Q (.bl (zs.any fun z => eqStr z d)) H
theorem op_inL (hu : X.A.units + 1 < cLine) : OpR X (compareOp .In) rInL := by
  intro pins s σ H x y v u Q I rx ry h
  obtain ⟨d, p, zs, hd, rfl, hp, q⟩ := h
  cases ry
  obtain ⟨its, r, pl, _⟩ := I.list (SqL.of hp)
  refine SeqAt.in_listAt (eStr d) pl.isList (fun w hw => ?_) ⟨.bl _, H, I, rfl, ?_⟩
  · obtain ⟨z, t, rfl⟩ := mem_strs r w (by simpa using hw)
    exact str_eqAt I hd rx hu z t
  · rw [show its.toArray.any (eStr d) = its.any (eStr d) by simp, any_strs r]
    exact q
end
def arrB (o : PyData) (z : Str) (as : List PyData) : Bool := if (decide (z = "locate") && decide (as.length = 1)) = true then (namesN 6 o).any (fun y => eqStr y (as.getD 0 .none)) else takesB [("entry", ((namesN 6 o).length : Int) - 1)] z as
def okArr (o : PyData) : Hp → List V → Prop := fun H ps => ∃ x0 x1 r, ps = x0 :: x1 :: r ∧ Dat H x1 o ∧ orderB 6 o = true
section
variable {P : Program} {w : World} {K : PySem.W.Frag} {mg : Str → Option Value} {base : Heap}
end
end KB
set_option maxRecDepth 100000
set_option maxHeartbeats 8000000
namespace KB
open PySem PySem.Spec PyProof.Rows L2
/-! ### asks_string; questions whose tuples are short -/
def shortQ (as : List PyData) : Prop := ∀ d ∈ as, (tupItems d).length ≤ 1000
def spQs (ok : Hp → List V → Prop) (f : Str → List PyData → Bool) : Sp := fun vs H Q _ => ∃ (a0 a : Addr) (ps : List V) (z : Str) (xs : List V) (as : List PyData), vs = [.ref a0, .str z, .ref a] ∧ TP H a0 ps ∧ ok H ps ∧ z.length ≤ 1000 ∧ TP H a xs ∧ DatAll H xs as ∧ shortQ as ∧ ∀ H', Same H H' → Q (.bl (f z as)) H'
theorem fn_short {P : Program} {w : World} {K : PySem.W.Frag} {mg : Str → Option Value} {base : Heap} {k : Nat} {f : Addr} {fd : FuncData} {ps : List Str} {ok : Hp → List V → Prop} {g : Str → List PyData → Bool} (G : FnOk P w K mg base CX0 k f fd ps (spQ ok g)) : FnOk P w K mg base CX0 k f fd ps (spQs ok g) :=
  G.imp fun vs H Q E ⟨a0, a, ps, z, xs, as, e, h0, h1, h2, h3, h4, _, q⟩ => ⟨a0, a, ps, z, xs, as, e, h0, h1, h2, h3, h4, q⟩
def stringB (n : Int) (z : Str) (as : List PyData) : Bool := if (decide (z = "letter_in") && decide (as.length = 2)) = true then btw 0 (n - 1) (as.getD 0 .none) && letsB (as.getD 1 .none)
  else if (decide (z = "state_in") && decide (as.length = 2)) = true then btw 0 n (as.getD 0 .none) && statesB (as.getD 1 .none) else takesB [("letter", n - 1), ("state", n)] z as
def okStr (n : Int) : Hp → List V → Prop := fun _ ps => ∃ x0 x1 r, ps = x0 :: x1 :: .int n :: r
theorem dec_str (z y : Str) : decide (V.str z = V.str y) = decide (z = y) := by
  by_cases h : z = y
  · rw [decide_eq_true h, decide_eq_true (by rw [h])]
  · rw [decide_eq_false h, decide_eq_false fun e => h (by injection e)]
theorem dec_len {α : Type} (xs : List α) (m : Nat) : decide (V.int ((xs.length : Nat) : Int) = V.int (m : Nat)) = decide (xs.length = m) := by
  by_cases h : xs.length = m
  · rw [decide_eq_true h, decide_eq_true (by rw [h])]
  · rw [decide_eq_false h, decide_eq_false fun y => h (by have := V.int.inj y; omega)]
section
variable {P : Program} {w : World} {K : PySem.W.Frag} {mg : Str → Option Value} {base : Heap}
end
end KB
set_option maxRecDepth 100000
set_option maxHeartbeats 8000000
namespace L2
open PySem PySem.Spec PyProof.Rows
section
variable {X : Cx} {d : Addr} {es : Array DictEntry} {n : Nat}
/-- d[key], d a written dict of the module -/
def rIxKd (K : PySem.W.Frag) (d : Addr) : R2 := fun x y H Q => ∃ (z : Str) (u0 : Value) (v0 : V), x = .ref d ∧ y = .str z ∧ PySem.W.nsIn K d z = some (some u0) ∧ RelV v0 u0 ∧ Q v0 H
theorem ix_kd (D : KDict X.K X.w d es n) : IxR X (rIxKd X.K d) := by
  intro value slice pins s σ H x y v u Q I rx ry h hs
  have h2 := op_item_kd D pins s σ H x y v u Q I rx ry h
  obtain ⟨z, u0, v0, rfl, _⟩ := h
  cases rx
  exact tail_any (kd_type D I) PySem.F.slot_dict_getitem.lookup h2 hs
def rNotInKd (K : PySem.W.Frag) (d : Addr) : R2 := fun x y H Q => ∃ (z : Str) (r : Option Value), x = .str z ∧ y = .ref d ∧ PySem.W.nsIn K d z = some r ∧ Q (.bl (!r.isSome)) H
theorem op_notInKd (D : KDict X.K X.w d es n) : OpR X (compareOp .NotIn) (rNotInKd X.K d) := op_notIn_kd D
end
end L2
namespace KB
open PySem PySem.Spec PyProof.Rows L2
/-! ### is_question of a part whose check is known -/
structure ChkG (P : Program) (w : World) (K : PySem.W.Frag) (mg : Str → Option Value) (base : Heap) (dC : Addr) (S : Addr → Option Sp) : Prop where
  g : mg "CHECKS" = some (.ref dC)
  k : ∃ es n, KDict K w dC es n
  held : ∀ f sp, S f = some sp → Held P w K mg base 8 f sp
def askQ (g : Str → List PyData → Bool) : List PyData → Bool
  | .str z :: as => g z as
  | _ => false
def spQuest (K : PySem.W.Frag) (dC : Addr) (S : Addr → Option Sp) : Sp := fun vs H Q _ => ∃ (a0 b fa : Addr) (zk : Str) (ps xs : List V) (q : List PyData) (sq : Sp) (g : Str → List PyData → Bool), vs = [.ref a0, .ref b] ∧ TP H a0 (.str zk :: ps) ∧ PySem.W.nsIn K dC zk = some (some (.ref fa)) ∧ S fa = some sq ∧
  (∀ (z : Str) (b2 : Addr) (xs' : List V) (as : List PyData) (H2 : Hp), Same H H2 → z.length ≤ 1000 → TP H2 b2 xs' → DatAll H2 xs' as → shortQ as → (∀ H', Same H2 H' → Q (.bl (g z as)) H') → sq [.ref a0, .str z, .ref b2] H2 Q E0) ∧
  TP H b xs ∧ DatAll H xs q ∧ shortQ q ∧ ∀ H', Same H H' → Q (.bl (askQ g q)) H'
section
variable {P : Program} {w : World} {K : PySem.W.Frag} {mg : Str → Option Value} {base : Heap}
end
end KB
set_option maxRecDepth 100000
set_option maxHeartbeats 8000000
namespace KB
open PySem PySem.Spec PyProof.Rows L2
/-! ### part_at and is_query over any parts -/
structure Sys where
  ι : Type
  pd : ι → PyData
  nx : ι → PyData → Option ι
  ok : ι → Prop
  ask : ι → List PyData → Bool
  isref : ∀ {H : Hp} {v : V} {i : ι}, Dat H v (pd i) → ∃ a : Addr, v = .ref a
  keep : ∀ {i j : ι} {d : PyData}, ok i → nx i d = some j → ok j
def partI (Y : Sys) : Y.ι → List PyData → Option Y.ι
  | s, [] => some s
  | s, d :: ds => match Y.nx s d with
    | none => none
    | some e => partI Y e ds
def queryI (Y : Sys) (s : Y.ι) : PyData → Bool
  | .tuple (.tuple ds :: q) => match partI Y s ds with
    | some e => Y.ask e q
    | none => false
  | _ => false
theorem path_okI {Y : Sys} : ∀ {ds : List PyData} {s e : Y.ι}, Y.ok s → partI Y s ds = some e → Y.ok e
  | [], s, e, hs, h => by
    cases h
    exact hs
  | d :: ds, s, e, hs, h => by
    have h' : (match Y.nx s d with | none => none | some e' => partI Y e' ds) = some e := h
    cases hn : Y.nx s d with
    | none =>
      rw [hn] at h'
      cases h'
    | some e' =>
      rw [hn] at h'
      exact path_okI (Y.keep hs hn) h'
def spNext (Y : Sys) : Sp := fun vs H Q _ => ∃ (v x : V) (s : Y.ι) (d : PyData), vs = [v, x] ∧ Dat H v (Y.pd s) ∧ Dat H x d ∧ Y.ok s ∧
  (∀ H', Same H H' → Y.nx s d = none → Q .non H') ∧ ∀ (u : V) (e : Y.ι) (H' : Hp), Same H H' → Y.nx s d = some e → Dat H' u (Y.pd e) → Q u H'
def spPart (Y : Sys) : Sp := fun vs H Q _ => ∃ (v x : V) (s : Y.ι) (d : PyData), vs = [v, x] ∧ Dat H v (Y.pd s) ∧ Dat H x d ∧ Y.ok s ∧
  (∀ H', Same H H' → (∀ ds, d = .tuple ds → partI Y s ds = none) → Q .non H') ∧ ∀ (u : V) (e : Y.ι) (ds : List PyData) (H' : Hp), Same H H' → d = .tuple ds → partI Y s ds = some e → Dat H' u (Y.pd e) → Q u H'
def spQuestI (Y : Sys) : Sp := fun vs H Q _ => ∃ (v : V) (b : Addr) (s : Y.ι) (xs : List V) (q : List PyData), vs = [v, .ref b] ∧ Dat H v (Y.pd s) ∧ Y.ok s ∧ TP H b xs ∧ DatAll H xs q ∧ shortQ q ∧ ∀ H', Same H H' → Q (.bl (Y.ask s q)) H'
def spQuery (Y : Sys) : Sp := fun vs H Q _ => ∃ (v x : V) (s : Y.ι) (d : PyData), vs = [v, x] ∧ Dat H v (Y.pd s) ∧ Y.ok s ∧ Dat H x d ∧ shortQ (tupItems d) ∧ ∀ H', Same H H' → Q (.bl (queryI Y s d)) H'
section
variable {P : Program} {w : World} {K : PySem.W.Frag} {mg : Str → Option Value} {base : Heap}
end
end KB
set_option maxRecDepth 100000
set_option maxHeartbeats 4000000
namespace KB
open PySem PySem.Spec PyProof.Rows L2
/-! ### the spaces of this law, as data -/
/-- a leaf -/
inductive L9
  | sub (n k : Nat)
  | word (cs : Cn)
  | arr (o : PyData)
  | walk (n s e lo hi : Int)
  | cyc (n : Nat)
  | mat (n : Nat)
  | perm (n : Nat) (d : PyData)
  | tree (n : Nat)
  | str (ms : List (Nat × Str × Nat)) (ac : List Nat) (n : Nat)
inductive S9 where
  | leaf (l : L9)
  | row (c : Bool) (xs : List S9)
  | pow (n : Nat) (x : S9)
  | dec (cs : Cn) (xs : List S9)
def mvA (m : Nat × Str × Nat) : PyData := .tuple [.int (m.1 : Nat), .str m.2.1, .int (m.2.2 : Nat)]
def ldt : L9 → PyData
  | .sub n k => .tuple [.str "subset", .int (n : Nat), .int (k : Nat)]
  | .word cs => .tuple [.str "word", cntsD cs]
  | .arr o => .tuple [.str "arrangement", o]
  | .walk n s e lo hi => .tuple [.str "walk", .int n, .int s, .int e, .int lo, .int hi]
  | .cyc n => .tuple [.str "cycle", .int (n : Nat)]
  | .mat n => .tuple [.str "matching", .int (n : Nat)]
  | .perm n d => .tuple [.str "permutation", .int (n : Nat), d]
  | .tree n => .tuple [.str "tree", .int (n : Nat)]
  | .str ms ac n => .tuple [.str "string", .tuple [.tuple (ms.map mvA), .tuple (ac.map fun i => .int (i : Nat))], .int (n : Nat)]
def rowW (c : Bool) : Str := if c = true then "choice" else "product"
mutual
def dt : S9 → PyData
  | .leaf l => ldt l
  | .row c xs => .tuple [.str (rowW c), .tuple (dts xs)]
  | .pow n x => .tuple [.str "power", .int (n : Nat), dt x]
  | .dec cs xs => .tuple [.str "decorated", cntsD cs, .tuple (dts xs)]
def dts : List S9 → List PyData
  | [] => []
  | x :: xs => dt x :: dts xs
end
theorem dts_map : ∀ xs : List S9, dts xs = xs.map dt
  | [] => by rw [dts]; rfl
  | x :: xs => by rw [dts, dts_map xs]; rfl
theorem dts_len (xs : List S9) : (dts xs).length = xs.length := by rw [dts_map, List.length_map]
/-! what stands inside, by its step -/
def enumS : Nat → List S9 → List (PyData × S9)
  | _, [] => []
  | k, x :: xs => (.int (k : Nat), x) :: enumS (k + 1) xs
def decS (p : (Str × Nat) × S9) : List (PyData × S9) := (List.range p.1.2).map fun j => (.tuple [.str p.1.1, .int (j : Nat)], p.2)
def nestS : S9 → List (PyData × S9)
  | .leaf _ => []
  | .row _ xs => enumS 0 xs
  | .pow n x => (List.range n).map fun k => (.int (k : Nat), x)
  | .dec cs xs => (cs.zip xs).flatMap decS
def findDec : List ((Str × Nat) × S9) → PyData → PyData → Option S9
  | [], _, _ => none
  | p :: r, l, o => if (isS p.1.1 l && btw 0 ((p.1.2 : Int) - 1) o) = true then some p.2 else findDec r l o
def nextDec (r : List ((Str × Nat) × S9)) : PyData → Option S9
  | .tuple [l, o] => findDec r l o
  | _ => none
def nextS : S9 → PyData → Option S9
  | .leaf _, _ => none
  | .row _ xs, d => if btw 0 ((xs.length : Int) - 1) d = true then xs[(intOf d).toNat]? else none
  | .pow n x, d => if btw 0 ((n : Int) - 1) d = true then some x else none
  | .dec cs xs, d => nextDec (cs.zip xs) d
theorem enum_get : ∀ (xs : List S9) (k : Nat) (d : PyData) (e : S9), (d, e) ∈ enumS k xs ↔ ∃ j : Nat, d = .int ((k + j : Nat) : Int) ∧ xs[j]? = some e
  | [], k, d, e => by simp [enumS]
  | x :: xs, k, d, e => by
    rw [enumS, List.mem_cons, enum_get xs (k + 1) d e]
    constructor
    · rintro (h | ⟨j, h1, h2⟩)
      · cases h
        exact ⟨0, rfl, rfl⟩
      · exact ⟨j + 1, by rw [h1]; congr 1; omega, h2⟩
    · rintro ⟨j, h1, h2⟩
      cases j with
      | zero =>
        left
        rw [h1]
        cases h2
        rfl
      | succ j => exact .inr ⟨j, by rw [h1]; congr 1; omega, h2⟩
theorem dec_mem {p : (Str × Nat) × S9} {d : PyData} {e : S9} : (d, e) ∈ decS p ↔ e = p.2 ∧ ∃ j : Nat, j < p.1.2 ∧ d = .tuple [.str p.1.1, .int (j : Nat)] := by
  unfold decS
  rw [List.mem_map]
  constructor
  · rintro ⟨j, hj, h⟩
    cases h
    exact ⟨rfl, j, List.mem_range.mp hj, rfl⟩
  · rintro ⟨rfl, j, hj, rfl⟩
    exact ⟨j, List.mem_range.mpr hj, rfl⟩
/-- the names of counts differ -/
def Diff : List ((Str × Nat) × S9) → Prop
  | [] => True
  | p :: r => (∀ q ∈ r, q.1.1 ≠ p.1.1) ∧ Diff r
theorem find_iff : ∀ {l : List ((Str × Nat) × S9)}, Diff l → ∀ (x y : PyData) (e : S9), findDec l x y = some e ↔ (.tuple [x, y], e) ∈ l.flatMap decS
  | [], _, x, y, e => by simp [findDec]
  | p :: r, hd, x, y, e => by
    rw [findDec, List.flatMap_cons, List.mem_append, dec_mem, ← find_iff hd.2 x y e]
    cases h : isS p.1.1 x && btw 0 ((p.1.2 : Int) - 1) y with
    | true =>
      rw [if_pos rfl]
      rw [Bool.and_eq_true] at h
      obtain ⟨i, rfl, h0, h1⟩ := btw_int h.2
      have hx := isS_iff.mp h.1
      subst hx
      constructor
      · intro he
        cases he
        exact .inl ⟨rfl, i.toNat, by omega, by rw [Int.toNat_of_nonneg h0]⟩
      · rintro (⟨rfl, _⟩ | hf)
        · rfl
        · have hm := (find_iff hd.2 _ _ e).mp hf
          obtain ⟨q, hq, hq2⟩ := List.mem_flatMap.mp hm
          obtain ⟨_, j, _, hj⟩ := dec_mem.mp hq2
          injection hj with hj
          injection hj with hj _
          injection hj with hj
          exact absurd hj.symm (hd.1 q hq)
    | false =>
      rw [if_neg Bool.false_ne_true]
      constructor
      · exact .inr
      · rintro (⟨rfl, j, hj, hd2⟩ | hf)
        · injection hd2 with hd2
          injection hd2 with h1 h2
          injection h2 with h2 _
          subst h1 h2
          have z : (isS p.1.1 (.str p.1.1) && btw 0 ((p.1.2 : Int) - 1) (.int (j : Nat))) = true := by
            rw [isS_iff.mpr rfl, btw_mk (by omega) (by omega)]
            rfl
          rw [z] at h
          cases h
        · exact hf
theorem diff_zip : ∀ {cs : Cn} (xs : List S9), (cs.map (·.1)).Nodup → Diff (cs.zip xs)
  | [], _, _ => trivial
  | _ :: _, [], _ => trivial
  | c :: cs, x :: xs, h => by
    rw [List.map_cons, List.nodup_cons] at h
    refine ⟨fun q hq e => h.1 ?_, diff_zip xs h.2⟩
    rw [← e]
    exact List.mem_map_of_mem (List.of_mem_zip (a := q.1) (b := q.2) hq).1
/-- the names of counts differ in every decorated part -/
def okD : S9 → Prop
  | .dec cs _ => (cs.map (·.1)).Nodup
  | _ => True
theorem next_iff (s : S9) (d : PyData) (e : S9) (hs : okD s) : nextS s d = some e ↔ (d, e) ∈ nestS s := by
  cases s with
  | leaf l => simp [nextS, nestS]
  | row c xs =>
    show (if btw 0 ((xs.length : Int) - 1) d = true then xs[(intOf d).toNat]? else none) = some e ↔ (d, e) ∈ enumS 0 xs
    rw [enum_get]
    cases h : btw 0 ((xs.length : Int) - 1) d with
    | true =>
      rw [if_pos rfl]
      obtain ⟨i, rfl, h0, h1⟩ := btw_int h
      constructor
      · intro he
        exact ⟨i.toNat, by congr 1; omega, he⟩
      · rintro ⟨j, hj, he⟩
        injection hj with hj
        have : (intOf (.int i)).toNat = j := by
          show i.toNat = j
          omega
        rw [this]
        exact he
    | false =>
      rw [if_neg Bool.false_ne_true]
      constructor
      · intro z
        cases z
      · rintro ⟨j, rfl, he⟩
        have hl := (List.getElem?_eq_some_iff.mp he).1
        rw [btw_mk (by omega) (by omega)] at h
        cases h
  | pow n x =>
    show (if btw 0 ((n : Int) - 1) d = true then some x else none) = some e ↔ (d, e) ∈ (List.range n).map fun k => (PyData.int (k : Nat), x)
    rw [List.mem_map]
    cases h : btw 0 ((n : Int) - 1) d with
    | true =>
      rw [if_pos rfl]
      obtain ⟨i, rfl, h0, h1⟩ := btw_int h
      constructor
      · intro he
        cases he
        exact ⟨i.toNat, List.mem_range.mpr (by omega), by rw [Int.toNat_of_nonneg h0]⟩
      · rintro ⟨k, _, hk⟩
        cases hk
        rfl
    | false =>
      rw [if_neg Bool.false_ne_true]
      constructor
      · intro z
        cases z
      · rintro ⟨k, hk, he⟩
        cases he
        have := List.mem_range.mp hk
        rw [btw_mk (by omega) (by omega)] at h
        cases h
  | dec cs xs =>
    have shape : ∀ d e, (d, e) ∈ (cs.zip xs).flatMap decS → ∃ x y, d = .tuple [x, y] := fun d e h => by
      obtain ⟨q, _, hq2⟩ := List.mem_flatMap.mp h
      obtain ⟨_, j, _, hj⟩ := dec_mem.mp hq2
      exact ⟨_, _, hj⟩
    by_cases hs : ∃ x y, d = .tuple [x, y]
    · obtain ⟨x, y, rfl⟩ := hs
      exact find_iff (diff_zip xs hs) x y e
    · constructor
      · intro h
        have h' : nextDec (cs.zip xs) d = some e := h
        unfold nextDec at h'
        split at h'
        · rename_i l o
          exact absurd ⟨l, o, rfl⟩ hs
        · cases h'
      · intro h
        exact absurd (shape d e h) hs
/-! ### the part at a path -/
def partAt : S9 → List PyData → Option S9
  | s, [] => some s
  | s, d :: ds => match nextS s d with
    | none => none
    | some e => partAt e ds
theorem partAt_snoc : ∀ (ds : List PyData) (s : S9) (d : PyData), partAt s (ds ++ [d]) = (partAt s ds).bind fun e => nextS e d
  | [], s, d => by
    show (match nextS s d with | none => none | some e => partAt e []) = nextS s d
    cases nextS s d <;> rfl
  | c :: ds, s, d => by
    show (match nextS s c with | none => none | some e => partAt e (ds ++ [d])) = (match nextS s c with | none => none | some e => partAt e ds).bind fun e => nextS e d
    cases nextS s c with
    | none => rfl
    | some e => exact partAt_snoc ds e d
end KB
set_option maxRecDepth 100000
set_option maxHeartbeats 8000000
namespace KB
open PySem PySem.Spec PyProof.Rows L2
/-! ### these parts as a system: next_part -/
def okL : L9 → Bool
  | .word cs => decide (cs.length ≤ 100)
  | .arr o => orderB 6 o
  | .mat n => decide (n ≤ 1000)
  | _ => true
mutual
def okS : S9 → Bool
  | .leaf l => okL l
  | .row _ xs => okSs xs
  | .pow _ x => okS x
  | .dec cs xs => okSs xs && (decide (cs.length ≤ 100) && (decide (xs.length = cs.length) && decide (cs.map (·.1)).Nodup))
def okSs : List S9 → Bool
  | [] => true
  | x :: xs => okS x && okSs xs
end
theorem okSs_mem : ∀ {xs : List S9} {x : S9}, okSs xs = true → x ∈ xs → okS x = true
  | [], _, _, h => by cases h
  | y :: xs, x, hb, h => by
    rw [okSs, Bool.and_eq_true] at hb
    rcases List.mem_cons.mp h with rfl | h
    · exact hb.1
    · exact okSs_mem hb.2 h
theorem okS_d {s : S9} (h : okS s = true) : okD s := by
  cases s with
  | dec cs xs =>
    rw [okS, Bool.and_eq_true, Bool.and_eq_true, Bool.and_eq_true] at h
    show (cs.map (·.1)).Nodup
    exact of_decide_eq_true h.2.2.2
  | _ => trivial
theorem next_ok {s e : S9} {d : PyData} (hs : okS s = true) (h : nextS s d = some e) : okS e = true := by
  have hm := (next_iff s d e (okS_d hs)).mp h
  cases s with
  | leaf l => cases hm
  | row c xs =>
    rw [okS] at hs
    obtain ⟨j, _, hj⟩ := (enum_get xs 0 d e).mp hm
    exact okSs_mem hs (List.mem_of_getElem? hj)
  | pow n x =>
    rw [okS] at hs
    obtain ⟨k, _, hk⟩ := List.mem_map.mp hm
    cases hk
    exact hs
  | dec cs xs =>
    rw [okS, Bool.and_eq_true] at hs
    obtain ⟨q, hq, hq2⟩ := List.mem_flatMap.mp hm
    obtain ⟨rfl, _⟩ := dec_mem.mp hq2
    exact okSs_mem hs.1 (List.of_mem_zip (a := q.1) (b := q.2) hq).2
def askL : L9 → Str → List PyData → Bool
  | .sub n k => subsetB n k
  | .word cs => wordB cs
  | .arr o => arrB o
  | .walk n s e _ _ => walkB n s e
  | .cyc n => cycleB n
  | .mat n => matchB n
  | .perm n _ => permB n
  | .tree n => treeB n
  | .str _ _ n => stringB n
def askS : S9 → Str → List PyData → Bool
  | .leaf l => askL l
  | .row c _ => fun z as => c && choiceB z as
  | .pow _ _ => fun _ _ => false
  | .dec cs _ => wordB cs
def hdL : L9 → Str
  | .sub _ _ => "subset"
  | .word _ => "word"
  | .arr _ => "arrangement"
  | .walk _ _ _ _ _ => "walk"
  | .cyc _ => "cycle"
  | .mat _ => "matching"
  | .perm _ _ => "permutation"
  | .tree _ => "tree"
  | .str _ _ _ => "string"
theorem ldt_hd (l : L9) : ∃ ds, ldt l = .tuple (.str (hdL l) :: ds) := by cases l <;> exact ⟨_, rfl⟩
def hds : List Str := ["subset", "word", "arrangement", "walk", "cycle", "matching", "permutation", "tree", "string"]
theorem hd_mem (l : L9) : hdL l ∈ hds := by cases l <;> simp [hdL, hds]
theorem hd_no : ∀ z ∈ hds, inV (.str z) [.str "product", .str "choice"] = false ∧ decide (V.str z = V.str "power") = false ∧ decide (V.str z = V.str "decorated") = false := by decide +kernel
theorem tup_hd {H : Hp} {v : V} {z : Str} {ds : List PyData} (h : Dat H v (.tuple (.str z :: ds))) : ∃ (a : Addr) (ps : List V), v = .ref a ∧ TP H a (.str z :: ps) ∧ DatAll H ps ds := by
  cases h with
  | @tup a ps _ h0 h1 =>
    cases h1 with
    | cons e t =>
      cases e
      exact ⟨a, _, rfl, h0, t⟩
theorem dt_ref {H : Hp} {v : V} {s : S9} (h : Dat H v (dt s)) : ∃ a : Addr, v = .ref a := by
  have : ∃ ds, dt s = .tuple ds := by
    cases s with
    | leaf l =>
      obtain ⟨ds, e⟩ := ldt_hd l
      exact ⟨_, by rw [dt]; exact e⟩
    | row c xs => exact ⟨_, by rw [dt]⟩
    | pow n x => exact ⟨_, by rw [dt]⟩
    | dec cs xs => exact ⟨_, by rw [dt]⟩
  obtain ⟨ds, e⟩ := this
  rw [e] at h
  cases h
  exact ⟨_, rfl⟩
def Y9 : Sys := ⟨S9, dt, nextS, fun s => okS s = true, fun s => askQ (askS s), dt_ref, next_ok⟩
theorem dat3 {H : Hp} {ps : List V} {d0 d1 d2 : PyData} (h : DatAll H ps [d0, d1, d2]) : ∃ v0 v1 v2, ps = [v0, v1, v2] ∧ Dat H v0 d0 ∧ Dat H v1 d1 ∧ Dat H v2 d2 := by
  match ps, h with
  | _, .cons a (.cons b (.cons c .nil)) => exact ⟨_, _, _, rfl, a, b, c⟩
theorem dat2 {H : Hp} {ps : List V} {d0 d1 : PyData} (h : DatAll H ps [d0, d1]) : ∃ v0 v1, ps = [v0, v1] ∧ Dat H v0 d0 ∧ Dat H v1 d1 := by
  match ps, h with
  | _, .cons a (.cons b .nil) => exact ⟨_, _, rfl, a, b⟩
theorem dats_get {H : Hp} {ys : List V} {xs : List S9} (h : DatAll H ys (dts xs)) {j : Nat} {e : S9} (he : xs[j]? = some e) : ∃ y, ys[j]? = some y ∧ Dat H y (dt e) := by
  rw [dts_map] at h
  exact h.at (by rw [List.getElem?_map, he]; rfl)
section
variable {P : Program} {w : World} {K : PySem.W.Frag} {mg : Str → Option Value} {base : Heap}
end
end KB
set_option maxRecDepth 100000
set_option maxHeartbeats 4000000
namespace L2
open PySem PySem.Spec PyProof.Rows
section
variable {X : Cx} {a b c d : Expr} {ta tb tc td : TE} {pos : Pos}
/-- a op b op' c op'' d -/
def tChain3 (r r' r'' : R2) (ta tb tc td : TE) : TE := fun σ H Q => ta σ H fun x H1 => tb σ H1 fun y H2 => r x y H2 fun z H3 => ∃ k, z = .bl k ∧
  (if k = true then tc σ H3 fun w H4 => r' y w H4 fun z2 H5 => ∃ k2, z2 = .bl k2 ∧ (if k2 = true then td σ H5 fun t H6 => r'' w t H6 Q else Q (.bl false) H5) else Q (.bl false) H3)
theorem pe_chain3 {op op' op'' : CmpOp} {r r' r'' : R2} (ho : OpR X (compareOp op) r) (ho' : OpR X (compareOp op') r') (ho'' : OpR X (compareOp op'') r'') (ha : PE X a ta) (hb : PE X b tb) (hc : PE X c tc) (hd : PE X d td)
    (hm : lastMarks [op, op', op''] [b, c, d] = false := by with_unfolding_all rfl) : PE X (.Compare a [op, op', op''] [b, c, d] pos) (tChain3 r r' r'' ta tb tc td) := by
  refine ⟨fun pins s σ H Q I h => ?_⟩
  refine Compare_chain (thn (ha.run pins s σ H _ I h) fun v s1 ⟨x, H1, I1, r1, q1⟩ => chain_link (thn (hb.run pins s1 σ H1 _ I1 q1) fun u s2 ⟨y, H2, I2, r2, q2⟩ =>
    thn (ho pins s2 σ H2 x y v u _ I2 r1 r2 q2) fun d s3 ⟨z, H3, I3, r3, k, e, q3⟩ => ?_)) hm
  subst e
  cases r3
  refine wpAny_truthy_bool ?_
  cases k with
  | false => exact ite_ff ⟨.bl false, H3, I3, rfl, q3⟩
  | true =>
    refine ite_tt (chain_link (thn (hc.run pins s3 σ H3 _ I3 q3) fun w' s4 ⟨z', H4, I4, r4, q4⟩ => thn (ho' pins s4 σ H4 y z' u w' _ I4 r2 r4 q4) fun d' s5 ⟨z2, H5, I5, r5, k2, e2, q5⟩ => ?_))
    subst e2
    cases r5
    refine wpAny_truthy_bool ?_
    cases k2 with
    | false => exact ite_ff ⟨.bl false, H5, I5, rfl, q5⟩
    | true => exact ite_tt (chain_last (thn (hd.run pins s5 σ H5 _ I5 q5) fun t' s6 ⟨z3, H6, I6, r6, q6⟩ => ho'' pins s6 σ H6 z' z3 w' t' Q I6 r4 r6 q6))
end
/-- a comprehension over a range with a step -/
theorem lc_rangeC {lo c : Int} {n : Nat} {g : TG} {tt : TT} {te : TE} {vs : List Nat} {σ : St} {H1 : Hp} {D : Addr} {Qd : Hp → Prop} (Pv : Nat → Hp → Prop) (h0 : Pv 0 (upd H1 D (.lst [])))
    (hs : ∀ i H, i < n → Pv i H → g (.int (lo + (i : Nat) * c)) (wipe σ vs) H fun σ2 H2 => wipe σ2 vs = wipe σ vs ∧ tt σ2 H2 fun b H3 =>
      if b = true then te σ2 H3 fun y H4 => ∃ acc, H4 D = some (.lst acc) ∧ acc.length < sizeLine ∧ Pv (i + 1) (upd H4 D (.lst (acc ++ [y]))) else Pv (i + 1) H3) (hd : ∀ H, Pv n H → Qd H) :
    ∃ W : Nat → Nat → Hp → Prop, (∃ m, W 0 m (upd H1 D (.lst []))) ∧ ∀ i m H, W i m H →
      ((Itc lo c n).stop i H ∧ Qd H) ∨ ((Itc lo c n).go i H ∧ ∃ Nx : Hp → Prop, (∀ H', Nx H' → ∃ m', m' < m ∧ W (i + 1) m' H') ∧ ∀ x H', (Itc lo c n).yld i H x H' → g x (wipe σ vs) H' fun σ2 H2 => wipe σ2 vs = wipe σ vs ∧ tt σ2 H2 fun b H3 =>
        if b = true then te σ2 H3 fun y H4 => ∃ acc, H4 D = some (.lst acc) ∧ acc.length < sizeLine ∧ Nx (upd H4 D (.lst (acc ++ [y]))) else Nx H3) := by
  refine ⟨fun i m H => m = n - i ∧ i ≤ n ∧ Pv i H, ⟨n, by simp, Nat.zero_le _, h0⟩, ?_⟩
  rintro i m H ⟨rfl, hi, p⟩
  by_cases hlt : i < n
  · refine .inr ⟨hlt, Pv (i + 1), fun H' p' => ⟨n - (i + 1), by omega, rfl, hlt, p'⟩, fun x H' y => ?_⟩
    obtain ⟨e, y⟩ := y
    subst e y
    exact hs i _ hlt p
  · have e : i = n := by omega
    subst e
    exact .inl ⟨Nat.le_refl _, hd H p⟩
/-- a comprehension over a text -/
theorem lc_str {z : Str} {g : TG} {tt : TT} {te : TE} {vs : List Nat} {σ : St} {H1 : Hp} {D : Addr} {Qd : Hp → Prop} (Pv : Nat → Hp → Prop) (h0 : Pv 0 (upd H1 D (.lst [])))
    (hs : ∀ i c H, z.cps[i]? = some c → Pv i H → g (.str ⟨#[c]⟩) (wipe σ vs) H fun σ2 H2 => wipe σ2 vs = wipe σ vs ∧ tt σ2 H2 fun b H3 =>
      if b = true then te σ2 H3 fun y H4 => ∃ acc, H4 D = some (.lst acc) ∧ acc.length < sizeLine ∧ Pv (i + 1) (upd H4 D (.lst (acc ++ [y]))) else Pv (i + 1) H3) (hd : ∀ H, Pv z.cps.size H → Qd H) :
    ∃ W : Nat → Nat → Hp → Prop, (∃ m, W 0 m (upd H1 D (.lst []))) ∧ ∀ i m H, W i m H →
      ((Its z).stop i H ∧ Qd H) ∨ ((Its z).go i H ∧ ∃ Nx : Hp → Prop, (∀ H', Nx H' → ∃ m', m' < m ∧ W (i + 1) m' H') ∧ ∀ x H', (Its z).yld i H x H' → g x (wipe σ vs) H' fun σ2 H2 => wipe σ2 vs = wipe σ vs ∧ tt σ2 H2 fun b H3 =>
        if b = true then te σ2 H3 fun y H4 => ∃ acc, H4 D = some (.lst acc) ∧ acc.length < sizeLine ∧ Nx (upd H4 D (.lst (acc ++ [y]))) else Nx H3) := by
  refine ⟨fun i m H => m = z.cps.size - i ∧ i ≤ z.cps.size ∧ Pv i H, ⟨z.cps.size, by simp, Nat.zero_le _, h0⟩, ?_⟩
  rintro i m H ⟨rfl, hi, p⟩
  by_cases hlt : i < z.cps.size
  · refine .inr ⟨hlt, Pv (i + 1), fun H' p' => ⟨z.cps.size - (i + 1), by omega, rfl, hlt, p'⟩, fun x H' y => ?_⟩
    obtain ⟨e, c, hc, y⟩ := y
    subst e y
    exact hs i c _ hc p
  · have e : i = z.cps.size := by omega
    subst e
    exact .inl ⟨Nat.le_refl _, hd H p⟩
/-- len of a list or a tuple -/
def rLenS (K : PySem.W.Frag) : List V → Hp → VK → Prop := fun xs H Q => ∃ p ys, xs = [.ref p] ∧ (SqL K H p ys ∨ SqT K H p ys) ∧ Q (.int ys.length) H
theorem cr_lenS {X : Cx} : CallR X (.builtin "len") (rLenS X.K) := call_len_seq
end L2
namespace KB
open PySem PySem.Spec PyProof.Rows L2
/-- without r -/
def noR (r : Addr) (H : Hp) : Hp := fun b => if b = r then none else H b
theorem noR_sub {r : Addr} {H : Hp} : Same (noR r H) H := fun b o e => by
  unfold noR at e
  split at e
  · cases e
  · exact e
theorem noR_upd {r : Addr} {H : Hp} {o : HO} : noR r (upd H r o) = noR r H := by
  funext b
  unfold noR
  by_cases e : b = r
  · rw [if_pos e, if_pos e]
  · rw [if_neg e, if_neg e, upd_ne e]
theorem noR_at {r b : Addr} {H : Hp} {o : HO} (h : H b = some o) (n : b ≠ r) : noR r H b = some o := by
  unfold noR
  rw [if_neg n]
  exact h
theorem noR_off {p q r : Addr} {H H' : Hp} (O : Off p q H H') : Same (hide p q (noR r H)) (hide p q (noR r H')) := fun b o e => by
  unfold hide noR at e ⊢
  split at e
  · cases e
  · rename_i h
    rw [if_neg h]
    split at e
    · cases e
    · rename_i h2
      rw [if_neg h2]
      exact O _ _ e (fun z => h (.inl z)) (fun z => h (.inr z))
theorem noR_hide {p q r : Addr} {H : Hp} : Same (hide p q (noR r H)) (hide p q H) := hide_same noR_sub
theorem dat_rep {H : Hp} {v : V} {d : PyData} (h : Dat H v d) : ∀ n : Nat, DatAll H (List.replicate n [v]).flatten (List.replicate n d)
  | 0 => .nil
  | n + 1 => by
    rw [List.replicate_succ, List.replicate_succ, List.flatten_cons]
    exact .cons h (dat_rep h n)
/-! ### displays of data: a reading that makes the datum d from variables whose data are known -/
def EnvOk (G : List (Nat × PyData)) (σ : L2.St) (H : Hp) : Prop := ∀ p ∈ G, ∃ v, σ[p.1]? = some (some v) ∧ Dat H v p.2
theorem EnvOk.same {G : List (Nat × PyData)} {σ : L2.St} {H H' : Hp} (E : EnvOk G σ H) (S : Same H H') : EnvOk G σ H' := fun p hp => by
  obtain ⟨v, a, b⟩ := E p hp
  exact ⟨v, a, b.same S⟩
def Mk (G : List (Nat × PyData)) (t : TE) (d : PyData) : Prop := ∀ (σ : L2.St) (H : Hp) (Q : VK), EnvOk G σ H → (∀ (v : V) (H' : Hp), Same H H' → Dat H' v d → Q v H') → t σ H Q
def Mks (G : List (Nat × PyData)) (t : TA) (ds : List PyData) : Prop := ∀ (σ : L2.St) (H : Hp) (Q : List V → Hp → Prop), EnvOk G σ H → (∀ (vs : List V) (H' : Hp), Same H H' → DatAll H' vs ds → Q vs H') → t σ H Q
theorem mk_str {G : List (Nat × PyData)} {x : Str} (h : x.length ≤ 1000) : Mk G (tC (.str x)) (.str x) := fun _ H Q _ q => q _ H (Same.refl _) (.str x h)
theorem mk_int {G : List (Nat × PyData)} {i : Int} : Mk G (tC (.int i)) (.int i) := fun _ H Q _ q => q _ H (Same.refl _) (.int i)
theorem mk_bl {G : List (Nat × PyData)} {b : Bool} : Mk G (tC (.bl b)) (.bool b) := fun _ H Q _ q => q _ H (Same.refl _) (.bl b)
theorem mk_non {G : List (Nat × PyData)} : Mk G (tC .non) .none := fun _ H Q _ q => q _ H (Same.refl _) .non
theorem mk_var {G : List (Nat × PyData)} {i : Nat} {d : PyData} (h : (i, d) ∈ G) : Mk G (tVar i) d := fun σ H Q E q => by
  obtain ⟨v, a, b⟩ := E _ h
  exact ⟨v, a, q v H (Same.refl _) b⟩
theorem mks_nil {G : List (Nat × PyData)} : Mks G tNil [] := fun _ H Q _ q => q [] H (Same.refl _) .nil
theorem mks_cons {G : List (Nat × PyData)} {t : TE} {u : TA} {d : PyData} {ds : List PyData} (h : Mk G t d) (hs : Mks G u ds) : Mks G (tCons t u) (d :: ds) := fun σ H Q E q =>
  h σ H _ E fun v H1 S1 d1 => hs σ H1 _ (E.same S1) fun vs H2 S2 d2 => q _ H2 (S1.trans S2) (.cons (d1.same S2) d2)
theorem mk_tup {G : List (Nat × PyData)} {u : TA} {ds : List PyData} (hs : Mks G u ds) (hl : ds.length ≤ 1000) : Mk G (tTupF u) (.tuple ds) := fun σ H Q E q =>
  hs σ H _ E fun vs H1 S1 d1 => ⟨by rw [d1.len, sizeLine_eq]; omega, fun p o np no => q _ _ (S1.trans (same_new np)) (.tup (TP.fz upd_same no) (d1.same (same_new np)))⟩
theorem mk_lst {G : List (Nat × PyData)} {u : TA} {ds : List PyData} (hs : Mks G u ds) (hl : ds.length ≤ 1000) : Mk G (tLst u) (.list ds) := fun σ H Q E q =>
  hs σ H _ E fun vs H1 S1 d1 => ⟨by rw [d1.len, sizeLine_eq]; omega, fun p np => q _ _ (S1.trans (same_new np)) (.lst upd_same (d1.same (same_new np)))⟩
/-! ### more displays; a list of data that grows -/
theorem mk_neg {G : List (Nat × PyData)} {i : Int} : Mk G (tUn (rU fun i => .int (-i)) (tC (.int i))) (.int (-i)) := fun _ H Q _ q => ⟨i, rfl, q _ H (Same.refl _) (.int (-i))⟩
theorem dat_isInt {H : Hp} {v : V} {i : Int} (h : Dat H v (.int i)) : v = .int i := by
  cases h
  rfl
theorem mk_op {G : List (Nat × PyData)} {t u : TE} {i j k : Int} {C : Int → Int → Prop} {g : Int → Int → V} (h : Mk G t (.int i)) (h2 : Mk G u (.int j)) (hc : C i j) (e : g i j = .int k) : Mk G (tOp (rI C g) t u) (.int k) := fun σ H Q E q =>
  h σ H _ E fun v H1 S1 d1 => h2 σ H1 _ (E.same S1) fun w H2 S2 d2 => ⟨i, j, dat_isInt d1, dat_isInt d2, hc, by rw [e]; exact q _ H2 (S1.trans S2) (.int k)⟩
theorem mk_op0 {G : List (Nat × PyData)} {t u : TE} {i j k : Int} {g : Int → Int → V} (h : Mk G t (.int i)) (h2 : Mk G u (.int j)) (e : g i j = .int k) : Mk G (tOp (rI0 g) t u) (.int k) := fun σ H Q E q =>
  h σ H _ E fun v H1 S1 d1 => h2 σ H1 _ (E.same S1) fun w H2 S2 d2 => ⟨i, j, dat_isInt d1, dat_isInt d2, by rw [e]; exact q _ H2 (S1.trans S2) (.int k)⟩
theorem dat_tup {H : Hp} {v : V} {ds : List PyData} (h : Dat H v (.tuple ds)) : ∃ (a : Addr) (xs : List V), v = .ref a ∧ TP H a xs ∧ DatAll H xs ds := by
  cases h with
  | tup ha hx => exact ⟨_, _, rfl, ha, hx⟩
theorem dat_two {H : Hp} {vs : List V} {d e : PyData} (h : DatAll H vs [d, e]) : ∃ v w : V, vs = [v, w] ∧ Dat H v d ∧ Dat H w e := by
  cases h with
  | cons a h =>
    cases h with
    | cons b h =>
      cases h
      exact ⟨_, _, rfl, a, b⟩
theorem use_par {G : List (Nat × PyData)} {σ : L2.St} {H : Hp} {D : Ends} {u : TA} {d e : PyData} {i j : Nat} (M : Mks G u [d, e]) (E : EnvOk G σ H) (k : ∀ (v w : V) (H1 : Hp), Same H H1 → Dat H1 v d → Dat H1 w e → D.nx ((σ.set i (some v)).set j (some w)) H1) : tPar i j u D σ H :=
  M σ H _ E fun vs H1 S1 dd => by
    obtain ⟨v, w, rfl, a, b⟩ := dat_two dd
    exact ⟨v, w, rfl, k v w H1 S1 a b⟩
theorem use_call {G : List (Nat × PyData)} {σ : L2.St} {H : Hp} {Q : VK} {t : TE} {d : PyData} {sp : Sp} {E0 : XK} (M : Mk G t d) (E : EnvOk G σ H) (k : ∀ (v : V) (H1 : Hp), Same H H1 → Dat H1 v d → sp [v] H1 Q E0) : tCall sp [] E0 (tCons t tNil) σ H Q :=
  M σ H _ E fun v H1 S1 dd => k v H1 S1 dd
mutual
/-- no list within -/
def noL : PyData → Bool
  | .list _ => false
  | .tuple l => noLs l
  | _ => true
def noLs : List PyData → Bool
  | [] => true
  | d :: ds => noL d && noLs ds
end
mutual
theorem dat_noL {H : Hp} {L : Addr} {ys : List V} (hL : H L = some (.lst ys)) : ∀ {v : V} {d : PyData}, noL d = true → Dat H v d → Dat (noR L H) v d
  | _, _, _, .non => .non
  | _, _, _, .bl b => .bl b
  | _, _, _, .int i => .int i
  | _, _, _, .str x h => .str x h
  | _, _, h, .lst (a := a) ha hx => by
    rw [noL] at h
    cases h
  | _, _, h, .tup (a := a) ha hx => by
    rw [noL] at h
    refine .tup (fun C g => ?_) (dat_noLs hL h hx)
    have ne : a ≠ L := fun e => ha.noL (e ▸ hL)
    exact ha C fun o e n => g o (noR_at e ne) n
  | _, _, _, .d0 (a := a) ha => by
    refine .d0 (noR_at ha fun e => ?_)
    rw [e, hL] at ha
    cases ha
theorem dat_noLs {H : Hp} {L : Addr} {ys : List V} (hL : H L = some (.lst ys)) : ∀ {vs : List V} {ds : List PyData}, noLs ds = true → DatAll H vs ds → DatAll (noR L H) vs ds
  | _, _, _, .nil => .nil
  | _, _, h, .cons t u => by
    rw [noLs, Bool.and_eq_true] at h
    exact .cons (dat_noL hL h.1 t) (dat_noLs hL h.2 u)
end
/-- the variable i holds a list of data, which no value holds -/
def ST (Hi : Hp) (G : List (Nat × PyData)) (i : Nat) (ds : List PyData) (σ : L2.St) (H : Hp) : Prop :=
  ∃ (L : Addr) (zs : List V) (H0 : Hp), σ[i]? = some (some (.ref L)) ∧ H L = some (.lst zs) ∧ H0 L = none ∧ Same Hi H0 ∧ Same H0 H ∧ DatAll H0 zs ds ∧ EnvOk G σ H0
theorem ST.env {Hi : Hp} {G : List (Nat × PyData)} {i : Nat} {ds : List PyData} {σ : L2.St} {H : Hp} (S : ST Hi G i ds σ H) : EnvOk G σ H := by
  obtain ⟨L, zs, H0, h1, h2, h3, h4, h5, h6, h7⟩ := S
  exact h7.same h5
theorem EnvOk.set {G : List (Nat × PyData)} {σ : L2.St} {H : Hp} {i : Nat} {v : V} (E : EnvOk G σ H) (hn : ∀ p ∈ G, p.1 ≠ i) : EnvOk G (σ.set i (some v)) H := fun p hp => by
  obtain ⟨u, a, b⟩ := E p hp
  exact ⟨u, by rw [List.getElem?_set_ne (fun z => hn p hp z.symm)]; exact a, b⟩
theorem EnvOk.put {G : List (Nat × PyData)} {σ : L2.St} {H : Hp} {i : Nat} {v : V} {d : PyData} (E : EnvOk G σ H) (hn : ∀ p ∈ G, p.1 ≠ i) (hi : i < σ.length) (h : Dat H v d) : EnvOk ((i, d) :: G) (σ.set i (some v)) H := fun p hp => by
  rcases List.mem_cons.mp hp with rfl | hp
  · exact ⟨v, List.getElem?_set_self hi, h⟩
  · exact E.set hn p hp
theorem at_len {σ : L2.St} {i : Nat} {x : Option V} (h : σ[i]? = some x) : i < σ.length := (List.getElem?_eq_some_iff.mp h).1
/-- found = [..] -/
theorem st_new {G : List (Nat × PyData)} {Hi : Hp} {i : Nat} {ds : List PyData} {σ : L2.St} {H : Hp} {u : TA} {Q : VK} (E : EnvOk G σ H) (S : Same Hi H) (M : Mks G u ds) (hl : ds.length ≤ 1000) (hn : ∀ p ∈ G, p.1 ≠ i) (hi : i < σ.length)
    (k : ∀ (p : Addr) (H' : Hp), ST Hi G i ds (σ.set i (some (.ref p))) H' → Q (.ref p) H') : tLst u σ H Q :=
  M σ H _ E fun vs H1 S1 d1 => ⟨by rw [d1.len, sizeLine_eq]; omega, fun p np => k p _ ⟨p, vs, H1, List.getElem?_set_self hi, upd_same, np, S.trans S1, same_new np, d1, (E.same S1).set hn⟩⟩
/-- found = found + [..] -/
theorem st_cat {G : List (Nat × PyData)} {Hi : Hp} {i : Nat} {ds es : List PyData} {σ : L2.St} {H : Hp} {u : TA} {Q : VK} (S : ST Hi G i ds σ H) (M : Mks G u es) (hl : ds.length + es.length ≤ 1000) (hn : ∀ p ∈ G, p.1 ≠ i)
    (k : ∀ (p : Addr) (H' : Hp), ST Hi G i (ds ++ es) (σ.set i (some (.ref p))) H' → Q (.ref p) H') : tOp rCat (tVar i) (tLst u) σ H Q := by
  obtain ⟨L, zs, H0, h1, h2, h3, h4, h5, h6, h7⟩ := S
  refine ⟨_, h1, M σ H _ (h7.same h5) fun vs H1 S1 d1 => ⟨by rw [d1.len, sizeLine_eq]; omega, fun l nl => ?_⟩⟩
  have Sl := same_new (o := HO.lst vs) nl
  have T := (h5.trans S1).trans Sl
  have lz := h6.len
  have lv := d1.len
  refine ⟨L, l, zs, vs, rfl, rfl, Sl _ _ (S1 _ _ h2), upd_same, by rw [lz, lv, sizeLine_eq]; omega, fun p np => ?_⟩
  exact k p _ ⟨p, zs ++ vs, _, List.getElem?_set_self (at_len h1), upd_same, np, h4.trans T, same_new np, datAll_append (h6.same T) (d1.same Sl), (h7.same T).set hn⟩
theorem noR_same {L : Addr} {H0 H : Hp} (n : H0 L = none) (S : Same H0 H) : Same H0 (noR L H) := fun b o e => noR_at (S b o e) fun z => by
  rw [z, n] at e
  cases e
theorem noR_to {L : Addr} {H : Hp} {o : HO} : Same (noR L H) (upd H L o) := fun b x e => by
  unfold noR at e
  by_cases c : b = L
  · rw [if_pos c] at e
    cases e
  · rw [if_neg c] at e
    rw [upd_ne c]
    exact e
/-- found.append(..) -/
theorem st_app {K : PySem.W.Frag} {G : List (Nat × PyData)} {Hi : Hp} {i : Nat} {ds : List PyData} {d : PyData} {σ : L2.St} {H : Hp} {t : TE} {Q : VK} (S : ST Hi G i ds σ H) (M : Mk G t d) (hf : noL d = true) (hl : ds.length ≤ 1000)
    (k : ∀ H' : Hp, ST Hi G i (ds ++ [d]) σ H' → Q .non H') : tBM K "list" rAppend (tVar i) (tCons t tNil) σ H Q := by
  obtain ⟨L, zs, H0, h1, h2, h3, h4, h5, h6, h7⟩ := S
  refine ⟨_, h1, .inl ⟨rfl, _, SqL.of h2⟩, M σ H _ (h7.same h5) fun v H1 S1 d1 => ?_⟩
  have lz := h6.len
  have hL := S1 _ _ h2
  have T := noR_same h3 (h5.trans S1)
  refine ⟨L, zs, v, rfl, rfl, hL, by rw [lz, sizeLine_eq]; omega, k _ ⟨L, zs ++ [v], noR L H1, h1, upd_same, if_pos rfl, h4.trans T, noR_to, datAll_append (h6.same T) (.cons (dat_noL hL hf d1) .nil), h7.same T⟩⟩
/-- another variable is stored -/
theorem st_set {G : List (Nat × PyData)} {Hi : Hp} {i j : Nat} {ds : List PyData} {d : PyData} {σ : L2.St} {H : Hp} {v : V} (S : ST Hi G i ds σ H) {H1 : Hp} (S1 : Same H H1) (d1 : Dat H1 v d) (hf : noL d = true) (hn : ∀ p ∈ G, p.1 ≠ j) (hij : j ≠ i) (hj : j < σ.length) :
    ST Hi ((j, d) :: G) i ds (σ.set j (some v)) H1 := by
  obtain ⟨L, zs, H0, h1, h2, h3, h4, h5, h6, h7⟩ := S
  have hL := S1 _ _ h2
  have T := noR_same h3 (h5.trans S1)
  exact ⟨L, zs, noR L H1, by rw [List.getElem?_set_ne hij]; exact h1, hL, if_pos rfl, h4.trans T, noR_sub, h6.same T, (h7.same T).put hn hj (dat_noL hL hf d1)⟩
theorem ST.out {Hi : Hp} {G : List (Nat × PyData)} {i : Nat} {ds : List PyData} {σ : L2.St} {H : Hp} (S : ST Hi G i ds σ H) : ∃ (L : Addr) (zs : List V), σ[i]? = some (some (.ref L)) ∧ H L = some (.lst zs) ∧ Same Hi H ∧ DatAll H zs ds := by
  obtain ⟨L, zs, H0, h1, h2, h3, h4, h5, h6, h7⟩ := S
  exact ⟨L, zs, h1, h2, h4.trans h5, h6.same h5⟩
/-! statements -/
section
variable {G : List (Nat × PyData)} {Hi : Hp} {i : Nat} {ds es : List PyData} {σ : L2.St} {H : Hp} {u : TA} {D : Ends} {R : TS}
theorem sq_new (E : EnvOk G σ H) (S : Same Hi H) (M : Mks G u ds) (hl : ds.length ≤ 1000) (hn : ∀ p ∈ G, p.1 ≠ i) (hi : i < σ.length)
    (k : ∀ (p : Addr) (H' : Hp), ST Hi G i ds (σ.set i (some (.ref p))) H' → R D (σ.set i (some (.ref p))) H') : tSeq (tAsg (tLst u) (gName i)) R D σ H := st_new (Q := fun v H1 => R D (σ.set i (some v)) H1) E S M hl hn hi k
theorem sq_cat (S : ST Hi G i ds σ H) (M : Mks G u es) (hl : ds.length + es.length ≤ 1000) (hn : ∀ p ∈ G, p.1 ≠ i)
    (k : ∀ (p : Addr) (H' : Hp), ST Hi G i (ds ++ es) (σ.set i (some (.ref p))) H' → R D (σ.set i (some (.ref p))) H') : tSeq (tAsg (tOp rCat (tVar i) (tLst u)) (gName i)) R D σ H := st_cat (Q := fun v H1 => R D (σ.set i (some v)) H1) S M hl hn k
theorem rt_cat (S : ST Hi G i ds σ H) (M : Mks G u es) (hl : ds.length + es.length ≤ 1000) (hn : ∀ p ∈ G, p.1 ≠ i)
    (k : ∀ (p : Addr) (H' : Hp), ST Hi G i (ds ++ es) (σ.set i (some (.ref p))) H' → D.rt (.ref p) H') : tRet (tOp rCat (tVar i) (tLst u)) D σ H := st_cat (Q := D.rt) S M hl hn k
theorem sq_app {K : PySem.W.Frag} {d : PyData} {t : TE} (S : ST Hi G i ds σ H) (M : Mk G t d) (hf : noL d = true) (hl : ds.length ≤ 1000)
    (k : ∀ H' : Hp, ST Hi G i (ds ++ [d]) σ H' → R D σ H') : tSeq (tDrop (tBM K "list" rAppend (tVar i) (tCons t tNil))) R D σ H := st_app (Q := fun _ H1 => R D σ H1) S M hf hl k
theorem sq_par {d e : PyData} {i j : Nat} (M : Mks G u [d, e]) (E : EnvOk G σ H) (k : ∀ (v w : V) (H1 : Hp), Same H H1 → Dat H1 v d → Dat H1 w e → R D ((σ.set i (some v)).set j (some w)) H1) : tSeq (tPar i j u) R D σ H := use_par (D := { D with nx := R D }) M E k
end
/-! ### readings that make known data: more of them -/
section
variable {G : List (Nat × PyData)} {t u w ta tb : TE}
/-- a test whose answer is known -/
def MkT (G : List (Nat × PyData)) (t : TT) (b : Bool) : Prop := ∀ (σ : L2.St) (H : Hp) (Q : Bool → Hp → Prop), EnvOk G σ H → (∀ H' : Hp, Same H H' → Q b H') → t σ H Q
theorem dat_bl {H : Hp} {v : V} {b : Bool} (h : Dat H v (.bool b)) : v = .bl b := by
  cases h
  rfl
theorem mkt {b : Bool} (h : Mk G t (.bool b)) : MkT G (tTest t) b := fun σ H Q E q => h σ H _ E fun v H1 S d => ⟨b, dat_bl d, q H1 S⟩
theorem mkt_b {b : Bool} (h : Mk G t (.bool b)) : MkT G (tB t) b := fun σ H Q E q => h σ H _ E fun v H1 S d => ⟨b, dat_bl d, q H1 S⟩
theorem mk_ifT {c : TT} {d : PyData} (h : MkT G c true) (ha : Mk G ta d) : Mk G (tIf c ta tb) d := fun σ H Q E q => h σ H _ E fun H1 S1 => (if_pos rfl : (if true = true then ta σ H1 Q else tb σ H1 Q) = _) ▸ ha σ H1 Q (E.same S1) fun v H2 S2 d2 => q v H2 (S1.trans S2) d2
theorem mk_ifF {c : TT} {d : PyData} (h : MkT G c false) (hb : Mk G tb d) : Mk G (tIf c ta tb) d := fun σ H Q E q => h σ H _ E fun H1 S1 => (if_neg Bool.false_ne_true : (if false = true then ta σ H1 Q else tb σ H1 Q) = _) ▸ hb σ H1 Q (E.same S1) fun v H2 S2 d2 => q v H2 (S1.trans S2) d2
theorem mk_cmp {i j : Int} {b : Bool} {g : Int → Int → V} (h : Mk G t (.int i)) (h2 : Mk G u (.int j)) (e : g i j = .bl b) : Mk G (tOp (rI0 g) t u) (.bool b) := fun σ H Q E q =>
  h σ H _ E fun v H1 S1 d1 => h2 σ H1 _ (E.same S1) fun w H2 S2 d2 => ⟨i, j, dat_isInt d1, dat_isInt d2, by rw [e]; exact q _ H2 (S1.trans S2) (.bl b)⟩
theorem mk_eq {i j : Int} {b : Bool} (h : Mk G t (.int i)) (h2 : Mk G u (.int j)) (e : decide (i = j) = b) : Mk G (tOp rEq t u) (.bool b) := fun σ H Q E q =>
  h σ H _ E fun v H1 S1 d1 => h2 σ H1 _ (E.same S1) fun w H2 S2 d2 => by
    rw [dat_isInt d1, dat_isInt d2]
    refine ⟨rfl, ?_⟩
    have z : decide (V.int i = V.int j) = b := by
      rw [← e]
      exact decide_eq_decide.mpr ⟨fun h => V.int.inj h, fun h => by rw [h]⟩
    rw [z]
    exact q _ H2 (S1.trans S2) (.bl b)
theorem mk_ne {i j : Int} {b : Bool} (h : Mk G t (.int i)) (h2 : Mk G u (.int j)) (e : decide (i = j) = !b) : Mk G (tOp rNe t u) (.bool b) := fun σ H Q E q =>
  h σ H _ E fun v H1 S1 d1 => h2 σ H1 _ (E.same S1) fun w H2 S2 d2 => by
    rw [dat_isInt d1, dat_isInt d2]
    refine ⟨rfl, ?_⟩
    have z : (!decide (V.int i = V.int j)) = b := by
      have y : decide (V.int i = V.int j) = decide (i = j) := decide_eq_decide.mpr ⟨fun h => V.int.inj h, fun h => by rw [h]⟩
      rw [y, e, Bool.not_not]
    rw [z]
    exact q _ H2 (S1.trans S2) (.bl b)
/-- a == b == c == d, all the same -/
theorem mk_chain3 {x : TE} {i : Int} (h1 : Mk G t (.int i)) (h2 : Mk G u (.int i)) (h3 : Mk G w (.int i)) (h4 : Mk G x (.int i)) : Mk G (tChain3 rEq rEq rEq t u w x) (.bool true) := fun σ H Q E q =>
  h1 σ H _ E fun v1 H1 S1 d1 => h2 σ H1 _ (E.same S1) fun v2 H2 S2 d2 => by
    rw [dat_isInt d1, dat_isInt d2]
    refine ⟨rfl, _, rfl, ?_⟩
    rw [decide_eq_true rfl, if_pos rfl]
    refine h3 σ H2 _ (E.same (S1.trans S2)) fun v3 H3 S3 d3 => ?_
    rw [dat_isInt d3]
    refine ⟨rfl, _, rfl, ?_⟩
    rw [decide_eq_true rfl, if_pos rfl]
    refine h4 σ H3 _ (E.same ((S1.trans S2).trans S3)) fun v4 H4 S4 d4 => ?_
    rw [dat_isInt d4]
    refine ⟨rfl, ?_⟩
    rw [decide_eq_true rfl]
    exact q _ H4 (((S1.trans S2).trans S3).trans S4) (.bl true)
theorem mk_chainLe {lo x hi : Int} {b : Bool} (h1 : Mk G t (.int lo)) (h2 : Mk G u (.int x)) (h3 : Mk G w (.int hi)) (e : (decide (lo ≤ x) && decide (x ≤ hi)) = b) : Mk G (tChain (rI0 fun i j => .bl (decide (i ≤ j))) (rI0 fun i j => .bl (decide (i ≤ j))) t u w) (.bool b) := fun σ H Q E q =>
  h1 σ H _ E fun v1 H1 S1 d1 => h2 σ H1 _ (E.same S1) fun v2 H2 S2 d2 => by
    refine ⟨lo, x, dat_isInt d1, dat_isInt d2, _, rfl, ?_⟩
    by_cases c : lo ≤ x
    · rw [decide_eq_true c] at e ⊢
      rw [if_pos rfl]
      refine h3 σ H2 _ (E.same (S1.trans S2)) fun v3 H3 S3 d3 => ⟨x, hi, dat_isInt d2, dat_isInt d3, ?_⟩
      have e' : decide (x ≤ hi) = b := e
      show Q (.bl (decide (x ≤ hi))) H3
      rw [e']
      exact q _ H3 ((S1.trans S2).trans S3) (.bl b)
    · rw [decide_eq_false c] at e ⊢
      rw [if_neg Bool.false_ne_true]
      obtain rfl : false = b := e
      exact q _ H2 (S1.trans S2) (.bl false)
theorem mk_orT (h : Mk G t (.bool true)) : Mk G (tOrV t u) (.bool true) := fun σ H Q E q => h σ H _ E fun v H1 S d => ⟨true, dat_bl d, (if_pos rfl : (if true = true then Q (.bl true) H1 else u σ H1 Q) = _) ▸ q _ H1 S (.bl true)⟩
theorem mk_orF {d : PyData} (h : Mk G t (.bool false)) (h2 : Mk G u d) : Mk G (tOrV t u) d := fun σ H Q E q => h σ H _ E fun v H1 S1 d1 => ⟨false, dat_bl d1, (if_neg Bool.false_ne_true : (if false = true then Q (.bl true) H1 else u σ H1 Q) = _) ▸ h2 σ H1 _ (E.same S1) fun w H2 S2 d2 => q _ H2 (S1.trans S2) d2⟩
theorem mk_andT {d : PyData} (h : Mk G t (.bool true)) (h2 : Mk G u d) : Mk G (tAndV t u) d := fun σ H Q E q => h σ H _ E fun v H1 S1 d1 => ⟨true, dat_bl d1, (if_pos rfl : (if true = true then u σ H1 Q else Q (.bl false) H1) = _) ▸ h2 σ H1 _ (E.same S1) fun w H2 S2 d2 => q _ H2 (S1.trans S2) d2⟩
theorem mk_isN {b : Bool} {d : PyData} (h : Mk G t d) (e : ∀ v H, Dat H v d → decide (v = V.non) = b) : Mk G (tOp (fun x y H Q => y = .non ∧ Q (.bl (decide (x = .non))) H) t (tC .non)) (.bool b) := fun σ H Q E q => h σ H _ E fun v H1 S d1 => ⟨rfl, by rw [e v H1 d1]; exact q _ H1 S (.bl b)⟩
theorem dat_lst {H : Hp} {v : V} {ds : List PyData} (h : Dat H v (.list ds)) : ∃ (a : Addr) (xs : List V), v = .ref a ∧ H a = some (.lst xs) ∧ DatAll H xs ds := by
  cases h with
  | lst ha hx => exact ⟨_, _, rfl, ha, hx⟩
theorem dat_ints {H : Hp} : ∀ {ns : List Int} {xs : List V}, DatAll H xs (ns.map PyData.int) → xs = ns.map V.int
  | [], _, .nil => rfl
  | n :: ns, _, .cons a b => by
    rw [dat_isInt a, dat_ints b]
    rfl
theorem mk_sum {K : PySem.W.Frag} {ns : List Int} (h : Mk G t (.list (ns.map PyData.int))) : Mk G (tCB (rSum K) (tCons t tNil)) (.int ns.sum) := fun σ H Q E q => h σ H _ E fun v H1 S d => by
  obtain ⟨a, xs, rfl, ha, hx⟩ := dat_lst d
  rw [dat_ints hx] at ha
  exact ⟨a, ns, rfl, SqL.of ha, q _ H1 S (.int _)⟩
theorem ints_dp {K : PySem.W.Frag} {H : Hp} : ∀ ns : List Int, DpAll K H (ns.map V.int) (ns.map PyData.int)
  | [] => .nil
  | n :: ns => .cons (.int n) (ints_dp ns)
theorem ints_shaped (ns : List Int) : SeqAt.shaped (.list (ns.map PyData.int)) = true := by
  have h1 : ∀ l : List Int, PyData.canLayAll0 (l.map PyData.int) = true := by
    intro l
    induction l with
    | nil => rfl
    | cons a l ih =>
      show (PyData.canLay0 (.int a) && PyData.canLayAll0 (l.map PyData.int)) = true
      rw [ih]
      rfl
  have h2 : ∀ l : List Int, PyData.depthAll (l.map PyData.int) = 0 := by
    intro l
    induction l with
    | nil => rfl
    | cons a l ih =>
      rw [List.map_cons, PyData.depthAll, ih]
      rfl
  unfold SeqAt.shaped
  rw [PyData.depth, h2]
  show (PyData.canLayAll0 (ns.map PyData.int) && true) = true
  rw [h1]
  rfl
/-- two lists of the same ints -/
theorem mk_eqL {K : PySem.W.Frag} {ns : List Int} (h : Mk G t (.list (ns.map PyData.int))) (h2 : Mk G u (.list (ns.map PyData.int))) : Mk G (tOp (rEqD K) t u) (.bool true) := fun σ H Q E q =>
  h σ H _ E fun v H1 S1 d1 => h2 σ H1 _ (E.same S1) fun w H2 S2 d2 => by
    obtain ⟨a, xs, rfl, ha, hx⟩ := dat_lst d1
    obtain ⟨b, ys, rfl, hb, hy⟩ := dat_lst d2
    rw [dat_ints hx] at ha
    rw [dat_ints hy] at hb
    refine ⟨_, _, .lst (SqL.of (S2 _ _ ha)) (ints_dp ns), .lst (SqL.of hb) (ints_dp ns), ints_shaped ns, ints_shaped ns, ?_⟩
    have e : PyData.eqv (.list (ns.map PyData.int)) (.list (ns.map PyData.int)) = true := SeqAt.eqv_refl _ (SeqAt.canLay_of_shaped (ints_shaped ns))
    rw [e]
    exact q _ H2 (S1.trans S2) (.bl true)
theorem mk_catL {l1 l2 : List PyData} (h : Mk G t (.list l1)) (h2 : Mk G u (.list l2)) (hl : l1.length + l2.length ≤ 1000) : Mk G (tOp rCat t u) (.list (l1 ++ l2)) := fun σ H Q E q =>
  h σ H _ E fun v H1 S1 d1 => h2 σ H1 _ (E.same S1) fun w H2 S2 d2 => by
    obtain ⟨a, xs, rfl, ha, hx⟩ := dat_lst (d1.same S2)
    obtain ⟨b, ys, rfl, hb, hy⟩ := dat_lst d2
    have lx := hx.len
    have ly := hy.len
    exact ⟨a, b, xs, ys, rfl, rfl, ha, hb, by rw [lx, ly, sizeLine_eq]; omega, fun p np => q _ _ ((S1.trans S2).trans (same_new np)) (.lst upd_same (datAll_append (hx.same (same_new np)) (hy.same (same_new np))))⟩
theorem mk_ixT {K : PySem.W.Frag} {ds : List PyData} {d : PyData} {i : Int} {j : Nat} (h : Mk G t (.tuple ds)) (e : i = (j : Int)) (hj : ds[j]? = some d) : Mk G (tOp (rIxT K) t (tC (.int i))) d := fun σ H Q E q => h σ H _ E fun v H1 S1 d1 => by
  obtain ⟨a, xs, rfl, ha, hx⟩ := dat_tup d1
  have hl := hx.len
  obtain ⟨x, hx1⟩ : ∃ x, xs[j]? = some x := ⟨xs[j]'(by rw [hl]; exact (List.getElem?_eq_some_iff.mp hj).1), List.getElem?_eq_getElem _⟩
  obtain ⟨d', hd', dx⟩ := hx.get hx1
  rw [hj] at hd'
  obtain rfl := Option.some.inj hd'
  subst e
  exact ⟨a, xs, _, x, rfl, rfl, sqT_rd ha, atI_nat hx1, q _ H1 S1 dx⟩
end
/-! ### statements over known data -/
theorem dat_int' {H : Hp} {i j : Int} (e : i = j) : Dat H (.int i) (.int j) := by
  subst e
  exact .int i
section
variable {G : List (Nat × PyData)} {i : Nat} {d : PyData} {σ : L2.St} {H : Hp} {te : TE} {D : Ends} {R A : TS} {c : TT}
theorem sq_set (M : Mk G te d) (E : EnvOk G σ H) (hn : G.all (fun p => p.1 != i) = true) (hi : i < σ.length) (k : ∀ (v : V) (H' : Hp), Same H H' → EnvOk ((i, d) :: G) (σ.set i (some v)) H' → R D (σ.set i (some v)) H') : tSeq (tAsg te (gName i)) R D σ H :=
  M σ H (fun v H1 => R D (σ.set i (some v)) H1) E fun v H1 S d1 => k v H1 S ((E.same S).put (fun p hp => bne_iff_ne.mp (List.all_eq_true.mp hn p hp)) hi d1)
theorem rt_mk (M : Mk G te d) (E : EnvOk G σ H) (k : ∀ (v : V) (H' : Hp), Same H H' → Dat H' v d → D.rt v H') : tRet te D σ H := M σ H D.rt E k
theorem sq_if0 (M : MkT G c false) (E : EnvOk G σ H) (k : ∀ H' : Hp, Same H H' → R D σ H') : tSeq (tIfS c A tNext) R D σ H := M σ H _ E fun H1 S => (if_neg Bool.false_ne_true : (if false = true then A { D with nx := R D } σ H1 else tNext { D with nx := R D } σ H1) = _) ▸ k H1 S
theorem sq_if1 {B : TS} (M : MkT G c true) (E : EnvOk G σ H) (k : ∀ H' : Hp, Same H H' → A { D with nx := R D } σ H') : tSeq (tIfS c A B) R D σ H := M σ H _ E fun H1 S => (if_pos rfl : (if true = true then A { D with nx := R D } σ H1 else B { D with nx := R D } σ H1) = _) ▸ k H1 S
end
section
variable {G : List (Nat × PyData)} {t u : TE} {c c2 : TT}
theorem mk_orTT {b : Bool} (h : MkT G c false) (h2 : MkT G c2 b) : MkT G (tOr c c2) b := fun σ H Q E q => h σ H _ E fun H1 S1 => (if_neg Bool.false_ne_true : (if false = true then Q true H1 else c2 σ H1 Q) = _) ▸ h2 σ H1 Q (E.same S1) fun H2 S2 => q H2 (S1.trans S2)
theorem mk_subN {x y z : Nat} (h : Mk G t (.int ((x : Nat) : Int))) (h2 : Mk G u (.int ((y : Nat) : Int))) (e : y + z = x) : Mk G (tOp (rI0 fun i j => .int (i - j)) t u) (.int ((z : Nat) : Int)) := mk_op0 h h2 (by
  show V.int ((x : Int) - (y : Int)) = _
  rw [show (x : Int) - (y : Int) = (z : Int) by omega])
theorem mk_addN {x y z : Nat} (h : Mk G t (.int ((x : Nat) : Int))) (h2 : Mk G u (.int ((y : Nat) : Int))) (e : x + y = z) : Mk G (tOp (rI0 fun i j => .int (i + j)) t u) (.int ((z : Nat) : Int)) := mk_op0 h h2 (by
  show V.int ((x : Int) + (y : Int)) = _
  rw [show (x : Int) + (y : Int) = (z : Int) by omega])
theorem mk_mulN {x y z : Nat} (h : Mk G t (.int ((x : Nat) : Int))) (h2 : Mk G u (.int ((y : Nat) : Int))) (hx : x < 2 ^ 14000) (hy : y < 2 ^ 14000) (e : x * y = z) : Mk G (tOp (rI CMulW fun i j => .int (i * j)) t u) (.int ((z : Nat) : Int)) :=
  mk_op h h2 (wide_mul (a := 14000) (b := 14000) (by rw [Int.natAbs_natCast]; exact hx) (by rw [Int.natAbs_natCast]; exact hy) (by decide) (by decide) (by decide)) (by rw [← e, Int.natCast_mul])
theorem mk_nat {y : Nat} {i : Int} (e : i = (y : Int)) : Mk G (tC (.int i)) (.int ((y : Nat) : Int)) := by
  subst e
  exact mk_int
theorem mk_eqN {x : Nat} (h : Mk G t (.int ((x : Nat) : Int))) (h2 : Mk G u (.int ((x : Nat) : Int))) : Mk G (tOp rEq t u) (.bool true) := mk_eq h h2 (decide_eq_true rfl)
theorem mk_neN {x : Nat} (h : Mk G t (.int ((x : Nat) : Int))) (h2 : Mk G u (.int ((x : Nat) : Int))) : Mk G (tOp rNe t u) (.bool false) := mk_ne h h2 (decide_eq_true rfl)
end
theorem lt_big {x y a : Nat} (h : x < 2 ^ a) (ha : a ≤ 14000) : x < 2 ^ 14000 := Nat.lt_of_lt_of_le h (Nat.pow_le_pow_right (by decide) ha)
section
variable {P : Program} {w : World} {K : PySem.W.Frag} {mg : Str → Option Value} {base : Heap}
end
/-! ### permutations, walks -/
theorem atI_back {α : Type} {xs : List α} {v : α} (j : Nat) (h1 : 1 ≤ j) (hj : j ≤ xs.length) (h : xs[xs.length - j]? = some v) : atI xs (-(j : Int)) = some v := by
  have e : ixN xs.length (-(j : Int)) = some (xs.length - j) := by
    unfold ixN
    rw [if_neg (by omega), if_pos (by omega)]
    congr 1
    omega
  unfold atI
  rw [e]
  exact h
def rngD (n : Nat) : List PyData := (List.range n).map fun i => .int ((i : Nat) : Int)
section
variable {G : List (Nat × PyData)} {t u : TE}
theorem mk_ixL {K : PySem.W.Frag} {ds : List PyData} {d : PyData} {j : Nat} (h : Mk G t (.list ds)) (h2 : Mk G u (.int ((j : Nat) : Int))) (hj : ds[j]? = some d) : Mk G (tOp (rIxL K) t u) d := fun σ H Q E q => h σ H _ E fun v H1 S1 d1 => h2 σ H1 _ (E.same S1) fun w H2 S2 d2 => by
  obtain ⟨a, xs, rfl, ha, hx⟩ := dat_lst (d1.same S2)
  have hl := hx.len
  obtain ⟨x, hx1⟩ : ∃ x, xs[j]? = some x := ⟨xs[j]'(by rw [hl]; exact (List.getElem?_eq_some_iff.mp hj).1), List.getElem?_eq_getElem _⟩
  obtain ⟨d', hd', dx⟩ := hx.get hx1
  rw [hj] at hd'
  obtain rfl := Option.some.inj hd'
  exact ⟨a, xs, _, x, rfl, dat_isInt d2, SqL.of ha, atI_nat hx1, q _ H2 (S1.trans S2) dx⟩
theorem ints_all (H : Hp) : ∀ ns : List Int, DatAll H (ns.map V.int) (ns.map PyData.int)
  | [] => .nil
  | n :: ns => .cons (.int n) (ints_all H ns)
end
section
variable {v : V} {H : Hp} {Q : VK} {E : XK}
end
theorem rng_len (n : Nat) : (rngD n).length = n := by
  unfold rngD
  rw [List.length_map, List.length_range]
section
variable {P : Program} {w : World} {K : PySem.W.Frag} {mg : Str → Option Value} {base : Heap}
end
/-! ### strings -/
section
variable {v : V} {H : Hp} {Q : VK} {E : XK}
end
theorem mk_lenS {G : List (Nat × PyData)} {t : TE} {z : Str} {m : Nat} (h : Mk G t (.str z)) (hm : z.length = m) (hl : m ≤ 1000) : Mk G (tCB (fun xs H Q => ∃ z : Str, xs = [.str z] ∧ z.length ≤ sizeLine ∧ Q (.int (z.length : Nat)) H) (tCons t tNil)) (.int ((m : Nat) : Int)) := fun σ H Q E q => h σ H _ E fun v H1 S1 d1 => by
  subst hm
  cases d1
  exact ⟨z, rfl, by rw [sizeLine_eq]; omega, q _ H1 S1 (.int _)⟩
section
variable {P : Program} {w : World} {K : PySem.W.Frag} {mg : Str → Option Value} {base : Heap}
end
/-! ### nested spaces -/
section
variable {v : V} {H : Hp} {Q : VK} {E : XK}
end
section
variable {v : V} {H : Hp} {Q : VK} {E : XK} {a b t c : Nat}
end
theorem ne_of {G : List (Nat × PyData)} {i : Nat} (h : G.all (fun p => p.1 != i) = true) : ∀ p ∈ G, p.1 ≠ i := fun p hp => bne_iff_ne.mp (List.all_eq_true.mp h p hp)
theorem ST.same {Hi : Hp} {G : List (Nat × PyData)} {i : Nat} {ds : List PyData} {σ : L2.St} {H : Hp} (S : ST Hi G i ds σ H) : Same Hi H := S.out.choose_spec.choose_spec.2.2.1
theorem ST.envL {Hi : Hp} {G : List (Nat × PyData)} {i : Nat} {ds : List PyData} {σ : L2.St} {H : Hp} (S : ST Hi G i ds σ H) : EnvOk ((i, .list ds) :: G) σ H := fun p hp => by
  rcases List.mem_cons.mp hp with rfl | hp
  · obtain ⟨L, zs, h1, h2, _, h4⟩ := S.out
    exact ⟨_, h1, .lst h2 h4⟩
  · exact S.env p hp
theorem sq_par3 {G : List (Nat × PyData)} {i j l : Nat} {d e : PyData} {σ : L2.St} {H : Hp} {t u : TE} {w : TA} {D : Ends} {R : TS} (M1 : Mk G t d) (M2 : Mk G u e) (E : EnvOk G σ H)
    (k : ∀ (v1 v2 : V) (H' : Hp), Same H H' → Dat H' v1 d → Dat H' v2 e → w σ H' fun vs H1 => ∃ x y z, v1 :: v2 :: vs = [x, y, z] ∧ R D (((σ.set i (some x)).set j (some y)).set l (some z)) H1) : tSeq (tPar3 i j l (tCons t (tCons u w))) R D σ H :=
  M1 σ H _ E fun v1 H1 S1 d1 => M2 σ H1 _ (E.same S1) fun v2 H2 S2 d2 => k v1 v2 H2 (S1.trans S2) (d1.same S2) d2
section
variable {P : Program} {w : World} {K : PySem.W.Frag} {mg : Str → Option Value} {base : Heap}
end
/-! ### words -/
section
variable {P : Program} {w : World} {K : PySem.W.Frag} {mg : Str → Option Value} {base : Heap}
end
/-! ### the law's orders, arrangements -/
theorem cutV_nat (xs : List V) (a b : Nat) : cutV xs (some ((a : Nat) : Int)) (some ((a : Int) + (b : Int))) = (xs.drop a).take b := by
  unfold cutV
  rw [show (a : Int) + (b : Int) = ((a + b : Nat) : Int) by omega, HT.sIx_nat, HT.sIx_nat]
  by_cases h : a ≤ xs.length
  · rw [Nat.min_eq_left h]
    by_cases h2 : a + b ≤ xs.length
    · rw [Nat.min_eq_left h2, show a + b - a = b by omega]
    · rw [Nat.min_eq_right (by omega), List.take_of_length_le (by rw [List.length_drop]; omega), List.take_of_length_le (by rw [List.length_drop]; omega)]
  · have m1 : min a xs.length = xs.length := Nat.min_eq_right (by omega)
    rw [m1, List.drop_of_length_le (Nat.le_refl _), List.drop_of_length_le (by omega)]
    simp
theorem cutV_to (xs : List V) (b : Nat) : cutV xs none (some ((b : Nat) : Int)) = xs.take b := by
  unfold cutV
  rw [HT.sIx_nat, HT.sIx_none, List.drop_zero, Nat.sub_zero]
  by_cases h2 : b ≤ xs.length
  · rw [Nat.min_eq_left h2]
  · rw [Nat.min_eq_right (by omega), List.take_of_length_le (Nat.le_refl _), List.take_of_length_le (by omega)]
theorem cutV_from (xs : List V) (a : Nat) : cutV xs (some ((a : Nat) : Int)) none = xs.drop a := by
  unfold cutV
  rw [HT.sIx_nat, HT.sIx_none]
  by_cases h : a ≤ xs.length
  · rw [Nat.min_eq_left h, List.take_of_length_le (by rw [List.length_drop]; omega)]
  · rw [Nat.min_eq_right (by omega), List.drop_of_length_le (Nat.le_refl _), List.drop_of_length_le (by omega)]
    simp
section
variable {P : Program} {w : World} {K : PySem.W.Frag} {mg : Str → Option Value} {base : Heap}
end
theorem dat_strs {H : Hp} : ∀ {ns : List Str} {xs : List V}, DatAll H xs (ns.map PyData.str) → xs = ns.map V.str
  | [], _, .nil => rfl
  | n :: ns, _, .cons a b => by
    rw [dat_strs b]
    cases a
    rfl
theorem strs_all (H : Hp) : ∀ ns : List Str, (∀ z ∈ ns, z.length ≤ 1000) → DatAll H (ns.map V.str) (ns.map PyData.str)
  | [], _ => .nil
  | n :: ns, h => .cons (.str n (h n (by simp))) (strs_all H ns fun z hz => h z (by simp [hz]))
section
variable {G : List (Nat × PyData)} {t u : TE}
theorem mk_lenL {K : PySem.W.Frag} {ds : List PyData} {n : Nat} (h : Mk G t (.list ds)) (e : ds.length = n) : Mk G (tCB (rLenS K) (tCons t tNil)) (.int ((n : Nat) : Int)) := fun σ H Q E q => h σ H _ E fun v H1 S1 d1 => by
  obtain ⟨a, xs, rfl, ha, hx⟩ := dat_lst d1
  have hl := hx.len
  subst e
  exact ⟨a, xs, rfl, .inl (SqL.of ha), by rw [hl]; exact q _ H1 S1 (.int _)⟩
end
section
variable {P : Program} {w : World} {K : PySem.W.Frag} {mg : Str → Option Value} {base : Heap}
end
end KB
set_option maxRecDepth 100000
set_option maxHeartbeats 8000000
namespace KB
open PySem PySem.Spec PyProof.Rows L2
/-! ### a set of keys of one kind, with what its walk wants (L2.SetR for any kind) -/
def GdE {P : Program} {w : World} {κ : Type} [DecidableEq κ] (knd : PySem.KeyKind P w κ) (dec : Value → κ) (e : Int × Value) : Prop := knd.is (dec e.2) e.2 = true ∧ e.1 = knd.hash (dec e.2) ∧ e.2.scannable = true
def SetX {P : Program} {w : World} {κ : Type} [DecidableEq κ] (knd : PySem.KeyKind P w κ) (dec : Value → κ) (h : Heap) (a : Addr) (S : κ → Bool) (n : Nat) : Prop :=
  ∃ o es ep t, h.get? a = some o ∧ o.ExactSet ∧ o.data = .set es ep t ∧ (∀ e ∈ es.toList, GdE knd dec e) ∧ (es.toList.map fun e => dec e.2).Nodup ∧ (∀ k, S k = true ↔ k ∈ es.toList.map fun e => dec e.2) ∧
    es.size < scanBound ∧ t.fits es.size = true ∧ es.size = n ∧ Ris t.place.toList ∧ (w.params.followText "set-order" = true ∨ t.led = true)
section
variable {P : Program} {w : World} {κ : Type} [DecidableEq κ] {knd : PySem.KeyKind P w κ} {dec : Value → κ} {h h' : Heap} {a : Addr} {S : κ → Bool} {n : Nat}
theorem SetX.at (R : SetX knd dec h a S n) (k : ∀ o, h.get? a = some o → h'.get? a = some o) : SetX knd dec h' a S n := by
  obtain ⟨o, es, ep, t, ho, r⟩ := R
  exact ⟨o, es, ep, t, k o ho, r⟩
theorem SetX.as {S' : κ → Bool} (R : SetX knd dec h a S n) (e : ∀ k, S' k = S k) : SetX knd dec h a S' n := (funext e : S' = S) ▸ R
theorem gd_elems {l : List (Int × Value)} (g : ∀ e ∈ l, GdE knd dec e) : ElemsOf knd l := fun e he => ⟨⟨_, (g e he).1, (g e he).2.1⟩, (g e he).2.2⟩
theorem gd_is {e : Int × Value} (g : GdE knd dec e) (k : κ) : knd.is k e.2 = true ↔ dec e.2 = k := by
  constructor
  · intro z
    exact knd.inj _ _ _ g.1 z
  · rintro rfl
    exact g.1
theorem gd_mem {l : List (Int × Value)} (g : ∀ e ∈ l, GdE knd dec e) (k : κ) : k ∈ (l.map fun e => dec e.2) ↔ ∃ e ∈ l, knd.is k e.2 = true := by
  rw [List.mem_map]
  constructor
  · rintro ⟨e, he, q⟩
    exact ⟨e, he, (gd_is (g e he) k).2 q⟩
  · rintro ⟨e, he, q⟩
    exact ⟨e, he, (gd_is (g e he) k).1 q⟩
variable {A : Around} {E : Value → Shared → Prop} {s : Shared}
theorem setX_tail {g : Bool → Sem Unit} (hg : ∀ (b : Bool) (s₁ : Shared) (Q' : Unit → Shared → Prop), Q' () s₁ → wpAny (model P w) A (g b) Q' E s₁)
    {o : Obj} {es : Array (Int × Value)} {ep : Nat} {t : SetTable} (ho : s.heap.get? a = some o) (hex : o.ExactSet) (hd : o.data = .set es ep t)
    {es1 : Array (Int × Value)} {t2 : SetTable} {S' : κ → Bool} (g1 : ∀ e ∈ es1.toList, GdE knd dec e) (nd1 : (es1.toList.map fun e => dec e.2).Nodup) (m1 : ∀ k, S' k = true ↔ k ∈ es1.toList.map fun e => dec e.2)
    (hb1 : es1.size < scanBound) (hf2 : t2.fits es1.size = true) (hr : Ris t2.place.toList) (hl : w.params.followText "set-order" = true ∨ t2.led = true) {wasDummy : Bool} {R : Option Bool → Shared → Prop}
    (hR : ∀ h', Heap.SameBut a s.heap h' → SetX knd dec h' a S' es1.size → R (some true) { s with heap := h' }) :
    wpAny (model P w) A (do
        storeSet a es1 t2
        if (!wasDummy && t2.tooFull) = true then do
            g (relayAll t2 es1 (SetTable.grown es1.size)).2.2
            storeSet a (relayAll t2 es1 (SetTable.grown es1.size)).1 (relayAll t2 es1 (SetTable.grown es1.size)).2.1
            pure (some true)
          else pure (some true)) R E s := by
  refine wpAny_bind (wpAny_storeSet_of ho hd ?_ (fits_of_scanBound hb1))
  have ho1 := store_at (es' := es1) (t' := t2) ho hd
  have sb1 := Heap.SameBut.update s.heap a (Obj.putSet es1 t2)
  split
  · have pm := relayAll_perm t2 es1 (SetTable.grown es1.size)
    have hf3 := relayAll_fits t2 es1 (SetTable.grown es1.size)
    have hr3 := relayAll_ris t2 es1 (SetTable.grown es1.size)
    have hl3 := relayAll_led t2 es1 (SetTable.grown es1.size)
    generalize relayAll t2 es1 (SetTable.grown es1.size) = Z at pm hf3 hr3 hl3 ⊢
    obtain ⟨es2, t3, gave⟩ := Z
    dsimp only at pm hf3 hr3 hl3 ⊢
    have hsz : es2.size = es1.size := by rw [← Array.length_toList, pm.length_eq, Array.length_toList]
    have hb2 : es2.size < scanBound := by rw [hsz]; exact hb1
    have pk := pm.map fun e => dec e.2
    refine wpAny_bind (hg _ _ _ (wpAny_bind (wpAny_storeSet_of ho1 rfl ?_ (fits_of_scanBound hb2))))
    have ho2 := store_at (es' := es2) (t' := t3) ho1 rfl
    refine wpAny_pure (hR _ (sb1.trans (Heap.SameBut.update _ a _)) ?_)
    exact ⟨_, es2, _, t3, ho2, hex, rfl, fun e he => g1 e (pm.mem_iff.mp he), pk.nodup_iff.mpr nd1, fun k => (m1 k).trans pk.mem_iff.symm, hb2, hf3, hsz, hr3, hl.imp id fun z => by rw [hl3]; exact z⟩
  · exact wpAny_pure (hR _ sb1 ⟨_, es1, _, t2, ho1, hex, rfl, g1, nd1, m1, hb1, hf2, rfl, hr, hl⟩)
theorem setX_add {k : κ} {x : Value} {Q : Bool → Shared → Prop} (hkey : knd.is k x = true) (hdx : dec x = k) (hsc : x.scannable = true) (R : SetX knd dec s.heap a S n) (room : n + 1 < scanBound)
    (hQ : ∀ h', Heap.SameBut a s.heap h' → SetX knd dec h' a (fun j => S j || decide (j = k)) (if S k = true then n else n + 1) → Q (!S k) { s with heap := h' }) :
    wpAny (model P w) A (setAddHashed a x (knd.hash k)) Q E s := by
  obtain ⟨o, es, ep, t, ho, hex, hd, g, nd, hm, hb, hf, hn, hr, hl⟩ := R
  have hel : ElemsOf knd es.toList := gd_elems g
  unfold setAddHashed setAddHashedIn
  refine wpAny_holding (wpAny_bind (wpAny_setState_of ho hd hf ?_))
  dsimp only
  rw [byScan_of hsc hb hel]
  simp only [↓reduceIte]
  unfold setAddByScan
  refine wpAny_bind ?_
  refine wpAny_bind (wpAny_rule ?_)
  refine wpAny_bind (wpAny_setScan_of hkey ho hd hf hel ?_)
  cases hfi : List.findIdx? (fun e => knd.is k e.2) es.toList with
  | some j =>
    dsimp only
    obtain ⟨hj, pj, _⟩ := List.findIdx?_eq_some_iff_getElem.mp hfi
    have hSk : S k = true := (hm k).2 ((gd_mem g k).2 ⟨es.toList[j], List.getElem_mem hj, pj⟩)
    refine wpAny_pure (wpAny_pure ?_)
    have q := hQ s.heap (Heap.SameBut.refl a s.heap) ⟨o, es, ep, t, ho, hex, hd, g, nd, fun i => by
      rw [Bool.or_eq_true, decide_eq_true_eq, ← hm i]
      exact ⟨fun z => z.elim id (fun e => e ▸ hSk), .inl⟩, hb, hf, by rw [if_pos hSk]; exact hn, hr, hl⟩
    rw [hSk] at q
    exact q
  | none =>
    dsimp only
    have hnk : k ∉ es.toList.map fun e => dec e.2 := fun z => by
      obtain ⟨e, he, q⟩ := (gd_mem g k).1 z
      have c := List.findIdx?_eq_none_iff.mp hfi e he
      rw [q] at c
      cases c
    have hSk : S k = false := by
      cases q : S k with
      | false => rfl
      | true => exact absurd ((hm k).1 q) hnk
    have hgw : ∀ (b : Bool) {s₁ : Shared} {Q' : Unit → Shared → Prop}, Q' () s₁ → wpAny (model P w) A (match b with | true => rule "set.scan.the-table-gave-way" | false => pure ()) Q' E s₁ :=
      fun b s₁ Q' q => by cases b <;> first | exact wpAny_pure q | exact wpAny_rule q
    have pm := layNew_perm t es (knd.hash k) x
    have hf1 := layNew_fits t es (knd.hash k) x
    have hr1 := layNew_ris t es (knd.hash k) x hr
    have hl1 := layNew_led t es (knd.hash k) x
    generalize layNew t es (knd.hash k) x = Z at pm hf1 hr1 hl1 ⊢
    obtain ⟨es1, t1, wasDummy, gave⟩ := Z
    dsimp only at pm hf1 hr1 hl1 ⊢
    rw [Array.toList_push] at pm
    have pc : es1.toList.Perm ((knd.hash k, x) :: es.toList) := pm.trans (List.perm_append_singleton _ _)
    have pk : (es1.toList.map fun e => dec e.2).Perm (k :: es.toList.map fun e => dec e.2) := by
      have z := pc.map fun e => dec e.2
      rw [List.map_cons, hdx] at z
      exact z
    have g1 : ∀ e ∈ es1.toList, GdE knd dec e := fun e he => by
      rcases List.mem_cons.mp (pc.mem_iff.mp he) with z | z
      · rw [z]
        refine ⟨?_, ?_, hsc⟩
        · show knd.is (dec x) x = true
          rw [hdx]
          exact hkey
        · show knd.hash k = knd.hash (dec x)
          rw [hdx]
      · exact g e z
    have nd1 : (es1.toList.map fun e => dec e.2).Nodup := pk.nodup_iff.mpr (List.nodup_cons.mpr ⟨hnk, nd⟩)
    have m1 : ∀ i, (S i || decide (i = k)) = true ↔ i ∈ es1.toList.map fun e => dec e.2 := fun i => by
      rw [Bool.or_eq_true, decide_eq_true_eq, hm i, pk.mem_iff, List.mem_cons]
      exact Or.comm
    have hsz : es1.size = n + 1 := by rw [← Array.length_toList, pc.length_eq, List.length_cons, Array.length_toList, hn]
    have hb1 : es1.size < scanBound := by rw [hsz]; exact room
    have hled : w.params.followText "set-order" = true ∨ t1.led = true := hl.imp id fun z => by rw [hl1]; exact z
    have fin : ∀ h', Heap.SameBut a s.heap h' → SetX knd dec h' a (fun j => S j || decide (j = k)) es1.size → Q true { s with heap := h' } := fun h' sb r => by
      have q := hQ h' sb
      rw [hSk] at q
      rw [hsz] at r
      exact q r
    refine wpAny_bind (hgw _ ?_)
    split
    · refine wpAny_bind ?_
      rw [hashByValue_scannable 8 hsc]
      refine wpAny_pure ?_
      refine setX_tail ?_ ho hex hd g1 nd1 m1 hb1 ?_ ?_ ?_ ?_
      · intro b s₁ Q' q; cases b <;> first | exact wpAny_pure q | exact wpAny_rule q
      · first | (split <;> first | exact hf1 | exact SetTable.fits_plain_off hf1) | exact hf1
      · first | (split <;> exact hr1) | exact hr1
      · first | (split <;> exact hled) | exact hled
      · intro h' sb r; dsimp only; exact wpAny_pure (fin h' sb r)
    · refine wpAny_bind (wpAny_pure ?_)
      simp only [↓reduceIte]
      refine setX_tail ?_ ho hex hd g1 nd1 m1 hb1 hf1 hr1 hled ?_
      · intro b s₁ Q' q; cases b <;> first | exact wpAny_pure q | exact wpAny_rule q
      · intro h' sb r; dsimp only; exact wpAny_pure (fin h' sb r)
end
end KB
set_option maxRecDepth 100000
set_option maxHeartbeats 8000000
namespace KB
open PySem PySem.Spec PyProof.Rows L2
/-! ### set(keys) -/
section
variable {P : Program} {w : World} {κ : Type} [DecidableEq κ] {knd : PySem.KeyKind P w κ} {dec : Value → κ} {A : Around} {E : Value → Shared → Prop} {s : Shared}
theorem setX_fresh {h : Heap} {a : Addr} {ks : List κ} (ho : h.get? a = some { cls := .type "set", dict := none, data := .set #[] 0 (.fresh 0 0 (!w.params.followText "set-order")) }) : SetX knd dec h a (fun j => decide (j ∈ ks.take 0)) 0 :=
  ⟨_, #[], 0, _, ho, ⟨rfl, rfl, rfl⟩, rfl, (fun e he => by simp at he), (by simp), (fun k => by simp), (by decide), (by rfl), rfl, List.Pairwise.nil, by
    show _ ∨ (!w.params.followText "set-order") = true
    cases w.params.followText "set-order"
    · exact .inr rfl
    · exact .inl rfl⟩
theorem setX_loop {I : Addr} {fp wr : List Addr} {G : Array GenState → Array GenState → Prop} {n : Nat} {Pv : Nat → Value → Prop} {St : Nat → Shared → Prop} {R : Result → Shared → Prop}
    (W : WalksS P w A.in1 I fp wr G n Pv St) (S : Addr) (hSf : S ∉ fp) (ks : List κ) (hn : n = ks.length) (hb : ks.length + 1 < scanBound) (hval : ∀ i v, Pv i v → ∃ k, ks[i]? = some k ∧ knd.is k v = true ∧ dec v = k ∧ v.scannable = true) :
    ∀ (k i : Nat) (s : Shared), n - i = k → i ≤ n → St i s → (∃ c, c ≤ i ∧ SetX knd dec s.heap S (fun j => decide (j ∈ ks.take i)) c) →
      (∀ s' c, Moved (S :: wr) G s s' → c ≤ n → SetX knd dec s'.heap S (fun j => decide (j ∈ ks)) c → R (.ok (.ret .none)) s') →
      codeAny (model P w) A (.builtin "set.update.loop" ⟨[.ref S, .ref I], []⟩) R s := by
  have hSw : S ∉ wr := fun h => hSf (W.sub _ h)
  have hsub : ∀ b ∈ wr, b ∈ S :: wr := fun b hb => List.mem_cons_of_mem _ hb
  intro k
  induction k with
  | zero =>
    intro i s hk' hi hst ⟨c, hc, hS⟩ hR
    have hin : i = n := by omega
    subst hin
    refine codeAny_builtin F.entry_set_update_loop ?_
    rw [Around.under_plainId F.plain_set_update_loop _]
    show wpAny _ A.in1 (pyNext (.ref I) >>= _) _ _ s
    refine wpAny_bind (W.done s _ _ hst fun s' hm => ?_)
    show wpAny _ A.in1 (ret Value.none) _ _ s'
    have e : ks.take i = ks := List.take_of_length_le (by omega)
    rw [e] at hS
    exact wpAny_pure (hR s' c (hm.mono hsub) hc (hS.at fun o e => hm.heap S o hSw e))
  | succ k ih =>
    intro i s hk' hi hst ⟨c, hc, hS⟩ hR
    have hlt : i < n := by omega
    refine codeAny_builtin F.entry_set_update_loop ?_
    rw [Around.under_plainId F.plain_set_update_loop _]
    show wpAny _ A.in1 (pyNext (.ref I) >>= _) _ _ s
    refine wpAny_bind (W.item i s _ _ hlt hst fun v s' hP hst' hm => ?_)
    obtain ⟨z, hz, hkey, hdx, hsc⟩ := hval i v hP
    have hS' : SetX knd dec s'.heap S (fun j => decide (j ∈ ks.take i)) c := hS.at fun o e => hm.heap S o hSw e
    show wpAny _ A.in1 (holding [v] (setAdd S v) >>= _) _ _ s'
    refine wpAny_bind (wpAny_holding ?_)
    unfold setAdd
    refine wpAny_holding ?_
    refine wpAny_bind (knd.pyHash hkey ?_)
    refine setX_add (s := { s' with toks := s'.toks + 1 }) hkey hdx hsc hS' (by omega) fun h' hsb hS2 => ?_
    have hS3 : SetX knd dec h' S (fun j => decide (j ∈ ks.take (i + 1))) (if decide (z ∈ ks.take i) = true then c else c + 1) := hS2.as fun j => by
      rw [List.take_add_one, hz]
      simp [List.mem_append]
    have hc3 : (if decide (z ∈ ks.take i) = true then c else c + 1) ≤ i + 1 := by
      split <;> omega
    refine wpAny_pure ⟨plainId_quiet F.plain_set_update_loop _, ih (i + 1) _ (by omega) hlt (W.frame _ s' _ _ hst' (Nat.le_succ _) fun b hb o e => ?_) ⟨_, hc3, hS3⟩ fun s'' c2 hm'' hc'' hS'' => ?_⟩
    · rw [hsb.2 b (fun h : b = S => hSf (by rw [← h]; exact hb))]; exact e
    · refine hR s'' c2 (Moved.trans W.gtrans ((hm.mono hsub).then_heap (Nat.le_succ _) fun b o hb e => ?_) hm'') hc'' hS''
      rw [hsb.2 b (fun h : b = S => hb (by rw [h]; exact List.mem_cons_self))]; exact e
theorem call_setX_tuple {l : Addr} {items : Array Value} (ks : List κ) {Q : Value → Shared → Prop} (hh : A.handled = none) (hl : s.heap.IsTuple l items) (hlen : items.size = ks.length) (hit : ∀ (i : Nat) (v : Value), items[i]? = some v → ∃ k, ks[i]? = some k ∧ knd.is k v = true ∧ dec v = k ∧ v.scannable = true) (hb : ks.length + 1 < scanBound)
    (h : ∀ (h' : Heap) (tk c : Nat), SetX knd dec h' s.heap.objs.size (fun j => decide (j ∈ ks)) c → c ≤ ks.length → (∀ b o, s.heap.get? b = some o → h'.get? b = some o) → Q (.ref s.heap.objs.size) { s with heap := h', toks := tk }) :
    wpAny (model P w) A (call (.type "set") [.ref l]) Q E s := by
  obtain ⟨c, tl, hmro⟩ := F.called_set.mro
  have hmade := F.called_set.made
  have hsub := F.called_set.sub
  refine wpAny_call (codeAny_of_tree ?_)
  show wpAny _ _ (callAny (.type "set") _) _ _ _
  refine wpAny_pure ⟨Code.quiet_builtin _ (by decide +kernel), codeAny_builtin F.entry_type_call ?_⟩
  rw [Around.under_plain (weight_type_call_type "set" [.ref l] []) rfl]
  have h1 := F.called_set.notType
  have h2 := F.called_set.canCreate
  have hct := F.typeCall_set_1 (.ref l)
  repeat (any_goals (first | assumption | wp_step))
  refine codeAny_mono (code_set_led1 (.ref l) (E := E) (Q₁ := fun obj s₁ => obj = .ref s.heap.objs.size ∧ s₁ = { s with heap := s.heap.push { cls := .type "set", dict := none, data := .set #[] 0 (.fresh 0 0 (!w.params.followText "set-order")) } }) ⟨rfl, rfl⟩) fun r s₁ hr => ?_
  cases r with
  | error e => exact hr
  | ok fl =>
    cases fl with
    | ret obj =>
      obtain ⟨rfl, rfl⟩ := hr
      have hS : (s.heap.push { cls := .type "set", dict := none, data := .set #[] 0 (.fresh 0 0 (!w.params.followText "set-order")) }).get? s.heap.objs.size = some { cls := .type "set", dict := none, data := .set #[] 0 (.fresh 0 0 (!w.params.followText "set-order")) } := Heap.get?_push_size _ rfl
      have hT : Shared.TypeIs { s with heap := s.heap.push { cls := .type "set", dict := none, data := .set #[] 0 (.fresh 0 0 (!w.params.followText "set-order")) } } (.ref s.heap.objs.size) "set" := ⟨_, hS, rfl⟩
      have hli := F.called_set.init.lookup
      have hbi := F.called_set.init.bind (.ref s.heap.objs.size)
      repeat (any_goals (first | assumption | wp_step))
      refine codeAny_mono (codeAny_call_builtin (R := wants (fun r s₂ => r = .none ∧ ∃ h' tk c, s₂ = { s with heap := h', toks := tk } ∧ SetX knd dec h' s.heap.objs.size (fun j => decide (j ∈ ks)) c ∧ c ≤ ks.length ∧
          (∀ b o, s.heap.get? b = some o → h'.get? b = some o)) E) F.called_set.init.plain F.entry_set_init (check_set_init_1 hT ?_)) fun r₂ s₂ hr₂ => ?_
      · obtain ⟨ol, hol, hcl, nl, hdl⟩ := hl
        obtain ⟨ocls, odict, odata, oslots⟩ := ol
        simp only at hcl hdl
        subst hcl; subst hdl
        have hol' : (s.heap.push { cls := .type "set", dict := none, data := .set #[] 0 (.fresh 0 0 (!w.params.followText "set-order")) }).get? l = some { cls := .type "tuple", dict := odict, data := .seq items nl, slots := oslots } := Heap.get?_push_of_some _ hol
        have hsls := F.sub_tuple_set
        have hslf := F.sub_tuple_frozenset
        have hne : (Value.type "tuple" == Value.type "dict") = false := by decide
        have hl1 : (s.heap.push { cls := .type "set", dict := none, data := .set #[] 0 (.fresh 0 0 (!w.params.followText "set-order")) }).IsTuple l items := ⟨_, hol', rfl, nl, rfl⟩
        unfold Builtin.«set.__init__» noKeywords Builtin.Frozenset.updateFrom
        generalize hPI : pyIter = PI
        wp_walk
        subst hPI
        refine wpAny_pyIter_tuple hl1 ?_
        refine wpAny_bind (wpAny_runValue ?_)
        have hlS : l < s.heap.objs.size := Heap.lt_size hol
        have hh3 : A.in1.in1.in1.handled = none := by simp [hh]
        have hneI : l ≠ (s.heap.push { cls := .type "set", dict := none, data := .set #[] 0 (.fresh 0 0 (!w.params.followText "set-order")) }).objs.size := by
          rw [Heap.size_push]; exact Nat.ne_of_lt (Nat.lt_succ_of_lt hlS)
        have hSf : s.heap.objs.size ∉ [(s.heap.push { cls := .type "set", dict := none, data := .set #[] 0 (.fresh 0 0 (!w.params.followText "set-order")) }).objs.size, l] := by
          rw [Heap.size_push]; simp only [List.mem_cons, List.mem_singleton, List.not_mem_nil, or_false, not_or]
          exact ⟨Nat.ne_of_lt (Nat.lt_succ_self _), Nat.ne_of_gt hlS⟩
        refine setX_loop (knd := knd) (dec := dec) ((Walks.tuple hh3 _ l hneI items).toS) s.heap.objs.size
          hSf ks hlen hb hit (items.size - 0) 0 _ (by omega) (Nat.zero_le _)
          ⟨⟨_, Heap.get?_push_size _ rfl, rfl, rfl⟩, (hl1.push _)⟩ ?hS0 ?hR
        case hS0 =>
          have hget : ((s.heap.push { cls := .type "set", dict := none, data := .set #[] 0 (.fresh 0 0 (!w.params.followText "set-order")) }).push { cls := .type "tuple_iterator", data := .fields #[.ref l, .int 0 0] }).get? s.heap.objs.size
              = some { cls := .type "set", dict := none, data := .set #[] 0 (.fresh 0 0 (!w.params.followText "set-order")) } := Heap.get?_push_of_some _ hS
          exact ⟨0, Nat.le_refl 0, setX_fresh hget⟩
        case hR =>
          intro s' c' hm hc' hS'
          obtain ⟨h', g2, d', tk', os'⟩ := s'
          have eg : g2 = s.gens := hm.gens
          have ed : d' = s.drawn := hm.drawn
          have eo : os' = s.os := hm.os
          subst eg; subst ed; subst eo
          show wpAny _ _ _ _ _ _
          refine wpAny_pure ?_
          show wpAny _ _ (ret Value.none) _ _ _
          rw [hlen] at hc'
          refine wpAny_pure ⟨rfl, h', tk', c', rfl, hS', hc', fun b o e => ?_⟩
          have hb0 : b < s.heap.objs.size := Heap.lt_size e
          have hb1 : b ≠ s.heap.objs.size := Nat.ne_of_lt hb0
          have hb2 : b ≠ (s.heap.push { cls := .type "set", dict := none, data := .set #[] 0 (.fresh 0 0 (!w.params.followText "set-order")) }).objs.size := by
            rw [Heap.size_push]; exact Nat.ne_of_lt (Nat.lt_succ_of_lt hb0)
          exact hm.heap b o (by simp only [List.mem_cons, List.mem_singleton, List.not_mem_nil, or_false, not_or]; exact ⟨hb1, hb2⟩) (Heap.get?_push_of_some _ (Heap.get?_push_of_some _ e))
      · cases r₂ with
        | error e => exact hr₂
        | ok fl₂ =>
          cases fl₂ with
          | ret r =>
            obtain ⟨rfl, h', tk, c', rfl, hS', hc', hk'⟩ := hr₂
            repeat (any_goals (first | assumption | wp_step))
            exact h _ _ _ hS' hc' hk'
          | _ => exact hr₂.elim
    | _ => exact hr.elim
theorem call_setX_list {l : Addr} {items : Array Value} (ks : List κ) {Q : Value → Shared → Prop} (hh : A.handled = none) (hl : s.heap.IsList l items) (hlen : items.size = ks.length) (hit : ∀ (i : Nat) (v : Value), items[i]? = some v → ∃ k, ks[i]? = some k ∧ knd.is k v = true ∧ dec v = k ∧ v.scannable = true) (hb : ks.length + 1 < scanBound)
    (h : ∀ (h' : Heap) (tk c : Nat), SetX knd dec h' s.heap.objs.size (fun j => decide (j ∈ ks)) c → c ≤ ks.length → (∀ b o, s.heap.get? b = some o → h'.get? b = some o) → Q (.ref s.heap.objs.size) { s with heap := h', toks := tk }) :
    wpAny (model P w) A (call (.type "set") [.ref l]) Q E s := by
  obtain ⟨c, tl, hmro⟩ := F.called_set.mro
  have hmade := F.called_set.made
  have hsub := F.called_set.sub
  refine wpAny_call (codeAny_of_tree ?_)
  show wpAny _ _ (callAny (.type "set") _) _ _ _
  refine wpAny_pure ⟨Code.quiet_builtin _ (by decide +kernel), codeAny_builtin F.entry_type_call ?_⟩
  rw [Around.under_plain (weight_type_call_type "set" [.ref l] []) rfl]
  have h1 := F.called_set.notType
  have h2 := F.called_set.canCreate
  have hct := F.typeCall_set_1 (.ref l)
  repeat (any_goals (first | assumption | wp_step))
  refine codeAny_mono (code_set_led1 (.ref l) (E := E) (Q₁ := fun obj s₁ => obj = .ref s.heap.objs.size ∧ s₁ = { s with heap := s.heap.push { cls := .type "set", dict := none, data := .set #[] 0 (.fresh 0 0 (!w.params.followText "set-order")) } }) ⟨rfl, rfl⟩) fun r s₁ hr => ?_
  cases r with
  | error e => exact hr
  | ok fl =>
    cases fl with
    | ret obj =>
      obtain ⟨rfl, rfl⟩ := hr
      have hS : (s.heap.push { cls := .type "set", dict := none, data := .set #[] 0 (.fresh 0 0 (!w.params.followText "set-order")) }).get? s.heap.objs.size = some { cls := .type "set", dict := none, data := .set #[] 0 (.fresh 0 0 (!w.params.followText "set-order")) } := Heap.get?_push_size _ rfl
      have hT : Shared.TypeIs { s with heap := s.heap.push { cls := .type "set", dict := none, data := .set #[] 0 (.fresh 0 0 (!w.params.followText "set-order")) } } (.ref s.heap.objs.size) "set" := ⟨_, hS, rfl⟩
      have hli := F.called_set.init.lookup
      have hbi := F.called_set.init.bind (.ref s.heap.objs.size)
      repeat (any_goals (first | assumption | wp_step))
      refine codeAny_mono (codeAny_call_builtin (R := wants (fun r s₂ => r = .none ∧ ∃ h' tk c, s₂ = { s with heap := h', toks := tk } ∧ SetX knd dec h' s.heap.objs.size (fun j => decide (j ∈ ks)) c ∧ c ≤ ks.length ∧
          (∀ b o, s.heap.get? b = some o → h'.get? b = some o)) E) F.called_set.init.plain F.entry_set_init (check_set_init_1 hT ?_)) fun r₂ s₂ hr₂ => ?_
      · obtain ⟨ol, hol, hcl, nl, hdl⟩ := hl
        obtain ⟨ocls, odict, odata, oslots⟩ := ol
        simp only at hcl hdl
        subst hcl; subst hdl
        have hol' : (s.heap.push { cls := .type "set", dict := none, data := .set #[] 0 (.fresh 0 0 (!w.params.followText "set-order")) }).get? l = some { cls := .type "list", dict := odict, data := .seq items nl, slots := oslots } := Heap.get?_push_of_some _ hol
        have hsls := F.sub_list_set
        have hslf := F.sub_list_frozenset
        have hne : (Value.type "list" == Value.type "dict") = false := by decide
        have hl1 : (s.heap.push { cls := .type "set", dict := none, data := .set #[] 0 (.fresh 0 0 (!w.params.followText "set-order")) }).IsList l items := ⟨_, hol', rfl, nl, rfl⟩
        unfold Builtin.«set.__init__» noKeywords Builtin.Frozenset.updateFrom
        generalize hPI : pyIter = PI
        wp_walk
        subst hPI
        refine wpAny_pyIter_list hl1 ?_
        refine wpAny_bind (wpAny_runValue ?_)
        have hlS : l < s.heap.objs.size := Heap.lt_size hol
        have hh3 : A.in1.in1.in1.handled = none := by simp [hh]
        have hneI : l ≠ (s.heap.push { cls := .type "set", dict := none, data := .set #[] 0 (.fresh 0 0 (!w.params.followText "set-order")) }).objs.size := by
          rw [Heap.size_push]; exact Nat.ne_of_lt (Nat.lt_succ_of_lt hlS)
        have hSf : s.heap.objs.size ∉ [(s.heap.push { cls := .type "set", dict := none, data := .set #[] 0 (.fresh 0 0 (!w.params.followText "set-order")) }).objs.size, l] := by
          rw [Heap.size_push]; simp only [List.mem_cons, List.mem_singleton, List.not_mem_nil, or_false, not_or]
          exact ⟨Nat.ne_of_lt (Nat.lt_succ_self _), Nat.ne_of_gt hlS⟩
        refine setX_loop (knd := knd) (dec := dec) ((Walks.list hh3 _ l hneI items).toS) s.heap.objs.size
          hSf ks hlen hb hit (items.size - 0) 0 _ (by omega) (Nat.zero_le _)
          ⟨⟨_, Heap.get?_push_size _ rfl, rfl, rfl⟩, (hl1.push _)⟩ ?hS0 ?hR
        case hS0 =>
          have hget : ((s.heap.push { cls := .type "set", dict := none, data := .set #[] 0 (.fresh 0 0 (!w.params.followText "set-order")) }).push { cls := .type "list_iterator", data := .fields #[.ref l, .int 0 0] }).get? s.heap.objs.size
              = some { cls := .type "set", dict := none, data := .set #[] 0 (.fresh 0 0 (!w.params.followText "set-order")) } := Heap.get?_push_of_some _ hS
          exact ⟨0, Nat.le_refl 0, setX_fresh hget⟩
        case hR =>
          intro s' c' hm hc' hS'
          obtain ⟨h', g2, d', tk', os'⟩ := s'
          have eg : g2 = s.gens := hm.gens
          have ed : d' = s.drawn := hm.drawn
          have eo : os' = s.os := hm.os
          subst eg; subst ed; subst eo
          show wpAny _ _ _ _ _ _
          refine wpAny_pure ?_
          show wpAny _ _ (ret Value.none) _ _ _
          rw [hlen] at hc'
          refine wpAny_pure ⟨rfl, h', tk', c', rfl, hS', hc', fun b o e => ?_⟩
          have hb0 : b < s.heap.objs.size := Heap.lt_size e
          have hb1 : b ≠ s.heap.objs.size := Nat.ne_of_lt hb0
          have hb2 : b ≠ (s.heap.push { cls := .type "set", dict := none, data := .set #[] 0 (.fresh 0 0 (!w.params.followText "set-order")) }).objs.size := by
            rw [Heap.size_push]; exact Nat.ne_of_lt (Nat.lt_succ_of_lt hb0)
          exact hm.heap b o (by simp only [List.mem_cons, List.mem_singleton, List.not_mem_nil, or_false, not_or]; exact ⟨hb1, hb2⟩) (Heap.get?_push_of_some _ (Heap.get?_push_of_some _ e))
      · cases r₂ with
        | error e => exact hr₂
        | ok fl₂ =>
          cases fl₂ with
          | ret r =>
            obtain ⟨rfl, h', tk, c', rfl, hS', hc', hk'⟩ := hr₂
            repeat (any_goals (first | assumption | wp_step))
            exact h _ _ _ hS' hc' hk'
          | _ => exact hr₂.elim
    | _ => exact hr.elim
end
end KB
set_option maxRecDepth 100000
set_option maxHeartbeats 8000000
namespace KB
open PySem PySem.Spec PyProof.Rows L2
/-! ### sorted of such a set; the rules -/
def strV : Value → Str
  | .str x _ => x
  | _ => Str.empty
def intV : Value → Int
  | .int k _ => k
  | _ => 0
section
variable {P : Program} {w : World} {A : Around} {E : Value → Shared → Prop} {s : Shared} {a : Addr}
theorem sorted_any {κ : Type} [DecidableEq κ] {knd : PySem.KeyKind P w κ} {dec : Value → κ} {μ : KeyKind} (hO : μ.OneLt) {S : κ → Bool} {n : Nat} {Q : Value → Shared → Prop} (R : SetX knd dec s.heap a S n) (hh : A.handled = none) (h1000 : n ≤ 1000)
    (hkk : ∀ vs : List Value, (∀ v ∈ vs, knd.is (dec v) v = true) → KeysOf μ (pairsOf vs) ∧ ∀ v₁ v₂ rest, vs = v₁ :: v₂ :: rest → keyKind' (v₁ :: v₂ :: rest).toArray = pure oneType')
    (hQ : ∀ s' p (vs : List Value) (st' : SortSt) (c : Nat), (∀ b o, s.heap.get? b = some o → s'.heap.get? b = some o) → s'.gens = s.gens → s'.os = s.os → s.heap.objs.size ≤ p → (∀ v ∈ vs, knd.is (dec v) v = true) → (vs.map dec).Nodup → (∀ k, k ∈ vs.map dec ↔ S k = true) → vs.length = n →
      (arrOf st').Perm (pairsOf vs) → SortedToK μ (arrOf st') (pairsOf vs).size → s'.heap.get? p = some (seqObj "list" ((arrOf st').map (·.2)) c) → Q (.ref p) s') :
    wpAny (model P w) A (call (.builtin "sorted") [.ref a]) Q E s := by
  obtain ⟨o, es, ep, t, ho, hex, hd, g, nd, hm, hb, hf, hn, hr, hl⟩ := R
  refine Calls.call_function_entry kind_sorted plain_sorted entry_sorted (args_sorted1 _) ?_
  unfold Builtin.«sorted»
  refine wpAny_bind (m := checkCount "sorted" 1 1 _) (wpAny_pure ?_)
  refine wpAny_bind (collect_set (A := A.in1) hh ⟨o, ho, hex.1, hd⟩ hf hb hr hl fun s1 vs k1 hz g1 o1 pm => ?_)
  have hvl : vs.length = n := by rw [pm.length_eq, List.length_map, Array.length_toList]; exact hn
  have hgood : ∀ v ∈ vs, knd.is (dec v) v = true := fun v hv => by
    obtain ⟨e, he, q⟩ := List.mem_map.mp (pm.mem_iff.mp hv)
    rw [← q]
    exact (g e he).1
  have pk : (vs.map dec).Perm (es.toList.map fun e => dec e.2) := by
    have q := pm.map dec
    rw [List.map_map] at q
    exact q
  obtain ⟨hK, hkk2⟩ := hkk vs hgood
  refine wpAny_bind (wpAny_newList ?_ (by rw [hvl, sizeLine_eq]; omega))
  have hoL : (s1.heap.push (seqObj "list" vs.toArray 0)).get? s1.heap.objs.size = some (seqObj "list" vs.toArray 0) := Heap.get?_push_size _ rfl
  refine wpAny_bind (wpAny_holding (wpAny_call_entry slot_list_sort ⟨_, hoL, rfl⟩ entry_list_sort (list_sort_treeKAny hO hoL hK hkk2 (by rw [hvl, sizeLine_eq]; omega) fun st' a1 a2 => ⟨_, rfl, ?_⟩) (args_list_sort _)))
  obtain ⟨c, hc⟩ := sortedHeap_at (vs := vs) (out := (arrOf st').map (·.2)) hoL
  refine wpAny_pure ⟨_, rfl, hQ _ s1.heap.objs.size vs st' c (fun b u e => ?_) g1 o1 hz hgood (pk.nodup_iff.mpr nd) (fun k => by rw [pk.mem_iff, ← hm k]) hvl a1 a2 hc⟩
  have q := k1 b u e
  have hlt := Heap.lt_size q
  show (sortedHeap (s1.heap.push (seqObj "list" vs.toArray 0)) s1.heap.objs.size vs _).get? b = some u
  rw [sortedHeap_old (Nat.ne_of_lt hlt) (by rw [size_push']; exact Nat.lt_succ_of_lt hlt)]
  exact Heap.get?_push_of_some _ q
theorem strs_are : ∀ {vs : List Value}, (∀ v ∈ vs, (PySem.strKind P w).is (strV v) v = true) → StrsAre vs (vs.map strV)
  | [], _ => .nil
  | v :: vs, h => by
    obtain ⟨t, e⟩ := Value.isStrOf_shape (h v List.mem_cons_self)
    have ih := strs_are (vs := vs) fun u hu => h u (List.mem_cons_of_mem _ hu)
    rw [List.map_cons, e]
    exact .cons _ t ih
theorem ints_are : ∀ {vs : List Value}, (∀ v ∈ vs, (PySem.intKind P w).is (intV v) v = true) → IntsAre vs (vs.map intV)
  | [], _ => .nil
  | v :: vs, h => by
    have ih := ints_are (vs := vs) fun u hu => h u (List.mem_cons_of_mem _ hu)
    have z := h v List.mem_cons_self
    cases v with
    | int k t => exact .cons k t ih
    | _ => cases z
end
section
variable {P : Program} {w : World} {κ : Type} [DecidableEq κ]
def SetHO (knd : PySem.KeyKind P w κ) (dec : Value → κ) (a : Addr) (S : κ → Bool) (n : Nat) : HO := .ext fun h => SetX knd dec h a S n
theorem setHO_new {knd : PySem.KeyKind P w κ} {dec : Value → κ} {H : Hp} {h : Heap} {a : Addr} {S : κ → Bool} {n : Nat} (R : SetX knd dec h a S n) : ObjOk P w H h a (SetHO knd dec a S n) := by
  have ⟨o, _, _, _, ho, _⟩ := R
  exact ⟨R, ⟨o, ho⟩, fun h1 h2 p k => SetX.at p k⟩
end
section
variable {X : Cx}
def rSetOf {P : Program} {w : World} {κ : Type} [DecidableEq κ] (K : PySem.W.Frag) (knd : PySem.KeyKind P w κ) (dec : Value → κ) (mk : κ → V) : List V → Hp → VK → Prop := fun xs H Q => ∃ (l : Addr) (ks : List κ), xs = [.ref l] ∧ (SqL K H l (ks.map mk) ∨ SqT K H l (ks.map mk)) ∧ ks.length ≤ 1000 ∧
  ∀ p c, H p = none → c ≤ ks.length → Q (.ref p) (upd H p (SetHO knd dec p (fun j => decide (j ∈ ks)) c))
theorem cr_setOf {κ : Type} [DecidableEq κ] {knd : PySem.KeyKind X.prog X.w κ} {dec : Value → κ} {mk : κ → V} (hc : X.calm = true) (hk : ∀ k v, RelV (mk k) v → knd.is k v = true ∧ dec v = k ∧ v.scannable = true) : CallR X (.type "set") (rSetOf X.K knd dec mk) := by
  intro pins s σ H xs us Q I r h
  obtain ⟨l, ks, rfl, hs, hz, q⟩ := h
  rw [Vals.ref1 r]
  have fin : ∀ (h' : Heap) (tk c : Nat), SetX knd dec h' s.heap.objs.size (fun j => decide (j ∈ ks)) c → c ≤ ks.length → (∀ b o, s.heap.get? b = some o → h'.get? b = some o) → EP X pins σ Q (.ref s.heap.objs.size) { s with heap := h', toks := tk } := fun h' tk c R hcl hk' =>
    ⟨.ref _, upd H s.heap.objs.size (SetHO knd dec s.heap.objs.size (fun j => decide (j ∈ ks)) c), I.laid (t' := tk) hk' (Nat.le_refl _) (setHO_new R), rfl, q _ c (I.hok.fresh (Nat.le_refl _)) hcl⟩
  have at_ : ∀ {its : List Value}, Vals (ks.map mk) its → its.toArray.size = ks.length ∧ ∀ (i : Nat) (v : Value), its.toArray[i]? = some v → ∃ k, ks[i]? = some k ∧ knd.is k v = true ∧ dec v = k ∧ v.scannable = true := fun {its} rv => by
    have hl := rv.length
    rw [List.length_map] at hl
    refine ⟨by rw [List.size_toArray]; omega, fun i v hv => ?_⟩
    have hv' : its[i]? = some v := by simpa using hv
    obtain ⟨hi, _⟩ := List.getElem?_eq_some_iff.mp hv'
    have hik : i < ks.length := by omega
    obtain ⟨u, hu, ru⟩ := rv.get (x := mk ks[i]) (by rw [List.getElem?_map, List.getElem?_eq_getElem hik]; rfl)
    rw [hv'] at hu
    cases hu
    exact ⟨ks[i], List.getElem?_eq_getElem hik, hk _ _ ru⟩
  rcases hs with hs | hs
  · obtain ⟨its, rv, hl, _⟩ := I.list hs
    obtain ⟨e1, e2⟩ := at_ rv
    exact call_setX_list ks (I.ok.hd hc) hl.isList e1 e2 (by unfold scanBound; omega) fin
  · obtain ⟨its, rv, pt, _⟩ := I.tuple hs
    obtain ⟨e1, e2⟩ := at_ rv
    exact call_setX_tuple ks (I.ok.hd hc) pt e1 e2 (by unfold scanBound; omega) fin
def rSortX {P : Program} {w : World} : List V → Hp → VK → Prop := fun xs H Q => ∃ (a : Addr) (S : Str → Bool) (n : Nat), xs = [.ref a] ∧ H a = some (SetHO (PySem.strKind P w) strV a S n) ∧ n ≤ 1000 ∧
  ∀ (ys : List Str) (p : Addr), ys.Nodup → sortedS ys = true → (∀ y, y ∈ ys ↔ S y = true) → ys.length = n → H p = none → Q (.ref p) (upd H p (.lst (ys.map V.str)))
def rSortN {P : Program} {w : World} : List V → Hp → VK → Prop := fun xs H Q => ∃ (a : Addr) (S : Int → Bool) (n : Nat), xs = [.ref a] ∧ H a = some (SetHO (PySem.intKind P w) intV a S n) ∧ n ≤ 1000 ∧
  ∀ (ys : List Int) (p : Addr), ys.Nodup → ys.Pairwise (· ≤ ·) → (∀ y, y ∈ ys ↔ S y = true) → ys.length = n → H p = none → Q (.ref p) (upd H p (.lst (ys.map V.int)))
theorem cr_sortX (hc : X.calm = true) : CallR X (.builtin "sorted") (rSortX (P := X.prog) (w := X.w)) := by
  intro pins s σ H vs us Q I r h
  obtain ⟨a, S, n, rfl, ha, hn, q⟩ := h
  rw [Vals.ref1 r]
  have R : SetX (PySem.strKind X.prog X.w) strV s.heap a S n := (I.hok a _ ha).1
  refine sorted_any strKind_oneLt R (I.ok.hd hc) hn (fun vs hv => ⟨(strs_are hv).keysOf, fun v₁ v₂ rest e => keyKind_strs (by rw [← e]; exact strs_are hv)⟩) fun s' p vs st' c k g o hp hv nd hm hl a1 a2 hg => ?_
  obtain ⟨ys, h1, h2, h3⟩ := sorted_out_str (strs_are hv) a1 a2
  have hlen : (ys.map V.str).length ≤ sizeLine := by
    rw [List.length_map, h2.length_eq, List.length_map, hl, sizeLine_eq]
    omega
  have hn' : H p = none := I.hok.fresh hp
  have J : Inv X pins σ (upd H p (.lst (ys.map V.str))) { s with heap := s'.heap, gens := s'.gens, drawn := s'.drawn, toks := s'.toks } :=
    I.call (ch := []) (Un.laid k hp hn') (I.hok.laid k hp ⟨hlen, _, c, vals_of_strs h1, hg⟩) (by rw [g]; exact I.bare) (fun _ z => nomatch z)
  have e : s' = { s with heap := s'.heap, gens := s'.gens, drawn := s'.drawn, toks := s'.toks } := by
    cases s'
    cases s
    cases o
    rfl
  rw [e]
  exact ⟨.ref p, _, J, rfl, q ys p (h2.nodup_iff.mpr nd) h3 (fun y => by rw [h2.mem_iff, hm]) (by rw [h2.length_eq, List.length_map, hl]) hn'⟩
theorem cr_sortN (hc : X.calm = true) : CallR X (.builtin "sorted") (rSortN (P := X.prog) (w := X.w)) := by
  intro pins s σ H vs us Q I r h
  obtain ⟨a, S, n, rfl, ha, hn, q⟩ := h
  rw [Vals.ref1 r]
  have R : SetX (PySem.intKind X.prog X.w) intV s.heap a S n := (I.hok a _ ha).1
  refine sorted_any intKind_oneLt R (I.ok.hd hc) hn (fun vs hv => ⟨(ints_are hv).keysOfInt, fun v₁ v₂ rest e => keyKind_ints (by rw [← e]; exact ints_are hv)⟩) fun s' p vs st' c k g o hp hv nd hm hl a1 a2 hg => ?_
  obtain ⟨ys, h1, h2, h3⟩ := sorted_out (ints_are hv) a1 (sortedTo_of_int a2)
  have hlen : (ys.map V.int).length ≤ sizeLine := by
    rw [List.length_map, h2.length_eq, List.length_map, hl, sizeLine_eq]
    omega
  have hn' : H p = none := I.hok.fresh hp
  have J : Inv X pins σ (upd H p (.lst (ys.map V.int))) { s with heap := s'.heap, gens := s'.gens, drawn := s'.drawn, toks := s'.toks } :=
    I.call (ch := []) (Un.laid k hp hn') (I.hok.laid k hp ⟨hlen, _, c, vals_of_ints h1, hg⟩) (by rw [g]; exact I.bare) (fun _ z => nomatch z)
  have e : s' = { s with heap := s'.heap, gens := s'.gens, drawn := s'.drawn, toks := s'.toks } := by
    cases s'
    cases s
    cases o
    rfl
  rw [e]
  exact ⟨.ref p, _, J, rfl, q ys p (h2.nodup_iff.mpr nd) h3 (fun y => by rw [h2.mem_iff, hm]) (by rw [h2.length_eq, List.length_map, hl]) hn'⟩
theorem key_str {P : Program} {w : World} (k : Str) (v : Value) (h : RelV (V.str k) v) : (PySem.strKind P w).is k v = true ∧ strV v = k ∧ v.scannable = true := by
  obtain ⟨t, rfl⟩ := h
  refine ⟨?_, rfl, rfl⟩
  show Value.isStrOf k (.str k t) = true
  simp [Value.isStrOf, Value.isStr]
theorem key_int {P : Program} {w : World} (k : Int) (v : Value) (h : RelV (V.int k) v) : (PySem.intKind P w).is k v = true ∧ intV v = k ∧ v.scannable = true := by
  obtain ⟨t, rfl⟩ := h
  exact ⟨PySem.intKind_is P w k t, rfl, rfl⟩
end
end KB
set_option maxRecDepth 100000
set_option maxHeartbeats 8000000
namespace KB
open PySem PySem.Spec PyProof.Rows L2
section
variable {X : Cx}
theorem pairs2 {pins : List (Addr × Obj)} {σ : L2.St} {H : Hp} {s : Shared} (I : Inv X pins σ H s) : ∀ {ps : List Addr} {kvs : List (Key × V)}, Paired (fun p kv => SqT X.K H p [kV kv.1, kv.2]) ps kvs →
    ∃ (prs : List (Key × Value)) (us : List (Value × Value)), KV kvs prs ∧ prs.length = ps.length ∧ us.length = ps.length ∧ ∀ (j : Nat) (k v : Value), us[j]? = some (k, v) → ∃ (b : Addr) (key : Key), ps[j]? = some b ∧ IsTup s.heap b #[k, v] ∧ prs[j]? = some (key, v) ∧ keyIs key k = true
  | _, _, .nil => ⟨[], [], .nil, rfl, rfl, fun j k v e => by simp at e⟩
  | _, _, .cons (a := p) (b := kv) h t => by
    obtain ⟨prs, us, r, hl, hl2, hp⟩ := pairs2 I t
    obtain ⟨its, rv, ht, _⟩ := I.tuple h
    obtain ⟨u, y, ei, ru, ry⟩ := vals2 rv
    subst ei
    refine ⟨(kv.1, y) :: prs, (u, y) :: us, .cons ⟨rfl, ry⟩ r, by rw [List.length_cons, List.length_cons, hl], by rw [List.length_cons, List.length_cons, hl2], fun j k v e => ?_⟩
    cases j with
    | zero =>
      have e' : (u, y) = (k, v) := Option.some.inj e
      cases e'
      exact ⟨p, kv.1, rfl, ht, rfl, kV_is (P := X.prog) (w := X.w) ru⟩
    | succ j =>
      obtain ⟨b, key, e1, e2, e3, e4⟩ := hp j k v (by simpa using e)
      exact ⟨b, key, by simpa using e1, e2, by simpa using e3, e4⟩
def rDictF (K : PySem.W.Frag) : List V → Hp → VK → Prop := fun xs H Q => ∃ (a : Addr) (o : Obj) (ps : List Addr) (kvs : List (Key × V)), xs = [.ref a] ∧ H a = some (.frz o (.tup (ps.map V.ref))) ∧ o.dict = none ∧ Paired (fun p kv => SqT K H p [kV kv.1, kv.2]) ps kvs ∧
  ∀ p, H p = none → Q (.ref p) (upd H p (.dK (mergeK [] kvs)))
theorem call_dictF (hc : X.calm = true) : CallR X (.type "dict") (rDictF X.K) := by
  intro pins s σ H xs us Q I r q
  obtain ⟨a, o, ps, kvs, rfl, hq, hn, hp, q⟩ := q
  rw [Vals.ref1 r]
  obtain ⟨ho, hz, its, rv, o2, ho2, hc2, n2, hd2⟩ := I.hok a _ hq
  rw [ho] at ho2
  cases ho2
  have ei := refs_at rv
  subst ei
  rw [List.length_map] at hz
  obtain ⟨prs, us, rel, hl, hl2, hpr⟩ := pairs2 I hp
  refine PySem.call_dict_pairs (knd := mixKind X.prog X.w) (kvs := prs) (PySem.PairArg.tuple a ((ps.map Value.ref).toArray) (fun j => ps.getD j 0) us) (I.ok.hd hc) ⟨⟨o, n2, ho, hc2, hn, hd2⟩, ?_, ?_⟩ ⟨by rw [hl, hl2], fun i key v e => ?_⟩ (by rw [hl2]; exact hz) fun h' tk hd' k => ?_
  · rw [List.size_toArray, List.length_map, hl2]
  · intro j k v e
    obtain ⟨b, key, e1, e2, e3, e4⟩ := hpr j k v e
    have eb : ps.getD j 0 = b := by
      rw [List.getD_eq_getElem?_getD, e1]
      rfl
    refine ⟨?_, .inl ?_⟩
    · show _ = some (Value.ref (ps.getD j 0))
      rw [eb, List.getElem?_toArray, List.getElem?_map, e1]
      rfl
    · show s.heap.IsTuple (ps.getD j 0) #[k, v]
      rw [eb]
      exact e2
  · obtain ⟨b, ky, e1, e2, e3, e4⟩ := hpr i key v e
    exact ⟨ky, e3, e4⟩
  · have hm : (s.heap.objs.size == sysModules) = false := beq_eq_false_iff_ne.mpr (Nat.ne_of_gt I.big)
    have hlen : (mergeK [] kvs).length ≤ sizeLine := by
      refine Nat.le_trans (length_mergeK kvs []) ?_
      rw [List.length_nil, Nat.zero_add, rel.length, hl]
      exact hz
    exact ⟨.ref s.heap.objs.size, upd H s.heap.objs.size (.dK (mergeK [] kvs)), I.laid (t' := tk) (fun b o e => k b o (by simp) e) (Nat.le_refl _) (show ObjOk X.prog X.w _ _ _ (.dK (mergeK [] kvs)) from ⟨hlen, hm, merged [] prs, KV.merge rel .nil, hd'⟩), rfl, q _ (I.hok.fresh (Nat.le_refl _))⟩
end
/-- list(e.values()) -/
def tListVals (te : TE) : TE := fun σ H Q => te σ H fun x H1 => ∃ (d : Addr) (kvs : List (Key × V)), x = .ref d ∧ H1 d = some (.dK kvs) ∧ ∀ p, H1 p = none → Q (.ref p) (upd H1 p (.lst (kvs.map (·.2))))
theorem kv_vals : ∀ {kvs : List (Key × V)} {vs : List (Key × Value)}, KV kvs vs → Vals (kvs.map (·.2)) (vs.map (·.2))
  | _, _, .nil => .nil
  | _, _, .cons h t => .cons h.2 (kv_vals t)
section
variable {X : Cx} {e : Expr} {te : TE} {p apos cpos pos : Pos}
theorem pe_listVals (hc : X.calm = true) (he : PE X e te) (hg : Gl X "list") (hm : X.mg "list" = none) (hv : bootBuiltins "list" = some (.type "list")) (hbase : attributeBase e "values" X.env (eval e X.env) = eval e X.env := by rfl) (hline : (apos.endLine == cpos.line) = true := by rfl)
    (hs : starEach [.Call (.Attribute e "values" apos) [] [] cpos] X.env = (false, eval (.Call (.Attribute e "values" apos) [] [] cpos) X.env) :: starEach [] X.env := by rfl) :
    PE X (.Call (.Name "list" p) [.Call (.Attribute e "values" apos) [] [] cpos] [] pos) (tListVals te) := by
  refine ⟨fun pins s σ H Q I hq => ?_⟩
  refine wpAny_Call_Name_kw (ld_blt I hg hm hv ?_)
  refine PyProof.Rows.callWith_type1 ?_ hs rfl
  rw [hs]
  show wpAny _ _ (spliced ((false, eval (.Call (.Attribute e "values" apos) [] [] cpos) X.env) :: backTo pos (starEach [] X.env))) _ _ s
  refine Calls.spliced_cons ?_
  refine wpAny_Call_method (T := "dict") (id := "dict.values") hbase rfl hline F.plainAttrs_dict F.slot_dict_values F.type_dict_values (thn (he.run pins s σ H _ I hq) fun u s1 ⟨x, H1, I1, rx, d, kvs, ex, hd, q⟩ => ?_)
  subst ex
  obtain rfl : u = Value.ref d := rx
  obtain ⟨hz, hs0, vs, kv, hdo⟩ := I1.hok d _ hd
  obtain ⟨ep, hat⟩ := hdo.dictAt
  have lk : kvs.length = vs.length := Paired.length kv
  have I2 : Inv X pins σ H1 { s1 with heap := s1.heap.push { cls := .type "dict_values", data := .fields #[.ref d] } } := I1.kept (t' := s1.toks) fun b ob q => Heap.get?_push_of_some _ q
  refine ⟨hdo.typeIs, hdo.mapOf.noDict, ?_⟩
  show wpAny _ _ (callWith cpos (.builtin "dict.values") [.ref d] [] []) _ X.xe s1
  refine method_meetsIn F.slot_dict_values F.entry_dict_values rfl (PySem.evalArgs_none ⟨rfl, hdo.typeIs, F.args_dict_values_1 _, _, meets_dict_values (mixKind X.prog X.w) d hs0, ⟨vs, hdo⟩, ?_⟩)
  refine Calls.spliced_nil ?_
  refine PySem.W.kdl_call (PySem.W.kdl_values (knd := mixKind X.prog X.w) (kvs := vs) (ep := ep)) (I1.ok.hd hc) ⟨⟨_, Heap.get?_push_size _ rfl, rfl, rfl⟩, hat.push _⟩ (by omega) fun h' tk acc c hk hS hacc => ?_
  have ev : acc.toList = vs.map (·.2) := PySem.W.kdl_vals_eq acc.toList (by rw [Array.length_toList]; exact hacc.1) fun j v hv => hacc.2 j v (by rw [← Array.getElem?_toList]; exact hv)
  have J := I2.laid (a := (s1.heap.push { cls := .type "dict_values", data := .fields #[.ref d] }).objs.size) (o := .lst (kvs.map (·.2))) (t' := tk) hk (Nat.le_refl _) (show ObjOk X.prog X.w _ h' _ (.lst (kvs.map (·.2))) from ⟨by rw [List.length_map]; exact hz, acc.toList, c, by rw [ev]; exact kv_vals kv, hS⟩)
  exact ⟨.ref _, _, J, rfl, q _ (I2.hok.fresh (Nat.le_refl _))⟩
end
end KB
set_option maxRecDepth 100000
set_option maxHeartbeats 8000000
namespace KB
open PySem PySem.Spec PyProof.Rows L2
/-! ### the law's own small checks -/
abbrev s_names : Stmt := top 37
def letters : Str := "abcdefghijklmnopqrstuvwxyz"
theorem az_in (c : Nat) : azB c = decide (c ∈ letters.cps.toList) := by
  by_cases h : c < 128
  · have z : ∀ c : Fin 128, azB c.val = decide (c.val ∈ letters.cps.toList) := by decide +kernel
    exact z ⟨c, h⟩
  · have e1 : azB c = false := by
      unfold azB
      have z : ("z" : Str).cps.toList < [c] := by
        show [122] < [c]
        exact List.Lex.rel (by omega)
      rw [decide_eq_true z, Bool.not_true, Bool.and_false]
    have e2 : ¬ c ∈ letters.cps.toList := fun m => by
      have z : ∀ x ∈ letters.cps.toList, x < 128 := by decide +kernel
      exact h (z c m)
    rw [e1, decide_eq_false e2]
def spIdx : Sp := fun vs H Q _ => ∃ (v : V) (d : PyData) (b : Int), vs = [v, .int b] ∧ Dat H v d ∧ ∀ H', Same H H' → Q (.bl (btw 0 (b - 1) d)) H'
theorem six_in (n : Nat) : inV (.int (n : Nat)) [.int 1, .int 2, .int 3, .int 4, .int 5, .int 6] = (decide (1 ≤ (n : Int)) && decide ((n : Int) ≤ 6)) := by
  by_cases h : n < 7
  · have z : ∀ n : Fin 7, inV (.int (n.val : Nat)) [.int 1, .int 2, .int 3, .int 4, .int 5, .int 6] = (decide (1 ≤ ((n.val : Nat) : Int)) && decide (((n.val : Nat) : Int) ≤ 6)) := by decide +kernel
    exact z ⟨n, h⟩
  · rw [decide_eq_false (show ¬ (n : Int) ≤ 6 by omega), Bool.and_false]
    unfold inV
    rw [List.any_eq_false]
    intro x hx
    simp only [List.mem_cons, List.not_mem_nil, or_false] at hx
    rcases hx with rfl | rfl | rfl | rfl | rfl | rfl <;> simp [eqV] <;> omega
section
variable {P : Program} {w : World} {K : PySem.W.Frag} {mg : Str → Option Value} {base : Heap}
end
end KB
set_option maxRecDepth 100000
set_option maxHeartbeats 8000000
namespace KB
open PySem PySem.Spec PyProof.Rows L2
/-! ### the law's names of an order -/
theorem none_back {H H' : Hp} (S : Same H H') {p : Addr} (h : H' p = none) : H p = none := by
  cases e : H p with
  | none => rfl
  | some o =>
    rw [S _ _ e] at h
    cases h
def iOr (t u : TI) : TI := fun σ H R => t σ H R ∨ u σ H R
theorem pi_or {X : Cx} {tg e : Expr} {t u : TI} (h : PI X tg e t) (h' : PI X tg e u) : PI X tg e (iOr t u) := ⟨fun pins s σ H R I z => z.elim (h.run pins s σ H R I) (h'.run pins s σ H R I)⟩
theorem order_word {n : Nat} {d0 d1 : PyData} (h : orderB (n + 1) (.tuple [d0, d1]) = true) : ∃ z : Str, d0 = .str z := by
  rw [orderB, Bool.and_eq_true] at h
  have h2 : (if eqStr "item" d0 = true then nameB d1 else ((eqStr "series" d0 || eqStr "parallel" d0) && (tupOf 2 6 d1 && (tupItems d1).all (orderB n)))) = true := h.2
  cases d0 with
  | str z => exact ⟨z, rfl⟩
  | _ => cases h2
section
variable {P : Program} {w : World} {K : PySem.W.Frag} {mg : Str → Option Value} {base : Heap}
theorem sc_lnames : FnScope ["_law_order_here", "_law_found", "_law_part"] ["_law_order_here"] (defScope s_names) := ⟨rfl, rfl, rfl, by decide +kernel, rfl, by decide +kernel, by decide +kernel⟩
theorem lnames_body {f : Addr} {fd : FuncData} {k : Nat} {sp : Sp} (F : Fun K "_law_names" "_law_names" s_names f fd) (b : L2.Binds K fd ["_law_order_here"] []) (g : mg "_law_names" = some (.ref f)) (G : FnOk P w K mg base CX0 k f fd ["_law_order_here"] sp) (n : Nat)
    (hn : ∀ m, n = m + 1 → n ≤ 6 → ∀ (x : V) (d : PyData) (H : Hp) (R : VK), Dat H x d → orderB m d = true → (∀ p H', Same H H' → H p = none → H' p = some (.lst ((namesN m d).map V.str)) → R (.ref p) H') → sp [x] H R E0) : FnOk P w K mg base CX0 (k + 1) f fd ["_law_order_here"] (spNames n) := by
  refine F.ok sc_lnames (fun vs H Q E h => ?_) (fun cdv A outer s H vs Q E hr h => ?_)
  · obtain ⟨v, d, rfl, _⟩ := h
    rfl
  · obtain ⟨v, d, rfl, h6, hd, ho, q⟩ := h
    refine ⟨_, (pss_cons (ps_set (i := 1) sc_lnames.nd rfl (Or.inl rfl) (pe_ifExp (pt_cmpR op_eq (pe_ix ix_tup (pv 0) pe_int (fun _ _ => rfl)) pe_str (nomark _)) (pe_lst (pa_cons (pe_ix ix_tup (pv 0) pe_int (fun _ _ => rfl)) pa_nil)) (pe_lst pa_nil)))
      (pss_cons (ps_for PassesOwn.never rfl (pi_or (pi_list (pe_ifExp (pt_cmpR op_ne (pe_ix ix_tup (pv 0) pe_int (fun _ _ => rfl)) pe_str (nomark _)) (pe_ix ix_tup (pv 0) pe_int (fun _ _ => rfl)) (pe_lst pa_nil))) (pi_tup (pe_ifExp (pt_cmpR op_ne (pe_ix ix_tup (pv 0) pe_int (fun _ _ => rfl)) pe_str (nomark _)) (pe_ix ix_tup (pv 0) pe_int (fun _ _ => rfl)) (pe_lst pa_nil)))) (pg_name (i := 2) sc_lnames.nd rfl (Or.inl rfl))
        (pss_one (ps_set (i := 1) sc_lnames.nd rfl (Or.inl rfl) (pe_op op_cat (pv 1) (pe_call G hr rfl g F.kp b .nil pass0 (pa_cons (pv 2) pa_nil))))))
      (pss_one (ps_ret (pv 1))))), ?_⟩
    cases n with
    | zero => exact Bool.noConfusion ((show false = true from ho) : false = true)
    | succ m =>
      have hlen := names_len _ _ ho
      have h66 : 6 ^ (m + 1) ≤ 46656 := Nat.pow_le_pow_right (by decide) h6
      obtain ⟨d0, d1, rfl, hh⟩ := order_cases ho
      obtain ⟨z, rfl⟩ := order_word ho
      have eN : namesN (m + 1) (.tuple [.str z, d1]) = if eqStr "item" (.str z) = true then [strOf d1] else (tupItems d1).flatMap (namesN m) := by rw [namesN]; rfl
      rw [eN] at q hlen
      have ez : eqStr "item" (.str z) = decide (V.str z = V.str "item") := by
        show (z == "item") = _
        rw [dec_str]
        by_cases h : z = "item"
        · rw [decide_eq_true h, beq_iff_eq.mpr h]
        · rw [decide_eq_false h, beq_eq_false_iff_ne.mpr h]
      rw [ez] at q hlen hh
      obtain ⟨a, xs, rfl, ha, hx⟩ := dat_tup hd
      obtain ⟨x0, x1, rfl, c0, c1⟩ := dat_two hx
      cases c0
      have st : ∀ {H' : Hp} {R : VK}, Same H H' → ∀ {j : Nat} {x : V}, [V.str z, x1][j]? = some x → R x H' → tOp (rIxT K) (tVar 0) (tC (.int (j : Nat))) [some (V.ref a), none, none] H' R := fun {H' R} S j x hj hR => ⟨_, rfl, a, _, _, x, rfl, rfl, sqT_rd (upR ha S), atI_nat hj, hR⟩
      refine ⟨_, rfl, a, _, _, _, rfl, rfl, sqT_rd ha, atI_nat (j := 0) rfl, rfl, _, rfl, ?_⟩
      rcases hh with ⟨h0, hn1⟩ | ⟨h0, es, rfl, l2, l6, hes⟩
      · have q1 : ∀ p H', Same H H' → H p = none → H' p = some (.lst ([strOf d1].map V.str)) → Q (.ref p) H' := by
          rw [h0] at q
          exact q
        refine if_t h0 ⟨_, rfl, a, _, _, _, rfl, rfl, sqT_rd ha, atI_nat (j := 1) rfl, (by show 1 ≤ sizeLine; decide), fun L nL => ?_⟩
        have S1 := same_new (o := HO.lst [x1]) nL
        refine Or.inl ⟨_, rfl, a, _, _, _, rfl, rfl, sqT_rd (upR ha S1), atI_nat (j := 0) rfl, rfl, _, rfl, ?_⟩
        refine if_f (by rw [h0]; rfl) ⟨(by show 0 ≤ sizeLine; decide), fun e ne => ⟨e, rfl, ⟨_, SqL.of upd_same⟩, ?_⟩⟩
        refine for_list (K := K) (xs := []) (fun _ σ Hx => σ[1]? = some (some (.ref L)) ∧ Same H Hx ∧ Hx L = some (.lst [x1]) ∧ Hx e = some (.lst [])) ⟨rfl, S1.trans (same_new ne), same_new (o := HO.lst []) ne _ _ upd_same, upd_same⟩ (fun _ _ _ _ h => SqL.of h.2.2.2) (fun i x _ _ h => by simp at h) ?_
        rintro σ Hx ⟨e1, S, e2, _⟩
        refine ⟨_, e1, q1 L Hx S nL ?_⟩
        rw [e2, dat_name c1 hn1]
        rfl
      · obtain ⟨a2, ys, rfl, ha2, hx2⟩ := dat_tup c1
        have q1 : ∀ p H', Same H H' → H p = none → H' p = some (.lst ((es.flatMap (namesN m)).map V.str)) → Q (.ref p) H' := by
          rw [h0] at q
          exact q
        have hlen1 : (es.flatMap (namesN m)).length ≤ 6 ^ (m + 1) := by
          rw [h0] at hlen
          exact hlen
        have hl2 := hx2.len
        refine if_f h0 ⟨(by show 0 ≤ sizeLine; decide), fun L nL => ?_⟩
        have S1 := same_new (o := HO.lst []) nL
        refine Or.inr ⟨_, rfl, a, _, _, _, rfl, rfl, sqT_rd (upR ha S1), atI_nat (j := 0) rfl, rfl, _, rfl, ?_⟩
        refine if_t (by rw [h0]; rfl) ⟨_, rfl, a, _, _, _, rfl, rfl, sqT_rd (upR ha S1), atI_nat (j := 1) rfl, a2, rfl, ⟨_, sqT_rd (upR ha2 S1)⟩, ?_⟩
        refine for_tup (K := K) (xs := ys) (fun i σ Hx => ∃ (L : Addr) (w2 : Option V), σ = [some (.ref a), some (.ref L), w2] ∧ Same H Hx ∧ H L = none ∧ Hx L = some (.lst (((es.take i).flatMap (namesN m)).map V.str))) ⟨L, none, rfl, S1, nL, by rw [upd_same]; rfl⟩ (fun i σ Hx _ ⟨_, _, _, S, _⟩ => sqT_rd (upR ha2 S)) ?_ ?_
        · rintro i x σ Hx hxi ⟨L, w2, rfl, S, nL, hL⟩
          obtain ⟨e, hei, te⟩ := hx2.get hxi
          refine ⟨_, rfl, _, rfl, hn m rfl h6 x e Hx _ (te.same S) (hes e (List.mem_of_getElem? hei)) fun p H1 S2 np hp => ?_⟩
          have tot := flat_take (f := namesN m) es (i + 1)
          rw [flat_pre hei, List.length_append] at tot
          refine ⟨L, p, _, _, rfl, rfl, S2 _ _ hL, hp, by rw [List.length_map, List.length_map, sizeLine_eq]; omega, fun q2 nq => ⟨q2, _, rfl, (S.trans S2).trans (same_new nq), none_back (S.trans S2) nq, ?_⟩⟩
          rw [upd_same, ← List.map_append, flat_pre hei]
        · rintro σ Hx ⟨L, w2, rfl, S, nL, hL⟩
          refine ⟨_, rfl, q1 L Hx S nL ?_⟩
          rw [hL, hl2, List.take_length]
theorem okl_names {f : Addr} {fd : FuncData} (F : Fun K "_law_names" "_law_names" s_names f fd) (b : L2.Binds K fd ["_law_order_here"] []) (g : mg "_law_names" = some (.ref f)) : ∀ n : Nat, FnOk P w K mg base CX0 (1 + n) f fd ["_law_order_here"] (spNames n)
  | 0 => by
    have z := lnames_body (P := P) (w := w) (base := base) (k := 0) (sp := fun _ _ _ _ => False) F b g fn_none 0 fun m e => by cases e
    exact z
  | n + 1 => by
    have G := okl_names F b g n
    have z := lnames_body F b g G (n + 1) fun m e l6 x d H R hd ho hR => by
      obtain rfl : n = m := Nat.succ.inj e
      exact ⟨x, d, rfl, by omega, hd, ho, hR⟩
    rw [show 1 + (n + 1) = 1 + n + 1 by omega]
    exact z
end
end KB
set_option maxRecDepth 100000
set_option maxHeartbeats 8000000
namespace KB
open PySem PySem.Spec PyProof.Rows L2
/-! ### the counts of all words and decorated parts of a space are tuples whose object is known -/
def FzF (H : Hp) (v : V) (l : L9) : Prop := (∃ cs, l = .word cs) → ∃ (a : Addr) (z : V) (v1 : V), v = .ref a ∧ TP H a [z, v1] ∧ Fz H v1
mutual
def FzS (H : Hp) (v : V) : S9 → Prop
  | .leaf l => FzF H v l
  | .row _ xs => ∃ (a b : Addr) (z : V) (ys : List V), v = .ref a ∧ TP H a [z, .ref b] ∧ TP H b ys ∧ FzL H ys xs
  | .pow _ x => ∃ (a : Addr) (z i y : V), v = .ref a ∧ TP H a [z, i, y] ∧ FzS H y x
  | .dec _ xs => ∃ (a b : Addr) (z v1 : V) (ys : List V), v = .ref a ∧ TP H a [z, v1, .ref b] ∧ Fz H v1 ∧ TP H b ys ∧ FzL H ys xs
def FzL (H : Hp) : List V → List S9 → Prop
  | ys, [] => ys = []
  | ys, x :: xs => ∃ (y : V) (r : List V), ys = y :: r ∧ FzS H y x ∧ FzL H r xs
end
mutual
theorem FzS.same {H H' : Hp} (S : Same H H') : ∀ {s : S9} {v : V}, FzS H v s → FzS H' v s
  | .leaf l, v, h => by
    rw [FzS] at h ⊢
    intro hw
    obtain ⟨a, z, v1, e, h1, h2⟩ := h hw
    exact ⟨a, z, v1, e, upR h1 S, h2.same S⟩
  | .row c xs, v, h => by
    rw [FzS] at h ⊢
    obtain ⟨a, b, z, ys, e, h1, h2, h3⟩ := h
    exact ⟨a, b, z, ys, e, upR h1 S, upR h2 S, FzL.same S h3⟩
  | .pow n x, v, h => by
    rw [FzS] at h ⊢
    obtain ⟨a, z, i, y, e, h1, h2⟩ := h
    exact ⟨a, z, i, y, e, upR h1 S, FzS.same S h2⟩
  | .dec cs xs, v, h => by
    rw [FzS] at h ⊢
    obtain ⟨a, b, z, v1, ys, e, h1, h2, h3, h4⟩ := h
    exact ⟨a, b, z, v1, ys, e, upR h1 S, h2.same S, upR h3 S, FzL.same S h4⟩
theorem FzL.same {H H' : Hp} (S : Same H H') : ∀ {xs : List S9} {ys : List V}, FzL H ys xs → FzL H' ys xs
  | [], ys, h => by
    rw [FzL] at h ⊢
    exact h
  | x :: xs, ys, h => by
    rw [FzL] at h ⊢
    obtain ⟨y, r, e, h1, h2⟩ := h
    exact ⟨y, r, e, FzS.same S h1, FzL.same S h2⟩
end
theorem FzL.at {H : Hp} : ∀ {xs : List S9} {ys : List V} {j : Nat} {x : S9}, FzL H ys xs → xs[j]? = some x → ∃ y, ys[j]? = some y ∧ FzS H y x
  | [], _, _, _, _, e => by simp at e
  | x0 :: xs, ys, 0, x, h, e => by
    rw [FzL] at h
    obtain ⟨y, r, rfl, h1, h2⟩ := h
    simp at e
    subst e
    exact ⟨y, rfl, h1⟩
  | x0 :: xs, ys, j + 1, x, h, e => by
    rw [FzL] at h
    obtain ⟨y, r, rfl, h1, h2⟩ := h
    obtain ⟨y', e1, e2⟩ := FzL.at (j := j) (x := x) h2 (by simpa using e)
    exact ⟨y', by simpa using e1, e2⟩
theorem TP.noR {H : Hp} {L a : Addr} {xs ys : List V} (hL : H L = some (.lst ys)) (h : TP H a xs) : TP (noR L H) a xs := by
  have ne : a ≠ L := fun e => h.noL (e ▸ hL)
  intro C g
  exact h C fun o e n => g o (noR_at e ne) n
theorem Fz.noR {H : Hp} {L : Addr} {v : V} {ys : List V} (hL : H L = some (.lst ys)) (h : Fz H v) : Fz (noR L H) v := by
  obtain ⟨a, o, xs, e, h1, n⟩ := h
  have ne : a ≠ L := fun e' => by
    rw [e', hL] at h1
    cases h1
  exact ⟨a, o, xs, e, noR_at h1 ne, n⟩
mutual
theorem FzS.noR {H : Hp} {L : Addr} {l0 : List V} (hL : H L = some (.lst l0)) : ∀ {s : S9} {v : V}, FzS H v s → FzS (noR L H) v s
  | .leaf l, v, h => by
    rw [FzS] at h ⊢
    intro hw
    obtain ⟨a, z, v1, e, h1, h2⟩ := h hw
    exact ⟨a, z, v1, e, h1.noR hL, h2.noR hL⟩
  | .row c xs, v, h => by
    rw [FzS] at h ⊢
    obtain ⟨a, b, z, ys, e, h1, h2, h3⟩ := h
    exact ⟨a, b, z, ys, e, h1.noR hL, h2.noR hL, FzL.noR hL h3⟩
  | .pow n x, v, h => by
    rw [FzS] at h ⊢
    obtain ⟨a, z, i, y, e, h1, h2⟩ := h
    exact ⟨a, z, i, y, e, h1.noR hL, FzS.noR hL h2⟩
  | .dec cs xs, v, h => by
    rw [FzS] at h ⊢
    obtain ⟨a, b, z, v1, ys, e, h1, h2, h3, h4⟩ := h
    exact ⟨a, b, z, v1, ys, e, h1.noR hL, h2.noR hL, h3.noR hL, FzL.noR hL h4⟩
theorem FzL.noR {H : Hp} {L : Addr} {l0 : List V} (hL : H L = some (.lst l0)) : ∀ {xs : List S9} {ys : List V}, FzL H ys xs → FzL (noR L H) ys xs
  | [], ys, h => by
    rw [FzL] at h ⊢
    exact h
  | x :: xs, ys, h => by
    rw [FzL] at h ⊢
    obtain ⟨y, r, e, h1, h2⟩ := h
    exact ⟨y, r, e, FzS.noR hL h1, FzL.noR hL h2⟩
end
/-- the items of the list L are pairs with such inner values -/
def PrV (H : Hp) (xs : List V) (es : List S9) : Prop := xs.length = es.length ∧ ∀ (j : Nat) (e : S9), es[j]? = some e → ∃ (t : Addr) (w y : V), xs[j]? = some (.ref t) ∧ TP H t [w, y] ∧ FzS H y e
theorem PrV.same {H H' : Hp} {xs : List V} {es : List S9} (h : PrV H xs es) (S : Same H H') : PrV H' xs es := ⟨h.1, fun j e he => by
  obtain ⟨t, w, y, e1, e2, e3⟩ := h.2 j e he
  exact ⟨t, w, y, e1, upR e2 S, e3.same S⟩⟩
theorem PrV.noR {H : Hp} {L : Addr} {xs l0 : List V} {es : List S9} (hL : H L = some (.lst l0)) (h : PrV H xs es) : PrV (noR L H) xs es := ⟨h.1, fun j e he => by
  obtain ⟨t, w, y, e1, e2, e3⟩ := h.2 j e he
  exact ⟨t, w, y, e1, e2.noR hL, e3.noR hL⟩⟩
theorem PrV.app {H : Hp} {xs ys : List V} {es fs : List S9} (h : PrV H xs es) (h' : PrV H ys fs) : PrV H (xs ++ ys) (es ++ fs) := by
  refine ⟨by rw [List.length_append, List.length_append, h.1, h'.1], fun j e he => ?_⟩
  by_cases hj : j < es.length
  · rw [List.getElem?_append_left hj] at he
    obtain ⟨t, w, y, e1, e2, e3⟩ := h.2 j e he
    exact ⟨t, w, y, by rw [List.getElem?_append_left (by rw [h.1]; exact hj)]; exact e1, e2, e3⟩
  · rw [List.getElem?_append_right (by omega)] at he
    obtain ⟨t, w, y, e1, e2, e3⟩ := h'.2 _ e he
    exact ⟨t, w, y, by rw [List.getElem?_append_right (by rw [h.1]; omega), h.1]; exact e1, e2, e3⟩
theorem PrV.one {H : Hp} {t : Addr} {w y : V} {e : S9} (h : TP H t [w, y]) (f : FzS H y e) : PrV H [.ref t] [e] := ⟨rfl, fun j e' he => by
  cases j with
  | zero =>
    cases he
    exact ⟨t, w, y, rfl, h, f⟩
  | succ j => simp at he⟩
/-- a growing list of them -/
def PrL (Hx : Hp) (L : Addr) (es : List S9) : Prop := ∃ xs, Hx L = some (.lst xs) ∧ PrV Hx xs es
theorem PrL.start {H : Hp} {L : Addr} : PrL (upd H L (.lst [])) L [] := ⟨[], upd_same, rfl, fun j e h => by simp at h⟩
theorem PrL.same {H H' : Hp} {L : Addr} {es : List S9} (h : PrL H L es) (S : Same H H') : PrL H' L es := by
  obtain ⟨xs, e, p⟩ := h
  exact ⟨xs, S _ _ e, p.same S⟩
theorem PrL.add {Hy : Hp} {L : Addr} {xs zs : List V} {es fs : List S9} (h : PrL Hy L es) (hL : Hy L = some (.lst xs)) (hz : PrV Hy zs fs) : PrL (upd Hy L (.lst (xs ++ zs))) L (es ++ fs) := by
  obtain ⟨xs', e, p⟩ := h
  rw [hL] at e
  cases e
  exact ⟨_, upd_same, ((p.app hz).noR hL).same noR_to⟩
end KB
set_option maxRecDepth 100000
set_option maxHeartbeats 8000000
namespace KB
open PySem PySem.Spec PyProof.Rows L2
theorem same_noR {L : Addr} {H H' : Hp} (S : Same H H') : Same (noR L H) (noR L H') := fun b o e => by
  unfold noR at e ⊢
  by_cases h : b = L
  · rw [if_pos h] at e
    cases e
  · rw [if_neg h] at e ⊢
    exact S b o e
theorem noLs_iff : ∀ {l : List PyData}, noLs l = true ↔ ∀ d ∈ l, noL d = true
  | [] => by simp [noLs]
  | a :: l => by simp [noLs, noLs_iff (l := l)]
def Gr (H : Hp) (L : Addr) (ds : List PyData) (Hx : Hp) : Prop := H L = none ∧ Same H Hx ∧ ∃ xs, Hx L = some (.lst xs) ∧ DatAll (noR L Hx) xs ds
theorem Gr.start {H : Hp} {L : Addr} (n : H L = none) : Gr H L [] (upd H L (.lst [])) := ⟨n, same_new n, [], upd_same, .nil⟩
theorem Gr.same {H Hx Hy : Hp} {L : Addr} {ds : List PyData} (g : Gr H L ds Hx) (S : Same Hx Hy) : Gr H L ds Hy := by
  obtain ⟨n, S0, xs, h, d⟩ := g
  exact ⟨n, S0.trans S, xs, S _ _ h, d.same (same_noR S)⟩
theorem Gr.add {H Hx Hy : Hp} {L : Addr} {ds es : List PyData} {zs : List V} (g : Gr H L ds Hx) (S : Same Hx Hy) (hz : DatAll Hy zs es) (no : noLs es = true) : ∃ xs, Hy L = some (.lst xs) ∧ xs.length = ds.length ∧ zs.length = es.length ∧ Gr H L (ds ++ es) (upd Hy L (.lst (xs ++ zs))) := by
  obtain ⟨n, S0, xs, h, d⟩ := g.same S
  refine ⟨xs, h, d.len, hz.len, n, fun b u e => ?_, xs ++ zs, upd_same, ?_⟩
  · rw [upd_ne (ne_of_none e n)]
    exact S0 b u e
  · rw [noR_upd]
    exact datAll_append d (dat_noLs h no hz)
theorem Gr.fin {H Hx : Hp} {L : Addr} {ds : List PyData} (g : Gr H L ds Hx) : ∃ xs, Hx L = some (.lst xs) ∧ xs.length = ds.length ∧ DatAll Hx xs ds := by
  obtain ⟨n, S0, xs, h, d⟩ := g
  exact ⟨xs, h, d.len, d.same noR_sub⟩
theorem mono_tup2 {K : PySem.W.Frag} {i j : Nat} {vs : List Nat} {σ : L2.St} : ∀ (x : V) (Hx : Hp) (A B : L2.St → Hp → Prop), (∀ σ2 H2, A σ2 H2 → B σ2 H2) → gTup K 2 (gCons (gName i) (gCons (gName j) gNil)) x (wipe σ vs) Hx A → gTup K 2 (gCons (gName i) (gCons (gName j) gNil)) x (wipe σ vs) Hx B :=
  fun x Hx A B h ⟨a, xs, e, hs, hl, v, r, e1, v2, r2, e2, e3, q⟩ => ⟨a, xs, e, hs, hl, v, r, e1, v2, r2, e2, e3, h _ _ q⟩
/-- small enough: few rows, few copies, few occurrences; nothing holds a list -/
def cntsZ (cs : Cn) : Bool := decide (cs.length ≤ 3) && cs.all fun q => decide (q.2 ≤ 2) && nameS q.1
mutual
def tinyS : S9 → Bool
  | .leaf l => noL (ldt l)
  | .row _ xs => decide (xs.length ≤ 3) && tinySs xs
  | .pow n x => decide (n ≤ 3) && tinyS x
  | .dec cs xs => cntsZ cs && tinySs xs
def tinySs : List S9 → Bool
  | [] => true
  | x :: xs => tinyS x && tinySs xs
end
theorem cnts_noL (cs : Cn) : noL (cntsD cs) = true := by
  unfold cntsD
  show noLs _ = true
  refine noLs_iff.mpr fun d hd => ?_
  obtain ⟨c, _, rfl⟩ := List.mem_map.mp hd
  rfl
mutual
theorem dt_noL : ∀ s : S9, tinyS s = true → noL (dt s) = true
  | .leaf l, h => by
    rw [dt]
    rw [tinyS] at h
    exact h
  | .row c xs, h => by
    rw [tinyS, Bool.and_eq_true] at h
    rw [dt]
    simp [noL, noLs, dts_noL xs h.2]
  | .pow n x, h => by
    rw [tinyS, Bool.and_eq_true] at h
    rw [dt]
    simp [noL, noLs, dt_noL x h.2]
  | .dec c xs, h => by
    rw [tinyS, Bool.and_eq_true] at h
    rw [dt]
    simp [noL, noLs, dts_noL xs h.2, cnts_noL c]
theorem dts_noL : ∀ xs : List S9, tinySs xs = true → noLs (dts xs) = true
  | [], _ => by rw [dts]; rfl
  | x :: xs, h => by
    rw [tinySs, Bool.and_eq_true] at h
    rw [dts]
    simp [noLs, dt_noL x h.1, dts_noL xs h.2]
end
theorem tiny_mem : ∀ {xs : List S9} {x : S9}, tinySs xs = true → x ∈ xs → tinyS x = true
  | y :: xs, x, hb, h => by
    rw [tinySs, Bool.and_eq_true] at hb
    rcases List.mem_cons.mp h with rfl | h
    · exact hb.1
    · exact tiny_mem hb.2 h
theorem cnts_le {c : Cn} (h : cntsZ c = true) : c.length ≤ 3 ∧ ∀ q ∈ c, q.2 ≤ 2 ∧ q.1.length ≤ 1000 := by
  unfold cntsZ at h
  rw [Bool.and_eq_true, List.all_eq_true] at h
  refine ⟨of_decide_eq_true h.1, fun q hq => ?_⟩
  have z := h.2 q hq
  rw [Bool.and_eq_true] at z
  have z2 := z.2
  unfold nameS at z2
  rw [Bool.and_eq_true, Bool.and_eq_true] at z2
  have := of_decide_eq_true z2.1.2
  exact ⟨of_decide_eq_true z.1, by omega⟩
/-! ### what stands directly inside a part, with its steps -/
def prD (p : PyData × S9) : PyData := .tuple [p.1, dt p.2]
def nestD (s : S9) : List PyData := (nestS s).map prD
def decW (p : (Str × Nat) × S9) : List PyData := (decS p).map prD
def spNested : Sp := fun vs H Q _ => ∃ (v : V) (s : S9), vs = [v] ∧ Dat H v (dt s) ∧ okS s = true ∧ tinyS s = true ∧ FzS H v s ∧
  ∀ (a : Addr) (xs : List V) (H' : Hp), H a = none → Same H H' → H' a = some (.lst xs) → DatAll H' xs (nestD s) → PrV H' xs ((nestS s).map (·.2)) → Q (.ref a) H'
theorem datAll_at {H : Hp} : ∀ {vs : List V} {ds : List PyData}, vs.length = ds.length → (∀ (j : Nat) (d : PyData), ds[j]? = some d → ∃ v, vs[j]? = some v ∧ Dat H v d) → DatAll H vs ds
  | [], [], _, _ => .nil
  | [], _ :: _, h, _ => by cases h
  | _ :: _, [], h, _ => by cases h
  | v :: vs, d :: ds, h, k => by
    obtain ⟨u, e, t⟩ := k 0 d rfl
    cases e
    exact .cons t (datAll_at (Nat.succ.inj h) fun j d' e' => k (j + 1) d' e')
theorem enum_at : ∀ (xs : List S9) (k j : Nat), (enumS k xs)[j]? = (xs[j]?).map fun e => (.int ((k + j : Nat) : Int), e)
  | [], _, _ => by simp [enumS]
  | x :: xs, k, 0 => by simp [enumS]
  | x :: xs, k, j + 1 => by
    rw [enumS]
    show (enumS (k + 1) xs)[j]? = _
    rw [enum_at xs (k + 1) j, show k + 1 + j = k + (j + 1) by omega]
    rfl
theorem enum_len : ∀ (xs : List S9) (k : Nat), (enumS k xs).length = xs.length
  | [], _ => rfl
  | x :: xs, k => by rw [enumS, List.length_cons, List.length_cons, enum_len xs]
theorem pow_noL (n : Nat) (x : S9) (hx : tinyS x = true) : noLs ((List.range n).map fun k => prD (.int (k : Nat), x)) = true := noLs_iff.mpr fun d hd => by
  obtain ⟨k, _, rfl⟩ := List.mem_map.mp hd
  show noL (.tuple [.int (k : Nat), dt x]) = true
  simp [noL, noLs, dt_noL x hx]
theorem decW_eq (p : (Str × Nat) × S9) : decW p = (List.range p.1.2).map fun j => prD (.tuple [.str p.1.1, .int (j : Nat)], p.2) := by
  unfold decW decS
  rw [List.map_map]
  rfl
theorem decW_noL (p : (Str × Nat) × S9) (hp : tinyS p.2 = true) : noLs (decW p) = true := noLs_iff.mpr fun d hd => by
  rw [decW_eq] at hd
  obtain ⟨k, _, rfl⟩ := List.mem_map.mp hd
  show noL (.tuple [.tuple [.str p.1.1, .int (k : Nat)], dt p.2]) = true
  simp [noL, noLs, dt_noL p.2 hp]
theorem decs_len : ∀ l : List ((Str × Nat) × S9), (∀ p ∈ l, p.1.2 ≤ 2) → (l.flatMap decW).length ≤ 2 * l.length
  | [], _ => Nat.le_refl _
  | p :: l, h => by
    rw [List.flatMap_cons, List.length_append, List.length_cons, decW_eq, List.length_map, List.length_range]
    have h1 := decs_len l fun q hq => h q (List.mem_cons_of_mem _ hq)
    have h2 := h p List.mem_cons_self
    omega
section
variable {P : Program} {w : World} {K : PySem.W.Frag} {mg : Str → Option Value} {base : Heap}
end
end KB
set_option maxRecDepth 100000
set_option maxHeartbeats 4000000
namespace KB
open PySem PySem.Spec PyProof.Rows L2
/-! ### the text of a step tells the step -/
def cl (x : Str) : List Nat := x.cps.toList
theorem cl_app (a b : Str) : cl (a ++ b) = cl a ++ cl b := by
  unfold cl
  rw [Str.cps_append, Array.toList_append]
theorem cl_inj {a b : Str} (h : cl a = cl b) : a = b := by
  cases a
  cases b
  congr 1
  exact Array.toList_inj.mp h
theorem cl_foldl (q : Nat) : ∀ (l : List Nat) (acc : Array Nat), (l.foldl (fun out c => out ++ (Builtin.Str.reprChar q c).toArray) acc).toList = acc.toList ++ l.flatMap (Builtin.Str.reprChar q)
  | [], acc => by simp
  | c :: l, acc => by
    rw [List.foldl_cons, cl_foldl q l, Array.toList_append, List.flatMap_cons, List.append_assoc]
theorem cl_repr (x : Str) : cl (PySem.reprText x) = PySem.reprQuote x :: ((cl x).flatMap (Builtin.Str.reprChar (PySem.reprQuote x)) ++ [PySem.reprQuote x]) := by
  unfold cl PySem.reprText
  rw [Array.toList_push, ← Array.foldl_toList, cl_foldl]
  rfl
theorem quote_or (x : Str) : PySem.reprQuote x = 34 ∨ PySem.reprQuote x = 39 := by
  unfold PySem.reprQuote
  split
  · exact .inl rfl
  · exact .inr rfl
theorem char_cases (c : Nat) : (Builtin.Str.reprChar 39 c = [c] ∧ c ≠ 39) ∨ ∃ t, Builtin.Str.reprChar 39 c = 92 :: t := by
  unfold Builtin.Str.reprChar
  by_cases h : (c == 39 || c == 92) = true
  · exact .inr ⟨_, by rw [if_pos h]⟩
  · rw [if_neg h]
    have hc : c ≠ 39 := fun e => h (by rw [e]; rfl)
    split
    · exact .inr ⟨_, rfl⟩
    split
    · exact .inr ⟨_, rfl⟩
    split
    · exact .inr ⟨_, rfl⟩
    split
    · exact .inl ⟨rfl, hc⟩
    split
    · exact .inr ⟨_, rfl⟩
    split
    · exact .inr ⟨_, rfl⟩
    · exact .inr ⟨_, rfl⟩
theorem letter_le {a : Nat} (h : azB a = true) : 97 ≤ a ∧ a ≤ 122 := by
  rw [az_in] at h
  have z : ∀ x ∈ letters.cps.toList, 97 ≤ x ∧ x ≤ 122 := by decide +kernel
  exact z a (of_decide_eq_true h)
theorem letter_char {a : Nat} (h : azB a = true) : Builtin.Str.reprChar 39 a = [a] := by
  rw [az_in] at h
  have z : ∀ x ∈ letters.cps.toList, Builtin.Str.reprChar 39 x = [x] := by decide +kernel
  exact z a (of_decide_eq_true h)
theorem plain_repr {z : Str} (h : (cl z).all azB = true) : cl (PySem.reprText z) = 39 :: (cl z ++ [39]) := by
  have hq : PySem.reprQuote z = 39 := by
    unfold PySem.reprQuote
    rw [if_neg]
    intro e
    rw [Bool.and_eq_true, Array.contains_iff_mem] at e
    have m : 39 ∈ cl z := by
      unfold cl
      exact Array.mem_toList_iff.mpr e.1
    have := letter_le (List.all_eq_true.mp h 39 m)
    omega
  rw [cl_repr, hq]
  have e : ∀ l : List Nat, l.all azB = true → l.flatMap (Builtin.Str.reprChar 39) = l := by
    intro l
    induction l with
    | nil => intro _; rfl
    | cons a l ih =>
      intro hl
      rw [List.all_cons, Bool.and_eq_true] at hl
      rw [List.flatMap_cons, letter_char hl.1, ih hl.2]
      rfl
  rw [e _ h]
/-- the letters up to the closing quote -/
theorem letters_cut : ∀ (z y r r' : List Nat), z.all azB = true → y.flatMap (Builtin.Str.reprChar 39) ++ 39 :: r = z ++ 39 :: r' → y = z ∧ r = r'
  | [], [], r, r', _, h => by
    injection h with _ h
    exact ⟨rfl, h⟩
  | [], c :: y, r, r', _, h => by
    exfalso
    rw [List.flatMap_cons] at h
    rcases char_cases c with ⟨e, n⟩ | ⟨t, e⟩
    · rw [e] at h
      injection h with h _
      exact n h
    · rw [e] at h
      injection h with h _
      exact absurd h (by decide)
  | a :: z, [], r, r', hz, h => by
    exfalso
    rw [List.all_cons, Bool.and_eq_true] at hz
    have := letter_le hz.1
    injection h with h _
    omega
  | a :: z, c :: y, r, r', hz, h => by
    rw [List.all_cons, Bool.and_eq_true] at hz
    have hl := letter_le hz.1
    rw [List.flatMap_cons] at h
    rcases char_cases c with ⟨e, n⟩ | ⟨t, e⟩
    · rw [e] at h
      have h' : c :: (y.flatMap (Builtin.Str.reprChar 39) ++ 39 :: r) = a :: (z ++ 39 :: r') := h
      injection h' with h1 h2
      obtain ⟨e1, e2⟩ := letters_cut z y r r' hz.2 h2
      exact ⟨by rw [h1, e1], e2⟩
    · rw [e] at h
      injection h with h _
      omega
/-! numbers -/
def dig (c : Nat) : Bool := decide (48 ≤ c) && decide (c ≤ 57)
theorem num_cl (m : Nat) : cl (toString ((m : Nat) : Int)) = (Nat.toDigits 10 m).map Char.toNat := PySem.W.KIN.signs_num m
theorem num_dig (m : Nat) : ∀ c ∈ (Nat.toDigits 10 m).map Char.toNat, dig c = true := by
  intro c hc
  obtain ⟨ch, hch, e⟩ := List.mem_map.mp hc
  have r := PyProof.Rows.digit_range (Nat.isDigit_of_mem_toDigits (by decide) (by decide) hch)
  rw [← e]
  unfold dig
  rw [decide_eq_true r.1, decide_eq_true r.2]
  rfl
theorem num_ne (m : Nat) : (Nat.toDigits 10 m).map Char.toNat ≠ [] := fun e => by
  have z := PySem.W.KIN.val_back m
  rw [e] at z
  have z0 : (0 : Nat) = m := z
  subst z0
  exact absurd e (by decide)
theorem span_eq : ∀ (xs ys r r' : List Nat), (∀ c ∈ xs, dig c = true) → (∀ c ∈ ys, dig c = true) → (∀ c ∈ r.head?, dig c = false) → (∀ c ∈ r'.head?, dig c = false) → xs ++ r = ys ++ r' → xs = ys ∧ r = r'
  | [], [], r, r', _, _, _, _, h => ⟨rfl, h⟩
  | [], y :: ys, r, r', _, hy, hr, _, h => by
    have h' : r = y :: (ys ++ r') := h
    have := hr y (by rw [h']; rfl)
    rw [hy y List.mem_cons_self] at this
    cases this
  | x :: xs, [], r, r', hx, _, _, hr', h => by
    have h' : x :: (xs ++ r) = r' := h
    have := hr' x (by rw [← h']; rfl)
    rw [hx x List.mem_cons_self] at this
    cases this
  | x :: xs, y :: ys, r, r', hx, hy, hr, hr', h => by
    injection h with h1 h2
    obtain ⟨e1, e2⟩ := span_eq xs ys r r' (fun c hc => hx c (List.mem_cons_of_mem _ hc)) (fun c hc => hy c (List.mem_cons_of_mem _ hc)) hr hr' h2
    exact ⟨by rw [h1, e1], e2⟩
theorem neg_cl {i : Int} (h : i < 0) : ∃ r, cl (toString i) = 45 :: r := by
  obtain ⟨m, rfl⟩ : ∃ m : Nat, i = Int.negSucc m := by
    cases i with
    | ofNat m => exact absurd h (by simp)
    | negSucc m => exact ⟨m, rfl⟩
  refine ⟨(Nat.repr (m + 1)).toList.map Char.toNat, ?_⟩
  show (PySem.Str.ofString ("-" ++ Nat.repr (m + 1))).cps.toList = _
  rw [signs_ofString, String.toList_append, List.map_append]
  rfl
theorem from_head : ∀ (ts : List Str) (k : Nat) (acc : Str), ∃ r, cl (textFrom k acc ts) = cl acc ++ r
  | [], _, _ => ⟨[], by rw [List.append_nil]; rfl⟩
  | t :: ts, k, acc => by
    unfold textFrom
    obtain ⟨r, e⟩ := from_head ts (k + 1) (acc ++ (if k > 0 then ", " else "" : String) ++ t)
    rw [e, cl_app, cl_app, List.append_assoc, List.append_assoc]
    exact ⟨_, rfl⟩
/-- a text that begins as a number's does, is an int's -/
theorem shown_num {d : PyData} {j : Nat} {r r' : List Nat} (hr : ∀ c ∈ r.head?, dig c = false) (hr' : ∀ c ∈ r'.head?, dig c = false) (h : cl d.shown ++ r = cl (toString ((j : Nat) : Int)) ++ r') : d = .int (j : Nat) ∧ r = r' := by
  rw [num_cl] at h
  have hf : ∀ (c : Nat) (t : List Nat), cl d.shown = c :: t → dig c = true := fun c t e => by
    rw [e] at h
    cases hz : (Nat.toDigits 10 j).map Char.toNat with
    | nil => exact absurd hz (num_ne j)
    | cons y ys =>
      rw [hz] at h
      injection h with h1 _
      rw [h1]
      exact num_dig j y (by rw [hz]; exact List.mem_cons_self)
  cases d with
  | none => exact absurd (hf 78 _ (by rw [PyData.shown]; rfl)) (by decide)
  | bool b => cases b <;> exact absurd (hf _ _ (by rw [PyData.shown]; rfl)) (by decide)
  | int i =>
    rw [PyData.shown] at h hf
    by_cases hi : i < 0
    · obtain ⟨t, e⟩ := neg_cl hi
      exact absurd (hf 45 t e) (by decide)
    · obtain ⟨m, rfl⟩ : ∃ m : Nat, i = m := ⟨i.toNat, by omega⟩
      rw [num_cl] at h
      obtain ⟨e1, e2⟩ := span_eq _ _ _ _ (num_dig m) (num_dig j) hr hr' h
      refine ⟨?_, e2⟩
      have := congrArg NumText.digitsVal e1
      rw [PySem.W.KIN.val_back, PySem.W.KIN.val_back] at this
      rw [this]
  | str y =>
    have e := cl_repr y
    rcases quote_or y with q | q <;> rw [q] at e <;> exact absurd (hf _ _ (by rw [PyData.shown]; exact e)) (by decide)
  | list ds => exact absurd (hf 91 _ (by rw [PyData.shown]; unfold listText; rw [cl_app, (from_head _ 0 "[").choose_spec]; rfl)) (by decide)
  | tuple ds => exact absurd (hf 40 _ (by rw [PyData.shown]; unfold tupleText; rw [cl_app, cl_app]; rfl)) (by decide)
  | dict kv => exact absurd (hf 123 _ (by rw [PyData.shown]; unfold dictText; rw [cl_app, cl_app]; rfl)) (by decide)
/-! what a step's text says -/
theorem join_two (a b : Str) (l : List Str) : cl (Str.join ", " (a :: b :: l)) = cl a ++ (44 :: 32 :: cl (Str.join ", " (b :: l))) := by
  show cl (a ++ ", " ++ Str.join ", " (b :: l)) = _
  rw [cl_app, cl_app, List.append_assoc]
  rfl
theorem join_head (b : Str) (l : List Str) : ∃ r, cl (Str.join ", " (b :: l)) = cl b ++ r ∧ (l = [] → r = []) ∧ (l ≠ [] → ∃ t, r = 44 :: t) := by
  cases l with
  | nil => exact ⟨[], by rw [List.append_nil]; rfl, fun _ => rfl, fun h => absurd rfl h⟩
  | cons c l => exact ⟨_, join_two b c l, (fun h => by cases h), fun _ => ⟨_, rfl⟩⟩
theorem tup_cl (ts : List Str) : cl (tupleText ts) = 40 :: (cl (Str.join ", " ts) ++ (if ts.length == 1 then [44, 41] else [41])) := by
  unfold tupleText
  rw [cl_app, cl_app]
  split <;> rfl
theorem shown_int_step {d : PyData} {j : Nat} (h : d.shown = (PyData.int (j : Nat)).shown) : d = .int (j : Nat) := by
  refine (shown_num (r := []) (r' := []) (by simp) (by simp) (j := j) ?_).1
  rw [h, PyData.shown]
/-- what begins with a plain quoted text -/
theorem shown_str_step {d : PyData} {z : Str} {r r' : List Nat} (hz : (cl z).all azB = true) (h : cl d.shown ++ r = 39 :: (cl z ++ 39 :: r')) : d = .str z ∧ r = r' := by
  have hf : ∀ (c : Nat) (t : List Nat), cl d.shown = c :: t → c = 39 := fun c t e => by
    rw [e] at h
    injection h
  cases d with
  | none => exact absurd (hf 78 _ (by rw [PyData.shown]; rfl)) (by decide)
  | bool b => cases b <;> exact absurd (hf _ _ (by rw [PyData.shown]; rfl)) (by decide)
  | int i =>
    exfalso
    rw [PyData.shown] at hf
    by_cases hi : i < 0
    · obtain ⟨t, e⟩ := neg_cl hi
      exact absurd (hf 45 t e) (by decide)
    · obtain ⟨m, rfl⟩ : ∃ m : Nat, i = m := ⟨i.toNat, by omega⟩
      cases hq : (Nat.toDigits 10 m).map Char.toNat with
      | nil => exact num_ne m hq
      | cons y ys =>
        have e1 := hf y ys (by rw [num_cl]; exact hq)
        have e2 := num_dig m y (by rw [hq]; exact List.mem_cons_self)
        rw [e1] at e2
        exact absurd e2 (by decide)
  | str y =>
    have e := cl_repr y
    rw [PyData.shown] at h hf
    have hq : PySem.reprQuote y = 39 := hf _ _ e
    rw [hq] at e
    rw [e] at h
    injection h with _ h
    have h : ((cl y).flatMap (Builtin.Str.reprChar 39) ++ [39]) ++ r = cl z ++ 39 :: r' := h
    rw [List.append_assoc] at h
    obtain ⟨e1, e2⟩ := letters_cut (cl z) (cl y) r r' hz h
    exact ⟨by rw [cl_inj e1], e2⟩
  | list ds => exact absurd (hf 91 _ (by rw [PyData.shown]; unfold listText; rw [cl_app, (from_head _ 0 "[").choose_spec]; rfl)) (by decide)
  | tuple ds => exact absurd (hf 40 _ (by rw [PyData.shown, tup_cl])) (by decide)
  | dict kv => exact absurd (hf 123 _ (by rw [PyData.shown]; unfold dictText; rw [cl_app, cl_app]; rfl)) (by decide)
theorem shown_pair_step {d : PyData} {z : Str} {j : Nat} (hz : (cl z).all azB = true) (h : d.shown = (PyData.tuple [.str z, .int (j : Nat)]).shown) : d = .tuple [.str z, .int (j : Nat)] := by
  have e : cl d.shown = 40 :: 39 :: (cl z ++ 39 :: (44 :: 32 :: (cl (toString ((j : Nat) : Int)) ++ [41]))) := by
    rw [h, PyData.shown, tup_cl, PyData.shownAll, PyData.shownAll, PyData.shownAll, PyData.shown, PyData.shown, join_two, plain_repr hz]
    show 40 :: ((39 :: (cl z ++ [39]) ++ 44 :: 32 :: cl (toString ((j : Nat) : Int))) ++ [41]) = _
    simp
  have hf : ∀ (c : Nat) (t : List Nat), cl d.shown = c :: t → c = 40 := fun c t e' => by
    rw [e'] at e
    injection e
  cases d with
  | none => exact absurd (hf 78 _ (by rw [PyData.shown]; rfl)) (by decide)
  | bool b => cases b <;> exact absurd (hf _ _ (by rw [PyData.shown]; rfl)) (by decide)
  | int i =>
    exfalso
    rw [PyData.shown] at hf
    by_cases hi : i < 0
    · obtain ⟨t, e⟩ := neg_cl hi
      exact absurd (hf 45 t e) (by decide)
    · obtain ⟨m, rfl⟩ : ∃ m : Nat, i = m := ⟨i.toNat, by omega⟩
      cases hq : (Nat.toDigits 10 m).map Char.toNat with
      | nil => exact num_ne m hq
      | cons y ys =>
        have e1 := hf y ys (by rw [num_cl]; exact hq)
        have e2 := num_dig m y (by rw [hq]; exact List.mem_cons_self)
        rw [e1] at e2
        exact absurd e2 (by decide)
  | str y =>
    have e := cl_repr y
    rcases quote_or y with q | q <;> rw [q] at e <;> exact absurd (hf _ _ (by rw [PyData.shown]; exact e)) (by decide)
  | list ds => exact absurd (hf 91 _ (by rw [PyData.shown]; unfold listText; rw [cl_app, (from_head _ 0 "[").choose_spec]; rfl)) (by decide)
  | dict kv => exact absurd (hf 123 _ (by rw [PyData.shown]; unfold dictText; rw [cl_app, cl_app]; rfl)) (by decide)
  | tuple ds =>
    rw [PyData.shown, tup_cl] at e
    injection e with _ e
    cases ds with
    | nil =>
      have e' : [41] = 39 :: (cl z ++ 39 :: (44 :: 32 :: (cl (toString ((j : Nat) : Int)) ++ [41]))) := e
      injection e' with e1 _
      exact absurd e1 (by decide)
    | cons a l =>
      rw [PyData.shownAll] at e
      cases l with
      | nil =>
        have e' : cl a.shown ++ [44, 41] = 39 :: (cl z ++ 39 :: (44 :: 32 :: (cl (toString ((j : Nat) : Int)) ++ [41]))) := e
        obtain ⟨_, e2⟩ := shown_str_step hz e'
        injection e2 with _ e2
        injection e2 with e3 _
        exact absurd e3 (by decide)
      | cons b l =>
        rw [PyData.shownAll, join_two] at e
        have hl : ((a.shown :: b.shown :: PyData.shownAll l).length == 1) = false := rfl
        rw [hl, if_neg Bool.false_ne_true, List.append_assoc] at e
        obtain ⟨ea, e2⟩ := shown_str_step hz e
        injection e2 with _ e2
        injection e2 with _ e2
        obtain ⟨r, er, r0, r1⟩ := join_head b.shown (PyData.shownAll l)
        have e3 : cl b.shown ++ (r ++ [41]) = cl (toString ((j : Nat) : Int)) ++ [41] := by
          rw [← List.append_assoc, ← er]
          exact e2
        have hr : ∀ c ∈ (r ++ [41]).head?, dig c = false := by
          intro c hc
          cases l with
          | nil =>
            rw [r0 (by rw [PyData.shownAll])] at hc
            cases hc
            decide
          | cons f l =>
            obtain ⟨t, et⟩ := r1 (by rw [PyData.shownAll]; exact fun z => by cases z)
            rw [et] at hc
            cases hc
            decide
        obtain ⟨eb, e4⟩ := shown_num hr (by intro c hc; cases hc; decide) e3
        cases l with
        | nil => rw [ea, eb]
        | cons f l =>
          obtain ⟨t, et⟩ := r1 (by rw [PyData.shownAll]; exact fun z => by cases z)
          rw [et] at e4
          injection e4 with e5 _
          exact absurd e5 (by decide)
end KB
set_option maxRecDepth 100000
set_option maxHeartbeats 8000000
namespace KB
open PySem PySem.Spec PyProof.Rows L2
/-! ### the part behind a step -/
/-- what repr takes -/
def RepOk (d : PyData) : Prop := okInt d ∧ d.depth ≤ 60 ∧ d.shown.length ≤ 10000000
/-- the steps: indices, and letters with indices -/
def StepL (d : PyData) : Prop := (∃ k : Nat, k ≤ 3 ∧ d = .int (k : Nat)) ∨ ∃ (z : Str) (j : Nat), nameS z = true ∧ j ≤ 2 ∧ d = .tuple [.str z, .int (j : Nat)]
theorem nest_step {s : S9} (ht : tinyS s = true) {d : PyData} {e : S9} (h : (d, e) ∈ nestS s) : StepL d := by
  cases s with
  | leaf l => cases h
  | row c xs =>
    obtain ⟨j, e1, e2⟩ := (enum_get xs 0 d e).mp h
    rw [tinyS, Bool.and_eq_true] at ht
    have hl := of_decide_eq_true ht.1
    have := (List.getElem?_eq_some_iff.mp e2).1
    exact .inl ⟨0 + j, by omega, e1⟩
  | pow n x =>
    obtain ⟨k, hk, he⟩ := List.mem_map.mp h
    cases he
    rw [tinyS, Bool.and_eq_true] at ht
    have hl := of_decide_eq_true ht.1
    have := List.mem_range.mp hk
    exact .inl ⟨k, by omega, rfl⟩
  | dec cs xs =>
    obtain ⟨q, hq, hq2⟩ := List.mem_flatMap.mp h
    obtain ⟨_, j, hj, rfl⟩ := dec_mem.mp hq2
    rw [tinyS, Bool.and_eq_true] at ht
    have hc := ht.1
    unfold cntsZ at hc
    rw [Bool.and_eq_true, List.all_eq_true] at hc
    have hm := hc.2 q.1 (List.of_mem_zip (a := q.1) (b := q.2) hq).1
    rw [Bool.and_eq_true] at hm
    have := of_decide_eq_true hm.1
    exact .inr ⟨_, j, hm.2, by omega, rfl⟩
theorem nameS_all {z : Str} (h : nameS z = true) : (cl z).all azB = true ∧ z.length ≤ 6 := by
  unfold nameS at h
  rw [Bool.and_eq_true, Bool.and_eq_true] at h
  exact ⟨h.2, by have := of_decide_eq_true h.1.2; omega⟩
theorem step_tells {o d : PyData} (h : StepL o) : d.shown = o.shown ↔ d = o := by
  constructor
  · intro e
    rcases h with ⟨k, _, rfl⟩ | ⟨z, j, hz, _, rfl⟩
    · exact shown_int_step e
    · exact shown_pair_step (nameS_all hz).1 e
  · rintro rfl
    rfl
theorem small_shown (k : Nat) (h : k ≤ 3) : (toString ((k : Nat) : Int) : Str).length = 1 := by
  have z : ∀ k : Fin 4, (Str.ofString (toString ((k.val : Nat) : Int))).length = 1 := by decide +kernel
  exact z ⟨k, by omega⟩
theorem len_cl (x : Str) : x.length = (cl x).length := by
  unfold cl
  rw [Array.length_toList]
  rfl
theorem okInt_small (k : Nat) (h : k ≤ 3) : okInt (.int (k : Nat)) := by
  have p : 10 ≤ 10 ^ 4300 := Nat.le_self_pow (by decide) 10
  simp only [okInt]
  omega
theorem step_rep {o : PyData} (h : StepL o) : okInt o ∧ o.depth ≤ 64 ∧ o.shown.length ≤ sizeLine := by
  rcases h with ⟨k, hk, rfl⟩ | ⟨z, j, hz, hj, rfl⟩
  · refine ⟨?_, by simp [PyData.depth], ?_⟩
    · exact okInt_small k hk
    · rw [PyData.shown, small_shown k hk]
      decide
  · refine ⟨?_, by simp [PyData.depth, PyData.depthAll], ?_⟩
    · simp only [okInt, okInts]
      exact ⟨trivial, by simpa only [okInt] using okInt_small j (by omega), trivial⟩
    · have hl := small_shown j (by omega)
      rw [len_cl, PyData.shown, tup_cl, PyData.shownAll, PyData.shownAll, PyData.shownAll, PyData.shown, PyData.shown, join_two, plain_repr (nameS_all hz).1]
      have e1 : (cl z).length ≤ 6 := by
        rw [← len_cl]
        exact (nameS_all hz).2
      have e2 : (cl (Str.join ", " [toString ((j : Nat) : Int)])).length = 1 := by
        show (cl (toString ((j : Nat) : Int))).length = 1
        rw [← len_cl]
        exact hl
      rw [sizeLine_eq]
      simp only [List.length_cons, List.length_append, e2, List.length_nil]
      split <;> simp <;> omega
theorem nest_get {s : S9} {j : Nat} {x : V} {H : Hp} {xs : List V} (hx : DatAll H xs (nestD s)) (h : xs[j]? = some x) : ∃ o e, (nestS s)[j]? = some (o, e) ∧ Dat H x (.tuple [o, dt e]) := by
  obtain ⟨d, hd, t⟩ := hx.get h
  unfold nestD at hd
  rw [List.getElem?_map] at hd
  cases hz : (nestS s)[j]? with
  | none =>
    rw [hz] at hd
    cases hd
  | some p =>
    rw [hz] at hd
    cases hd
    exact ⟨p.1, p.2, rfl, t⟩
section
variable {P : Program} {w : World} {K : PySem.W.Frag} {mg : Str → Option Value} {base : Heap}
end
end KB
set_option maxRecDepth 100000
set_option maxHeartbeats 8000000
namespace KB
open PySem PySem.Spec PyProof.Rows L2
/-! ### questions of the other leaves, in the law's words -/
def otherL : L9 → Bool
  | .sub _ _ => true
  | .arr _ => true
  | .cyc _ => true
  | .mat _ => true
  | .perm _ _ => true
  | .tree _ => true
  | _ => false
def smallL : L9 → Bool
  | .sub n _ => decide (n ≤ 1000)
  | .cyc n => decide (n ≤ 1000)
  | .mat n => decide (n ≤ 1000)
  | .perm n _ => decide (n ≤ 1000)
  | .tree n => decide (n ≤ 1000)
  | .word cs => decide (cs.map (·.1)).Nodup
  | _ => true
def hitB (zs : List Str) (z : Str) : Int := if (zs.any fun y => eqStr y (.str z)) = true then 1 else 0
/-- the three kinds with words of their own -/
def wordsL : L9 → Option (List Str)
  | .cyc _ => some ["successor", "predecessor"]
  | .perm _ _ => some ["image", "preimage"]
  | .mat _ => some ["partner"]
  | _ => none
section
variable {P : Program} {w : World} {K : PySem.W.Frag} {mg : Str → Option Value} {base : Heap}
end
end KB
set_option maxRecDepth 100000
set_option maxHeartbeats 8000000
namespace KB
open PySem PySem.Spec PyProof.Rows L2
/-! ### what is asked of a space at every depth -/
/-- the sizes of leaves -/
def cntsY (cs : Cn) : Bool := decide ((cs.map (·.2)).sum ≤ 1000) && cs.all fun c => nameS c.1
def leafZ : L9 → Bool
  | .sub _ k => decide (k ≤ 1000)
  | .word cs => cntsY cs
  | .arr o => decide ((namesN 6 o).length ≤ 60)
  | .mat n => decide (n ≤ 500)
  | .walk n s e lo hi => (decide (0 ≤ n) && decide (n ≤ 60)) && ((decide (-100 ≤ s) && decide (s ≤ 100)) && ((decide (-100 ≤ e) && decide (e ≤ 100)) && ((decide (-100 ≤ lo) && decide (lo ≤ 100)) && (decide (-100 ≤ hi) && decide (hi ≤ 100)))))
  | .str ms _ n => decide (n ≤ 60) && (decide (ms.length ≤ 6) && ms.all fun m => nameS m.2.1)
  | _ => true
mutual
def smS : S9 → Bool
  | .leaf l => smallL l && leafZ l
  | .row _ xs => smSs xs
  | .pow _ x => smS x
  | .dec _ xs => smSs xs
def smSs : List S9 → Bool
  | [] => true
  | x :: xs => smS x && smSs xs
end
theorem sm_mem : ∀ {xs : List S9} {x : S9}, smSs xs = true → x ∈ xs → smS x = true
  | y :: xs, x, hb, h => by
    rw [smSs, Bool.and_eq_true] at hb
    rcases List.mem_cons.mp h with rfl | h
    · exact hb.1
    · exact sm_mem hb.2 h
structure FineS (s : S9) : Prop where
  ok : okS s = true
  ti : tinyS s = true
  sm : smS s = true
theorem FineS.next {s e : S9} {d : PyData} (h : FineS s) (hn : nextS s d = some e) : FineS e := by
  refine ⟨next_ok h.ok hn, ?_, ?_⟩
  · have hm := (next_iff s d e (okS_d h.ok)).mp hn
    have ht := h.ti
    cases s with
    | leaf l => cases hm
    | row c xs =>
      rw [tinyS, Bool.and_eq_true] at ht
      obtain ⟨j, _, hj⟩ := (enum_get xs 0 d e).mp hm
      exact tiny_mem ht.2 (List.mem_of_getElem? hj)
    | pow n x =>
      rw [tinyS, Bool.and_eq_true] at ht
      obtain ⟨k, _, hk⟩ := List.mem_map.mp hm
      cases hk
      exact ht.2
    | dec cs xs =>
      rw [tinyS, Bool.and_eq_true] at ht
      obtain ⟨q, hq, hq2⟩ := List.mem_flatMap.mp hm
      obtain ⟨rfl, _⟩ := dec_mem.mp hq2
      exact tiny_mem ht.2 (List.of_mem_zip (a := q.1) (b := q.2) hq).2
  · have hm := (next_iff s d e (okS_d h.ok)).mp hn
    have ht := h.sm
    cases s with
    | leaf l => cases hm
    | row c xs =>
      rw [smS] at ht
      obtain ⟨j, _, hj⟩ := (enum_get xs 0 d e).mp hm
      exact sm_mem ht (List.mem_of_getElem? hj)
    | pow n x =>
      rw [smS] at ht
      obtain ⟨k, _, hk⟩ := List.mem_map.mp hm
      cases hk
      exact ht
    | dec cs xs =>
      rw [smS] at ht
      obtain ⟨q, hq, hq2⟩ := List.mem_flatMap.mp hm
      obtain ⟨rfl, _⟩ := dec_mem.mp hq2
      exact sm_mem ht (List.of_mem_zip (a := q.1) (b := q.2) hq).2
/-- the part at a path, walked step by step -/
def walkP : Option S9 → List PyData → Option S9
  | o, [] => o
  | none, _ :: ds => walkP none ds
  | some s, d :: ds => walkP (nextS s d) ds
theorem walk_none : ∀ ds : List PyData, walkP none ds = none
  | [] => rfl
  | _ :: ds => walk_none ds
theorem walk_snoc : ∀ (ds : List PyData) (o : Option S9) (d : PyData), walkP o (ds ++ [d]) = (walkP o ds).bind fun e => nextS e d
  | [], none, d => rfl
  | [], some s, d => rfl
  | c :: ds, none, d => walk_snoc ds none d
  | c :: ds, some s, d => walk_snoc ds (nextS s c) d
end KB
set_option maxRecDepth 100000
set_option maxHeartbeats 4000000
namespace KB
open PySem PySem.Spec PyProof.Rows L2
/-! ### known data, comprehensions: lists that are new -/
def MkN (N : Nat) (G : List (Nat × PyData)) (t : TE) (d : PyData) : Prop := ∀ (σ : L2.St) (H : Hp) (Q : VK), σ.length = N → EnvOk G σ H → (∀ (v : V) (H' : Hp), Same H H' → Dat H' v d → Q v H') → t σ H Q
def MkF (N : Nat) (G : List (Nat × PyData)) (t : TE) (ds : List PyData) : Prop := ∀ (σ : L2.St) (H : Hp) (Q : VK), σ.length = N → EnvOk G σ H →
  (∀ (L : Addr) (zs : List V) (H0 H' : Hp), H0 L = none → Same H H0 → Same H0 H' → H' L = some (.lst zs) → DatAll H0 zs ds → Q (.ref L) H') → t σ H Q
theorem Mk.n {N : Nat} {G : List (Nat × PyData)} {t : TE} {d : PyData} (h : Mk G t d) : MkN N G t d := fun σ H Q _ E q => h σ H Q E q
theorem MkF.n {N : Nat} {G : List (Nat × PyData)} {t : TE} {ds : List PyData} (h : MkF N G t ds) : MkN N G t (.list ds) := fun σ H Q l E q => h σ H Q l E fun L zs H0 H' _ S0 S1 e d => q _ H' (S0.trans S1) (.lst e (d.same S1))
theorem EnvOk.none {G : List (Nat × PyData)} {σ : L2.St} {H : Hp} {i : Nat} (E : EnvOk G σ H) (hn : ∀ p ∈ G, p.1 ≠ i) : EnvOk G (σ.set i none) H := fun p hp => by
  obtain ⟨u, a, b⟩ := E p hp
  exact ⟨u, by rw [List.getElem?_set_ne (fun z => hn p hp z.symm)]; exact a, b⟩
theorem mks_tup2 {G : List (Nat × PyData)} {t u : TE} {d e : PyData} (h : Mk G t d) (h2 : Mk G u e) : Mk G (tTupF (tCons t (tCons u tNil))) (.tuple [d, e]) := mk_tup (mks_cons h (mks_cons h2 mks_nil)) (by show 2 ≤ 1000; decide)
theorem mks_tup3 {G : List (Nat × PyData)} {t u w : TE} {d e f : PyData} (h : Mk G t d) (h2 : Mk G u e) (h3 : Mk G w f) : Mk G (tTupF (tCons t (tCons u (tCons w tNil)))) (.tuple [d, e, f]) := mk_tup (mks_cons h (mks_cons h2 (mks_cons h3 mks_nil))) (by show 3 ≤ 1000; decide)
theorem wipe_one {σ : L2.St} {i : Nat} {x : Option V} : wipe ((wipe σ [i]).set i x) [i] = wipe σ [i] := by
  show ((σ.set i none).set i x).set i none = σ.set i none
  rw [List.set_set, List.set_set]
section
variable {N : Nat} {G : List (Nat × PyData)} {t u te : TE}
/-- the turns of a comprehension -/
theorem gr_out {H1 : Hp} {D : Addr} {ds : List PyData} {Hz : Hp} (g : Gr H1 D ds Hz) : ∃ (zs : List V) (H0 : Hp), H0 D = none ∧ Same H1 H0 ∧ Same H0 Hz ∧ Hz D = some (.lst zs) ∧ DatAll H0 zs ds := by
  obtain ⟨n, S0, xs, h, d⟩ := g
  exact ⟨xs, noR D Hz, if_pos rfl, noR_same n S0, noR_sub, h, d⟩
theorem mkf_range1 {i n : Nat} {f : Nat → PyData} (h : Mk G t (.int (n : Nat))) (hn : n ≤ 5000) (hG : G.all (fun p => p.1 != i) = true) (hi : i < N) (he : ∀ j, j < n → Mk ((i, .int (j : Nat)) :: G) te (f j)) (hf : ∀ j, j < n → noL (f j) = true) :
    MkF N G (tLc (iRng1 (tCons t tNil)) (gName i) tYes te [i]) ((List.range n).map f) := fun σ H Q hN E q => h σ H _ E fun v H1 S1 d1 => by
  have hG := ne_of hG
  obtain rfl := dat_isInt d1
  have E1 := (E.same S1).none hG
  refine ⟨((n : Nat) : Int), rfl, by omega, by omega, fun D nD => lc_range (n := n) (fun j Hz => Gr H1 D ((List.range j).map f) Hz) (Gr.start nD) ?_ ?_⟩
  · rintro j Hz hj g
    rw [show ((0 : Int) + (j : Nat)) = ((j : Nat) : Int) from Int.zero_add _]
    refine ⟨wipe_one, ?_⟩
    dsimp only [tYes]
    refine if_t rfl (he j hj _ Hz _ ((E1.same g.2.1).put hG (by rw [List.length_set, hN]; exact hi) (.int _)) fun v4 H4 S4 d4 => ?_)
    obtain ⟨xs, hL, hxl, _, g'⟩ := g.add S4 (.cons d4 .nil) (by show noLs [f j] = true; simp [noLs, hf j hj])
    rw [List.length_map, List.length_range] at hxl
    refine ⟨xs, hL, by rw [sizeLine_eq]; omega, ?_⟩
    rw [List.range_succ, List.map_append]
    exact g'
  · rintro Hz g
    obtain ⟨zs, H0, n0, S0, S2, e, d⟩ := gr_out g
    exact q D zs H0 Hz n0 (S1.trans S0) S2 e d
theorem mkf_rangeI {i : Nat} {m : Int} {f : Nat → PyData} (h : Mk G t (.int m)) (hm : -1000000 ≤ m ∧ m ≤ 5000) (hG : G.all (fun p => p.1 != i) = true) (hi : i < N) (he : ∀ j, j < m.toNat → Mk ((i, .int (j : Nat)) :: G) te (f j)) (hf : ∀ j, j < m.toNat → noL (f j) = true) :
    MkF N G (tLc (iRng1 (tCons t tNil)) (gName i) tYes te [i]) ((List.range m.toNat).map f) := fun σ H Q hN E q => h σ H _ E fun v H1 S1 d1 => by
  have hG := ne_of hG
  obtain rfl := dat_isInt d1
  have E1 := (E.same S1).none hG
  refine ⟨m, rfl, by omega, by omega, fun D nD => lc_range (n := m.toNat) (fun j Hz => Gr H1 D ((List.range j).map f) Hz) (Gr.start nD) ?_ ?_⟩
  · rintro j Hz hj g
    rw [show ((0 : Int) + (j : Nat)) = ((j : Nat) : Int) from Int.zero_add _]
    refine ⟨wipe_one, ?_⟩
    dsimp only [tYes]
    refine if_t rfl (he j hj _ Hz _ ((E1.same g.2.1).put hG (by rw [List.length_set, hN]; exact hi) (.int _)) fun v4 H4 S4 d4 => ?_)
    obtain ⟨xs, hL, hxl, _, g'⟩ := g.add S4 (.cons d4 .nil) (by show noLs [f j] = true; simp [noLs, hf j hj])
    rw [List.length_map, List.length_range] at hxl
    refine ⟨xs, hL, by rw [sizeLine_eq]; omega, ?_⟩
    rw [List.range_succ, List.map_append]
    exact g'
  · rintro Hz g
    obtain ⟨zs, H0, n0, S0, S2, e, d⟩ := gr_out g
    exact q D zs H0 Hz n0 (S1.trans S0) S2 e d
theorem mkf_range2 {i n : Nat} {lo hi : Int} {f : Nat → PyData} (h : Mk G t (.int lo)) (h2 : Mk G u (.int hi)) (hn : (hi - lo).toNat = n) (hn1 : n ≤ 5000) (hlo : -1000000 ≤ lo ∧ lo ≤ 1000000) (hhi : -1000000 ≤ hi ∧ hi ≤ 1000000) (hG : G.all (fun p => p.1 != i) = true) (hiN : i < N)
    (he : ∀ j, j < n → Mk ((i, .int (lo + (j : Nat))) :: G) te (f j)) (hf : ∀ j, j < n → noL (f j) = true) :
    MkF N G (tLc (iRng2 (tCons t (tCons u tNil))) (gName i) tYes te [i]) ((List.range n).map f) := fun σ H Q hN E q => h σ H _ E fun v H1 S1 d1 => h2 σ H1 _ (E.same S1) fun v2 H2 S2 d2 => by
  have hG := ne_of hG
  obtain rfl := dat_isInt d1
  obtain rfl := dat_isInt d2
  have E1 := ((E.same S1).same S2).none hG
  refine ⟨lo, hi, rfl, ⟨by omega, by omega, by omega, by omega⟩, fun D nD => ?_⟩
  rw [hn]
  refine lc_range (n := n) (fun j Hz => Gr H2 D ((List.range j).map f) Hz) (Gr.start nD) ?_ ?_
  · rintro j Hz hj g
    refine ⟨wipe_one, ?_⟩
    dsimp only [tYes]
    refine if_t rfl (he j hj _ Hz _ ((E1.same g.2.1).put hG (by rw [List.length_set, hN]; exact hiN) (.int _)) fun v4 H4 S4 d4 => ?_)
    obtain ⟨xs, hL, hxl, _, g'⟩ := g.add S4 (.cons d4 .nil) (by show noLs [f j] = true; simp [noLs, hf j hj])
    rw [List.length_map, List.length_range] at hxl
    refine ⟨xs, hL, by rw [sizeLine_eq]; omega, ?_⟩
    rw [List.range_succ, List.map_append]
    exact g'
  · rintro Hz g
    obtain ⟨zs, H0, n0, S0, S3, e, d⟩ := gr_out g
    exact q D zs H0 Hz n0 ((S1.trans S2).trans S0) S3 e d
theorem take_map_succ {α β : Type} {f : α → β} {ds : List α} {j : Nat} {d : α} (h : ds[j]? = some d) : (ds.take (j + 1)).map f = (ds.take j).map f ++ [f d] := by
  rw [List.take_add_one, h, List.map_append]
  rfl
/-- over a list of known data -/
theorem mkf_list {K : PySem.W.Frag} {i : Nat} {ds : List PyData} {f : PyData → PyData} (h : Mk G t (.list ds)) (hn : ds.length ≤ 5000) (hG : G.all (fun p => p.1 != i) = true) (hi : i < N) (he : ∀ d ∈ ds, Mk ((i, d) :: G) te (f d)) (hf : ∀ d ∈ ds, noL (f d) = true) :
    MkF N G (tLc (iList K t) (gName i) tYes te [i]) (ds.map f) := fun σ H Q hN E q => h σ H _ E fun v H1 S1 d1 => by
  have hG := ne_of hG
  obtain ⟨a, xs, rfl, ha, hx⟩ := dat_lst d1
  have hxl := hx.len
  have E1 := (E.same S1).none hG
  refine ⟨a, rfl, ⟨_, SqL.of ha⟩, fun D nD => lc_list (K := K) (xs := xs) (fun j Hz => Gr H1 D ((ds.take j).map f) Hz) (by rw [List.take_zero]; exact Gr.start nD) (fun j Hz _ g => SqL.of (g.2.1 _ _ ha)) ?_ ?_⟩
  · rintro j y Hz hy g
    obtain ⟨d, hd, dy⟩ := hx.get hy
    have hm := List.mem_of_getElem? hd
    refine ⟨wipe_one, ?_⟩
    dsimp only [tYes]
    refine if_t rfl (he d hm _ Hz _ ((E1.same g.2.1).put hG (by rw [List.length_set, hN]; exact hi) (dy.same g.2.1)) fun v4 H4 S4 d4 => ?_)
    obtain ⟨zs, hL, hzl, _, g'⟩ := g.add S4 (.cons d4 .nil) (by show noLs [f d] = true; simp [noLs, hf d hm])
    rw [List.length_map, List.length_take] at hzl
    refine ⟨zs, hL, by rw [sizeLine_eq]; omega, ?_⟩
    rw [take_map_succ hd]
    exact g'
  · rintro Hz g
    rw [hxl, List.take_length] at g
    obtain ⟨zs, H0, n0, S0, S2, e, d⟩ := gr_out g
    exact q D zs H0 Hz n0 (S1.trans S0) S2 e d
/-- over a tuple of pairs, the second of each -/
theorem mkf_pairs {K : PySem.W.Frag} {i k : Nat} {ps : List (PyData × PyData)} {f : PyData × PyData → PyData} (h : Mk G t (.tuple (ps.map fun p => .tuple [p.1, p.2]))) (hn : ps.length ≤ 5000) (hG : G.all (fun p => p.1 != i) = true) (hG2 : G.all (fun p => p.1 != k) = true) (hik : i ≠ k) (hi : i < N) (hk : k < N)
    (he : ∀ p ∈ ps, Mk ((k, p.2) :: (i, p.1) :: G) te (f p)) (hf : ∀ p ∈ ps, noL (f p) = true) :
    MkF N G (tLc (iTup K t) (gTup K 2 (gCons (gName i) (gCons (gName k) gNil))) tYes te [i, k]) (ps.map f) := fun σ H Q hN E q => h σ H _ E fun v H1 S1 d1 => by
  have hG := ne_of hG
  have hG2 := ne_of hG2
  obtain ⟨a, xs, rfl, ha, hx⟩ := dat_tup d1
  have hxl := hx.len
  rw [List.length_map] at hxl
  have E1 := ((E.same S1).none hG2).none hG
  refine ⟨a, rfl, ⟨_, sqT_rd ha⟩, fun D nD => lc_tup (K := K) (xs := xs) (fun j Hz => Gr H1 D ((ps.take j).map f) Hz) (by rw [List.take_zero]; exact Gr.start nD) (fun j Hz _ g => sqT_rd (upR ha g.2.1)) ?_ ?_⟩
  · rintro j y Hz hy g
    obtain ⟨d, hd, dy⟩ := hx.get hy
    rw [List.getElem?_map] at hd
    obtain ⟨p, hp, rfl⟩ := Option.map_eq_some_iff.mp hd
    have hm := List.mem_of_getElem? hp
    obtain ⟨b, ys, rfl, hb, hys⟩ := dat_tup (dy.same g.2.1)
    obtain ⟨y0, y1, rfl, c0, c1⟩ := dat_two hys
    refine ⟨b, _, rfl, sqT_rd hb, rfl, y0, _, rfl, y1, _, rfl, rfl, ?_, ?_⟩
    · show ((((((σ.set k none).set i none).set i (some y0)).set k (some y1)).set k none).set i none) = (σ.set k none).set i none
      rw [List.set_set, List.set_set, List.set_comm _ _ hik]
      simp only [List.set_set]
    · dsimp only [tYes]
      have hk1 : ∀ p0 ∈ (i, p.1) :: G, p0.1 ≠ k := fun p0 h0 => by
        rcases List.mem_cons.mp h0 with rfl | h0
        · exact hik
        · exact hG2 p0 h0
      refine if_t rfl (he p hm _ Hz _ (((E1.same g.2.1).put hG (by rw [List.length_set, List.length_set, hN]; exact hi) c0).put hk1 (by rw [List.length_set, List.length_set, List.length_set, hN]; exact hk) c1) fun v4 H4 S4 d4 => ?_)
      obtain ⟨zs, hL, hzl, _, g'⟩ := g.add S4 (.cons d4 .nil) (by show noLs [f p] = true; simp [noLs, hf p hm])
      rw [List.length_map, List.length_take] at hzl
      refine ⟨zs, hL, by rw [sizeLine_eq]; omega, ?_⟩
      rw [take_map_succ hp]
      exact g'
  · rintro Hz g
    rw [hxl, List.take_length] at g
    obtain ⟨zs, H0, n0, S0, S2, e, d⟩ := gr_out g
    exact q D zs H0 Hz n0 (S1.trans S0) S2 e d
theorem mkf_cat {l1 l2 : List PyData} (h : MkN N G t (.list l1)) (h2 : MkN N G u (.list l2)) (hl : l1.length + l2.length ≤ 50000) : MkF N G (tOp rCat t u) (l1 ++ l2) := fun σ H Q hN E q =>
  h σ H _ hN E fun v H1 S1 d1 => h2 σ H1 _ hN (E.same S1) fun w H2 S2 d2 => by
    obtain ⟨a, xs, rfl, ha, hx⟩ := dat_lst (d1.same S2)
    obtain ⟨b, ys, rfl, hb, hy⟩ := dat_lst d2
    have lx := hx.len
    have ly := hy.len
    exact ⟨a, b, xs, ys, rfl, rfl, ha, hb, by rw [lx, ly, sizeLine_eq]; omega, fun p np => q p _ H2 _ np (S1.trans S2) (same_new np) upd_same (datAll_append hx hy)⟩
theorem mkf_lst {w : TA} {ds : List PyData} (hs : Mks G w ds) (hl : ds.length ≤ 1000) : MkF N G (tLst w) ds := fun σ H Q _ E q =>
  hs σ H _ E fun vs H1 S1 d1 => ⟨by rw [d1.len, sizeLine_eq]; omega, fun p np => q p vs H1 _ np S1 (same_new np) upd_same d1⟩
theorem mkn_sum {K : PySem.W.Frag} {ns : List Int} (h : MkN N G t (.list (ns.map PyData.int))) : MkN N G (tCB (rSum K) (tCons t tNil)) (.int ns.sum) := fun σ H Q hN E q => h σ H _ hN E fun v H1 S d => by
  obtain ⟨a, xs, rfl, ha, hx⟩ := dat_lst d
  rw [dat_ints hx] at ha
  exact ⟨a, ns, rfl, SqL.of ha, q _ H1 S (.int _)⟩
end
/-! statements -/
section
variable {N : Nat} {G : List (Nat × PyData)} {Hi : Hp} {i : Nat} {d : PyData} {ds es : List PyData} {σ : L2.St} {H : Hp} {te : TE} {D : Ends} {R : TS}
theorem sq_setN (M : MkN N G te d) (hN : σ.length = N) (E : EnvOk G σ H) (hn : G.all (fun p => p.1 != i) = true) (hi : i < N) (k : ∀ (v : V) (H' : Hp), Same H H' → EnvOk ((i, d) :: G) (σ.set i (some v)) H' → R D (σ.set i (some v)) H') : tSeq (tAsg te (gName i)) R D σ H :=
  M σ H (fun v H1 => R D (σ.set i (some v)) H1) hN E fun v H1 S d1 => k v H1 S ((E.same S).put (ne_of hn) (by rw [hN]; exact hi) d1)
/-- found = (a new list) -/
theorem sq_setF {G' : List (Nat × PyData)} (M : MkF N G' te ds) (hN : σ.length = N) (E : EnvOk G' σ H) (S : Same Hi H) (hs : ∀ p ∈ G, p ∈ G') (hn : G.all (fun p => p.1 != i) = true) (hi : i < N)
    (k : ∀ (p : Addr) (H' : Hp), ST Hi G i ds (σ.set i (some (.ref p))) H' → R D (σ.set i (some (.ref p))) H') : tSeq (tAsg te (gName i)) R D σ H :=
  M σ H (fun v H1 => R D (σ.set i (some v)) H1) hN E fun L zs H0 H' n0 S0 S1 e d1 => k L H' ⟨L, zs, H0, List.getElem?_set_self (by rw [hN]; exact hi), e, n0, S.trans S0, S1, d1, EnvOk.set (fun p hp => (E.same S0) p (hs p hp)) (ne_of hn)⟩
theorem rt_mkf (M : MkF N G te ds) (hN : σ.length = N) (E : EnvOk G σ H) (k : ∀ (L : Addr) (zs : List V) (H' : Hp), H L = none → Same H H' → H' L = some (.lst zs) → DatAll H' zs ds → D.rt (.ref L) H') : tRet te D σ H :=
  M σ H D.rt hN E fun L zs H0 H' n0 S0 S1 e d1 => k L zs H' (none_back S0 n0) (S0.trans S1) e (d1.same S1)
/-- found.extend(..) -/
theorem st_ext {K : PySem.W.Frag} {Q : VK} (S : ST Hi G i ds σ H) (hN : σ.length = N) (M : MkF N G te es) (hf : noLs es = true) (hl : ds.length + es.length ≤ 50000)
    (k : ∀ H' : Hp, ST Hi G i (ds ++ es) σ H' → Q .non H') : tBM K "list" rExtend (tVar i) (tCons te tNil) σ H Q := by
  obtain ⟨L, zs, H0, h1, h2, h3, h4, h5, h6, h7⟩ := S
  refine ⟨_, h1, .inl ⟨rfl, _, SqL.of h2⟩, M σ H _ hN (h7.same h5) fun L2 ys H2 H3 n2 S2 S3 e2 d2 => ?_⟩
  have lz := h6.len
  have ly := d2.len
  have hL := S3 _ _ (S2 _ _ h2)
  have T := noR_same h3 ((h5.trans S2).trans S3)
  refine ⟨L, L2, zs, ys, rfl, rfl, hL, e2, by rw [lz, ly, sizeLine_eq]; omega, k _ ⟨L, zs ++ ys, noR L H3, h1, upd_same, if_pos rfl, h4.trans T, noR_to, datAll_append (h6.same T) (dat_noLs hL hf (d2.same S3)), h7.same T⟩⟩
theorem sq_ext {K : PySem.W.Frag} (S : ST Hi G i ds σ H) (hN : σ.length = N) (M : MkF N G te es) (hf : noLs es = true) (hl : ds.length + es.length ≤ 50000)
    (k : ∀ H' : Hp, ST Hi G i (ds ++ es) σ H' → R D σ H') : tSeq (tDrop (tBM K "list" rExtend (tVar i) (tCons te tNil))) R D σ H := st_ext (Q := fun _ H1 => R D σ H1) S hN M hf hl k
theorem one_ext {K : PySem.W.Frag} (S : ST Hi G i ds σ H) (hN : σ.length = N) (M : MkF N G te es) (hf : noLs es = true) (hl : ds.length + es.length ≤ 50000)
    (k : ∀ H' : Hp, ST Hi G i (ds ++ es) σ H' → D.nx σ H') : tDrop (tBM K "list" rExtend (tVar i) (tCons te tNil)) D σ H := st_ext (Q := fun _ H1 => D.nx σ H1) S hN M hf hl k
theorem ST.weak {G' : List (Nat × PyData)} (S : ST Hi G i ds σ H) (h : ∀ p ∈ G', p ∈ G) : ST Hi G' i ds σ H := by
  obtain ⟨L, zs, H0, h1, h2, h3, h4, h5, h6, h7⟩ := S
  exact ⟨L, zs, H0, h1, h2, h3, h4, h5, h6, fun p hp => h7 p (h p hp)⟩
/-- the list is returned -/
theorem rt_st (S : ST Hi G i ds σ H) (k : ∀ (L : Addr) (zs : List V), Hi L = none → Same Hi H → H L = some (.lst zs) → DatAll H zs ds → D.rt (.ref L) H) : tRet (tVar i) D σ H := by
  obtain ⟨L, zs, H0, h1, h2, h3, h4, h5, h6, h7⟩ := S
  exact ⟨_, h1, k L zs (none_back h4 h3) (h4.trans h5) h2 (h6.same h5)⟩
/-- the base of a growing list is moved on -/
theorem ST.rebase (S : ST Hi G i ds σ H) {H1 : Hp} (S1 : Same H H1) : ∃ Hb, Same Hi Hb ∧ Same Hb H1 ∧ ST Hb G i ds σ H1 ∧ ∀ v d, noL d = true → Dat H1 v d → Dat Hb v d := by
  obtain ⟨L, zs, H0, h1, h2, h3, h4, h5, h6, h7⟩ := S
  have hL := S1 _ _ h2
  have T := noR_same h3 (h5.trans S1)
  exact ⟨noR L H1, h4.trans T, noR_sub, ⟨L, zs, noR L H1, h1, hL, if_pos rfl, Same.refl _, noR_sub, h6.same T, h7.same T⟩, fun v d no dd => dat_noL hL no dd⟩
theorem ST.base {Hb : Hp} (S : ST Hb G i ds σ H) (h : Same Hi Hb) : ST Hi G i ds σ H := by
  obtain ⟨L, zs, H0, h1, h2, h3, h4, h5, h6, h7⟩ := S
  exact ⟨L, zs, H0, h1, h2, h3, h.trans h4, h5, h6, h7⟩
theorem ST.next (S : ST Hi G i ds σ H) {H1 : Hp} (S1 : Same H H1) : ST Hi G i ds σ H1 := by
  obtain ⟨Hb, B1, _, SB, _⟩ := S.rebase S1
  exact SB.base B1
theorem flat_succ {α β : Type} {f : α → List β} {ps : List α} {j : Nat} {p : α} (h : ps[j]? = some p) : (ps.take (j + 1)).flatMap f = (ps.take j).flatMap f ++ f p := by
  rw [List.take_add_one, h, List.flatMap_append]
  simp
/-- for a, b in (a tuple of pairs): the list grows -/
theorem for_pairs {K : PySem.W.Frag} {a b : Nat} {t : TE} {tb : TS} {ps : List (PyData × PyData)} {fF : PyData × PyData → List PyData} (S : ST Hi G i ds σ H) (hN : σ.length = N) (M : Mk G t (.tuple (ps.map fun p => .tuple [p.1, p.2]))) (no : noL (.tuple (ps.map fun p => .tuple [p.1, p.2])) = true)
    (hG : G.all (fun p => p.1 != a) = true) (hG2 : G.all (fun p => p.1 != b) = true) (hab : a ≠ b) (hai : a ≠ i) (hbi : b ≠ i) (haN : a < N) (hbN : b < N)
    (body : ∀ (j : Nat) (p : PyData × PyData) (Hb : Hp) (acc : List PyData) (σ' : L2.St) (H' : Hp) (D' : Ends), ps[j]? = some p → σ'.length = N → acc = ds ++ (ps.take j).flatMap fF → ST Hb ((b, p.2) :: (a, p.1) :: G) i acc σ' H' → (∀ H2, ST Hb ((b, p.2) :: (a, p.1) :: G) i (acc ++ fF p) σ' H2 → D'.nx σ' H2) → tb D' σ' H')
    (k : ∀ (σ' : L2.St) (H' : Hp), σ'.length = N → ST Hi G i (ds ++ ps.flatMap fF) σ' H' → D.nx σ' H') : tFor (iTup K t) (gTup K 2 (gCons (gName a) (gCons (gName b) gNil))) tb D σ H := M σ H _ S.env fun v H1 S1 d1 => by
  have hG := ne_of hG
  have hG2 := ne_of hG2
  obtain ⟨Hb, B1, B2, SB, bd⟩ := S.rebase S1
  obtain ⟨a0, xs, rfl, ha, hx⟩ := dat_tup (bd _ _ no d1)
  have hxl := hx.len
  rw [List.length_map] at hxl
  refine ⟨a0, rfl, ⟨_, sqT_rd (upR ha B2)⟩, for_tup (K := K) (xs := xs) (fun j σ' H' => σ'.length = N ∧ ST Hb G i (ds ++ (ps.take j).flatMap fF) σ' H') ⟨hN, by rw [List.take_zero, List.flatMap_nil, List.append_nil]; exact SB⟩ (fun j σ' H' _ g => sqT_rd (upR ha g.2.same)) ?_ ?_⟩
  · rintro j y σ' H' hy ⟨hN', g⟩
    obtain ⟨d, hd, dy⟩ := hx.get hy
    rw [List.getElem?_map] at hd
    obtain ⟨p, hp, rfl⟩ := Option.map_eq_some_iff.mp hd
    obtain ⟨b0, ys, rfl, hb, hys⟩ := dat_tup dy
    obtain ⟨y0, y1, rfl, c0, c1⟩ := dat_two hys
    have noP : noL (.tuple [p.1, p.2]) = true := noLs_iff.mp (show noLs (ps.map fun p => .tuple [p.1, p.2]) = true from no) _ (List.mem_map_of_mem (List.mem_of_getElem? hp))
    have noP2 : noLs [p.1, p.2] = true := noP
    simp only [noLs, Bool.and_eq_true] at noP2
    refine ⟨b0, _, rfl, sqT_rd (upR hb g.same), rfl, y0, _, rfl, y1, _, rfl, rfl, ?_⟩
    have g1 := st_set g (Same.refl H') (c0.same g.same) noP2.1 hG hai (by rw [hN']; exact haN)
    have hk1 : ∀ p0 ∈ (a, p.1) :: G, p0.1 ≠ b := fun p0 h0 => by
      rcases List.mem_cons.mp h0 with rfl | h0
      · exact hab
      · exact hG2 p0 h0
    have g2 := st_set g1 (Same.refl H') (c1.same g.same) noP2.2.1 hk1 hbi (by rw [List.length_set, hN']; exact hbN)
    refine body j p Hb _ _ H' _ hp (by rw [List.length_set, List.length_set, hN']) rfl g2 fun H2 g3 => ⟨by rw [List.length_set, List.length_set, hN'], ?_⟩
    rw [flat_succ hp, ← List.append_assoc]
    exact g3.weak fun q hq => List.mem_cons_of_mem _ (List.mem_cons_of_mem _ hq)
  · rintro σ' H' ⟨hN', g⟩
    rw [hxl, List.take_length] at g
    exact k σ' H' hN' (g.base B1)
/-- for a in (a tuple): the list grows -/
theorem for_itemsP {K : PySem.W.Frag} {a : Nat} {t : TE} {tb : TS} {ps : List PyData} {fF : PyData → List PyData} (S : ST Hi G i ds σ H) (hN : σ.length = N) (M : ∀ Q : VK, (∀ (v : V) (H' : Hp), Same H H' → Dat H' v (.tuple ps) → Q v H') → t σ H Q) (no : noLs ps = true)
    (hG : G.all (fun p => p.1 != a) = true) (hai : a ≠ i) (haN : a < N)
    (body : ∀ (j : Nat) (p : PyData) (Hb : Hp) (acc : List PyData) (σ' : L2.St) (H' : Hp) (D' : Ends), ps[j]? = some p → σ'.length = N → acc = ds ++ (ps.take j).flatMap fF → ST Hb ((a, p) :: G) i acc σ' H' → (∀ H2, ST Hb ((a, p) :: G) i (acc ++ fF p) σ' H2 → D'.nx σ' H2) → tb D' σ' H')
    (k : ∀ (σ' : L2.St) (H' : Hp), σ'.length = N → ST Hi G i (ds ++ ps.flatMap fF) σ' H' → D.nx σ' H') : tFor (iTup K t) (gName a) tb D σ H := M _ fun v H1 S1 d1 => by
  have hG := ne_of hG
  obtain ⟨Hb, B1, B2, SB, bd⟩ := S.rebase S1
  obtain ⟨a0, xs, rfl, ha, hx⟩ := dat_tup (bd _ _ (show noL (.tuple ps) = true from no) d1)
  have hxl := hx.len
  refine ⟨a0, rfl, ⟨_, sqT_rd (upR ha B2)⟩, for_tup (K := K) (xs := xs) (fun j σ' H' => σ'.length = N ∧ ST Hb G i (ds ++ (ps.take j).flatMap fF) σ' H') ⟨hN, by rw [List.take_zero, List.flatMap_nil, List.append_nil]; exact SB⟩ (fun j σ' H' _ g => sqT_rd (upR ha g.2.same)) ?_ ?_⟩
  · rintro j y σ' H' hy ⟨hN', g⟩
    obtain ⟨p, hp, dy⟩ := hx.get hy
    have g1 := st_set g (Same.refl H') (dy.same g.same) (noLs_iff.mp no _ (List.mem_of_getElem? hp)) hG hai (by rw [hN']; exact haN)
    refine body j p Hb _ _ H' _ hp (by rw [List.length_set, hN']) rfl g1 fun H2 g3 => ⟨by rw [List.length_set, hN'], ?_⟩
    rw [flat_succ hp, ← List.append_assoc]
    exact g3.weak fun q hq => List.mem_cons_of_mem _ hq
  · rintro σ' H' ⟨hN', g⟩
    rw [hxl, List.take_length] at g
    exact k σ' H' hN' (g.base B1)
/-- for a in (a tuple): the list grows -/
theorem for_items {K : PySem.W.Frag} {a : Nat} {t : TE} {tb : TS} {ps : List PyData} {fF : PyData → List PyData} (S : ST Hi G i ds σ H) (hN : σ.length = N) (M : MkN N G t (.tuple ps)) (no : noLs ps = true)
    (hG : G.all (fun p => p.1 != a) = true) (hai : a ≠ i) (haN : a < N)
    (body : ∀ (j : Nat) (p : PyData) (Hb : Hp) (acc : List PyData) (σ' : L2.St) (H' : Hp) (D' : Ends), ps[j]? = some p → σ'.length = N → acc = ds ++ (ps.take j).flatMap fF → ST Hb ((a, p) :: G) i acc σ' H' → (∀ H2, ST Hb ((a, p) :: G) i (acc ++ fF p) σ' H2 → D'.nx σ' H2) → tb D' σ' H')
    (k : ∀ (σ' : L2.St) (H' : Hp), σ'.length = N → ST Hi G i (ds ++ ps.flatMap fF) σ' H' → D.nx σ' H') : tFor (iTup K t) (gName a) tb D σ H := for_itemsP S hN (fun Q k => M σ H Q hN S.env k) no hG hai haN body k
/-- for a in range(n): the list grows -/
theorem for_upto {a n : Nat} {t : TE} {tb : TS} {fF : Nat → List PyData} (S : ST Hi G i ds σ H) (hN : σ.length = N) (M : Mk G t (.int (n : Nat))) (hn : n ≤ 5000)
    (hG : G.all (fun p => p.1 != a) = true) (hai : a ≠ i) (haN : a < N)
    (body : ∀ (j : Nat) (acc : List PyData) (σ' : L2.St) (H' : Hp) (D' : Ends), j < n → σ'.length = N → acc = ds ++ (List.range j).flatMap fF → ST Hi ((a, .int (j : Nat)) :: G) i acc σ' H' → (∀ H2, ST Hi ((a, .int (j : Nat)) :: G) i (acc ++ fF j) σ' H2 → D'.nx σ' H2) → tb D' σ' H')
    (k : ∀ (σ' : L2.St) (H' : Hp), σ'.length = N → ST Hi G i (ds ++ (List.range n).flatMap fF) σ' H' → D.nx σ' H') : tFor (iRng1 (tCons t tNil)) (gName a) tb D σ H := M σ H _ S.env fun v H1 S1 d1 => by
  have hG := ne_of hG
  obtain rfl := dat_isInt d1
  obtain ⟨Hb, B1, B2, SB, bd⟩ := S.rebase S1
  refine ⟨((n : Nat) : Int), rfl, by omega, by omega, for_range (n := n) (fun j σ' H' => σ'.length = N ∧ ST Hi G i (ds ++ (List.range j).flatMap fF) σ' H') ⟨hN, by rw [List.range_zero, List.flatMap_nil, List.append_nil]; exact SB.base B1⟩ ?_ ?_⟩
  · rintro j σ' H' hj ⟨hN', g⟩
    rw [show ((0 : Int) + (j : Nat)) = ((j : Nat) : Int) from Int.zero_add _]
    have g1 := st_set g (Same.refl H') (.int ((j : Nat) : Int)) rfl hG hai (by rw [hN']; exact haN)
    refine body j _ _ H' _ hj (by rw [List.length_set, hN']) rfl g1 fun H2 g3 => ⟨by rw [List.length_set, hN'], ?_⟩
    rw [List.range_succ, List.flatMap_append, ← List.append_assoc]
    refine (g3.weak fun q hq => List.mem_cons_of_mem _ hq : ST Hi G i _ _ H2) |> fun z => ?_
    simpa using z
  · rintro σ' H' ⟨hN', g⟩
    exact k σ' H' hN' g
end
end KB
set_option maxRecDepth 100000
set_option maxHeartbeats 8000000
namespace KB
open PySem PySem.Spec PyProof.Rows L2
theorem sq_of {t R : TS} {D : Ends} {σ : L2.St} {H : Hp} (h : t { D with nx := R D } σ H) : tSeq t R D σ H := h
/-! ### tests of texts -/
section
variable {G : List (Nat × PyData)} {t u : TE}
theorem dat_strV {H : Hp} {v : V} {z : Str} (h : Dat H v (.str z)) : v = .str z := by
  cases h
  rfl
theorem mk_eqS {a b : Str} {c : Bool} (h : Mk G t (.str a)) (h2 : Mk G u (.str b)) (e : decide (V.str a = V.str b) = c) : Mk G (tOp rEq t u) (.bool c) := fun σ H Q E q => h σ H _ E fun v H1 S1 d1 => h2 σ H1 _ (E.same S1) fun v2 H2 S2 d2 => by
  obtain rfl := dat_strV d1
  obtain rfl := dat_strV d2
  refine ⟨rfl, ?_⟩
  rw [e]
  exact q _ H2 (S1.trans S2) (.bl c)
end
/-! ### the queries of rows -/
def totN (cs : Cn) : Nat := (cs.map (·.2)).sum
def qW (w : Str) (n : Nat) : List PyData := (List.range n).map fun p => .tuple [.str w, .int (p : Nat)]
def qSel (c : Str × Nat) : List PyData := (List.range c.2).map fun j => .tuple [.str "select", .str c.1, .int (j : Nat)]
def rowQ0 (cs : Cn) : List PyData := qW "letter" (totN cs) ++ qW "prefix" (totN cs + 1) ++ qW "entry" (totN cs)
def rowQ (cs : Cn) : List PyData := rowQ0 cs ++ cs.flatMap qSel
def qLoc (ns : List Str) : List PyData := ns.map fun z => .tuple [.str "locate", .str z]
def arrQ (ns : List Str) : List PyData := qW "entry" ns.length ++ qLoc ns
theorem qW_len (w : Str) (n : Nat) : (qW w n).length = n := by unfold qW; rw [List.length_map, List.length_range]
theorem qSel_len (c : Str × Nat) : (qSel c).length = c.2 := by unfold qSel; rw [List.length_map, List.length_range]
theorem sel_len : ∀ cs : Cn, (cs.flatMap qSel).length = totN cs
  | [] => rfl
  | c :: cs => by
    rw [List.flatMap_cons, List.length_append, sel_len cs, qSel_len]
    unfold totN
    rw [List.map_cons, List.sum_cons]
theorem qSel_noL (c : Str × Nat) : noLs (qSel c) = true := noLs_iff.mpr fun d hd => by
  unfold qSel at hd
  obtain ⟨k, _, rfl⟩ := List.mem_map.mp hd
  rfl
theorem tot_int (cs : Cn) : (cs.map fun c => (c.2 : Int)).sum = ((totN cs : Nat) : Int) := by
  induction cs with
  | nil => rfl
  | cons c cs ih =>
    rw [List.map_cons, List.sum_cons, ih]
    unfold totN
    rw [List.map_cons, List.sum_cons]
    omega
theorem names_ok : ∀ (n : Nat) (d : PyData), orderB n d = true → ∀ z ∈ namesN n d, nameS z = true
  | 0, _, _ => fun z h => by simp [namesN] at h
  | n + 1, d, h => by
    obtain ⟨d0, d1, rfl, hh⟩ := order_cases h
    have e : namesN (n + 1) (.tuple [d0, d1]) = if eqStr "item" d0 = true then [strOf d1] else (tupItems d1).flatMap (namesN n) := by rw [namesN]; rfl
    rw [e]
    rcases hh with ⟨h0, hn⟩ | ⟨h0, es, rfl, _, l6, hes⟩
    · rw [h0, if_pos rfl]
      intro z hz
      obtain rfl := List.mem_singleton.mp hz
      cases d1 with
      | str s => exact hn
      | _ => cases hn
    · rw [h0, if_neg Bool.false_ne_true]
      intro z hz
      obtain ⟨q, hq, hz⟩ := List.mem_flatMap.mp hz
      exact names_ok n q (hes q hq) z hz
theorem name_short {z : Str} (h : nameS z = true) : z.length ≤ 1000 := by have := (nameS_all h).2; omega
/-- a fresh list of data is handed on -/
def Fresh (H : Hp) (Q : VK) (ok : List PyData → Prop) : Prop := ∀ (L : Addr) (zs : List V) (ds : List PyData) (H' : Hp), H L = none → Same H H' → H' L = some (.lst zs) → DatAll H' zs ds → ok ds → Q (.ref L) H'
def selF : PyData × PyData → List PyData
  | (.str z, .int i) => qSel (z, i.toNat)
  | _ => []
theorem selF_all (cs : Cn) : (cs.map fun c => (PyData.str c.1, PyData.int (c.2 : Nat))).flatMap selF = cs.flatMap qSel := by
  induction cs with
  | nil => rfl
  | cons c cs ih =>
    rw [List.map_cons, List.flatMap_cons, List.flatMap_cons, ih]
    rfl
theorem flat_le {α β : Type} {f : α → List β} (l : List α) (i : Nat) : ((l.take i).flatMap f).length ≤ (l.flatMap f).length := by
  have z : l.flatMap f = (l.take i).flatMap f ++ (l.drop i).flatMap f := by rw [← List.flatMap_append, List.take_append_drop]
  rw [z, List.length_append]
  omega
theorem flat_mem {α β : Type} {f : α → List β} {l : List α} {a : α} (h : a ∈ l) : (f a).length ≤ (l.flatMap f).length := by
  obtain ⟨s, t, rfl⟩ := List.append_of_mem h
  rw [List.flatMap_append, List.flatMap_cons, List.length_append, List.length_append]
  omega
def isRow : S9 → Bool
  | .leaf (.word _) => true
  | .leaf (.arr _) => true
  | .dec _ _ => true
  | _ => false
def okRow : S9 → List PyData → Prop
  | .leaf (.word cs) => fun ds => ds = rowQ cs
  | .leaf (.arr o) => fun ds => ∃ ns, ns.Perm (namesN 6 o) ∧ ds = arrQ ns
  | .dec cs _ => fun ds => ds = rowQ cs
  | _ => fun _ => False
def spRowQs : Sp := fun vs H Q _ => ∃ (v : V) (s : S9), vs = [v] ∧ Dat H v (dt s) ∧ FineS s ∧ isRow s = true ∧ Fresh H Q (okRow s)
abbrev s_row_queries : Stmt := top 42
theorem row_cases {s : S9} (hf : FineS s) (hk : isRow s = true) : (∃ o, s = .leaf (.arr o)) ∨ ∃ (cs : Cn) (zk : Str) (rest : List PyData), decide (V.str zk = V.str "arrangement") = false ∧ dt s = .tuple (.str zk :: cntsD cs :: rest) ∧ cntsY cs = true ∧ (∀ ds, ds = rowQ cs → okRow s ds) ∧ cs.length ≤ 100 := by
  cases s with
  | leaf l =>
    cases l with
    | word cs =>
      have e1 := hf.sm
      rw [smS, Bool.and_eq_true] at e1
      have e2 := hf.ok
      rw [okS] at e2
      exact .inr ⟨cs, "word", [], by decide +kernel, by rw [dt]; rfl, e1.2, fun ds h => h, of_decide_eq_true e2⟩
    | arr o => exact .inl ⟨o, rfl⟩
    | _ => cases hk
  | row c xs => cases hk
  | pow n x => cases hk
  | dec cs xs =>
    have e2 := hf.ok
    rw [okS, Bool.and_eq_true, Bool.and_eq_true, Bool.and_eq_true] at e2
    have e1 := hf.ti
    rw [tinyS, Bool.and_eq_true] at e1
    obtain ⟨l3, l2⟩ := cnts_le e1.1
    refine .inr ⟨cs, "decorated", [.tuple (dts xs)], by decide +kernel, by rw [dt], ?_, fun ds h => h, of_decide_eq_true e2.2.1⟩
    unfold cntsY
    have e3 := e1.1
    unfold cntsZ at e3
    rw [Bool.and_eq_true, List.all_eq_true] at e3
    rw [Bool.and_eq_true, List.all_eq_true]
    refine ⟨decide_eq_true ?_, fun c hc => ?_⟩
    · have : ∀ l : Cn, (∀ c ∈ l, c.2 ≤ 2) → (l.map (·.2)).sum ≤ 2 * l.length := by
        intro l
        induction l with
        | nil => exact fun _ => Nat.le_refl _
        | cons c l ih =>
          intro hl
          have h1 := ih fun c hc => hl c (List.mem_cons_of_mem _ hc)
          have h2 := hl c List.mem_cons_self
          rw [List.map_cons, List.sum_cons, List.length_cons]
          omega
      have := this cs fun c hc => (l2 c hc).1
      omega
    · have := e3.2 c hc
      rw [Bool.and_eq_true] at this
      exact this.2
section
variable {P : Program} {w : World} {K : PySem.W.Frag} {mg : Str → Option Value} {base : Heap}
theorem sc_row_queries : FnScope ["_law_part", "_law_names_here", "_law_n", "_law_found", "_law_letter", "_law_often", "_law_p", "_law_name", "_law_j"] ["_law_part"] (defScope s_row_queries) := ⟨rfl, rfl, rfl, by decide +kernel, rfl, by decide +kernel, by decide +kernel⟩
theorem okl_rowq {f fN : Addr} {fd fdN : FuncData} (F : Fun K "_law_row_queries" "_law_row_queries" s_row_queries f fd) (T : Nm mg) (Ts : mg "sorted" = none) (D : DefOk K mg "_law_names" s_names ["_law_order_here"] fN fdN) : FnOk P w K mg base CX0 8 f fd ["_law_part"] spRowQs := by
  have G_names : FnOk P w K mg base CX0 7 fN fdN ["_law_order_here"] (spNames 6) := okl_names D.F D.b D.g 6
  refine F.ok sc_row_queries (fun vs H Q E h => ?_) (fun cdv A outer s H vs Q E hr h => ?_)
  · obtain ⟨v, s, rfl, _⟩ := h
    rfl
  · obtain ⟨v, sp, rfl, hv, hf, hk, q⟩ := h
    refine ⟨_, (pss_cons (ps_if (pt_cmpR op_eq (pe_ix ix_tup (pv 0) pe_int (fun _ _ => rfl)) pe_str (nomark _))
        (pss_cons (ps_set (i := 1) sc_row_queries.nd rfl (Or.inl rfl) (pe_callB cr_sortedS (by rfl) Ts (by decide +kernel) (pa_cons (pe_call G_names hr rfl D.g D.F.kp D.b .nil pass0 (pa_cons (pe_ix ix_tup (pv 0) pe_int (fun _ _ => rfl)) pa_nil)) pa_nil)))
        (pss_one (ps_ret (pe_op op_cat (pe_lc (own := [("_law_p", 6)]) (g := (gName 6)) (tt := tYes) rfl sc_row_queries.nd (pi_range1 rfl T.range (pa_cons (pe_callB cr_lenS (by rfl) T.len PySem.boot_len (pa_cons (pv 1) pa_nil)) pa_nil)) (blkOk_by (N := ["_law_part", "_law_names_here", "_law_n", "_law_found", "_law_letter", "_law_often", "_law_p", "_law_name", "_law_j"]) (sc := defScope s_row_queries) (by decide +kernel))
          (fun _ _ _ _ _ => (pg_name (i := 6) sc_row_queries.nd rfl (Or.inl rfl))) (fun _ _ _ _ _ => pts_nil) (fun _ _ _ _ _ => (pe_tupF (pa_cons pe_str (pa_cons (pv 6) pa_nil))))) (pe_lc (own := [("_law_name", 7)]) (g := (gName 7)) (tt := tYes) rfl sc_row_queries.nd (pi_list (pv 1)) (blkOk_by (N := ["_law_part", "_law_names_here", "_law_n", "_law_found", "_law_letter", "_law_often", "_law_p", "_law_name", "_law_j"]) (sc := defScope s_row_queries) (by decide +kernel))
          (fun _ _ _ _ _ => (pg_name (i := 7) sc_row_queries.nd rfl (Or.inl rfl))) (fun _ _ _ _ _ => pts_nil) (fun _ _ _ _ _ => (pe_tupF (pa_cons pe_str (pa_cons (pv 7) pa_nil)))))))))
        pss_nil)
      (pss_cons (ps_set (i := 2) sc_row_queries.nd rfl (Or.inl rfl) (pe_callB (cr_sum rfl) (by rfl) T.sum boot_sum (pa_cons (pe_lc (own := [("_law_letter", 4), ("_law_often", 5)]) (g := (gTup K 2 (gCons (gName 4) (gCons (gName 5) gNil)))) (tt := tYes) rfl sc_row_queries.nd (pi_tup (pe_ix ix_tup (pv 0) pe_int (fun _ _ => rfl))) (blkOk_by (N := ["_law_part", "_law_names_here", "_law_n", "_law_found", "_law_letter", "_law_often", "_law_p", "_law_name", "_law_j"]) (sc := defScope s_row_queries) (by decide +kernel))
          (fun _ _ _ _ _ => (pg_tup rfl (pgs_cons (pg_name (i := 4) sc_row_queries.nd rfl (Or.inl rfl)) (pgs_cons (pg_name (i := 5) sc_row_queries.nd rfl (Or.inl rfl)) pgs_nil)))) (fun _ _ _ _ _ => pts_nil) (fun _ _ _ _ _ => (pv 5))) pa_nil)))
      (pss_cons (ps_set (i := 3) sc_row_queries.nd rfl (Or.inl rfl) (pe_op op_cat (pe_lc (own := [("_law_p", 6)]) (g := (gName 6)) (tt := tYes) rfl sc_row_queries.nd (pi_range1 rfl T.range (pa_cons (pv 2) pa_nil)) (blkOk_by (N := ["_law_part", "_law_names_here", "_law_n", "_law_found", "_law_letter", "_law_often", "_law_p", "_law_name", "_law_j"]) (sc := defScope s_row_queries) (by decide +kernel))
          (fun _ _ _ _ _ => (pg_name (i := 6) sc_row_queries.nd rfl (Or.inl rfl))) (fun _ _ _ _ _ => pts_nil) (fun _ _ _ _ _ => (pe_tupF (pa_cons pe_str (pa_cons (pv 6) pa_nil))))) (pe_lc (own := [("_law_p", 6)]) (g := (gName 6)) (tt := tYes) rfl sc_row_queries.nd (pi_range1 rfl T.range (pa_cons (pe_op op_add (pv 2) pe_int) pa_nil)) (blkOk_by (N := ["_law_part", "_law_names_here", "_law_n", "_law_found", "_law_letter", "_law_often", "_law_p", "_law_name", "_law_j"]) (sc := defScope s_row_queries) (by decide +kernel))
          (fun _ _ _ _ _ => (pg_name (i := 6) sc_row_queries.nd rfl (Or.inl rfl))) (fun _ _ _ _ _ => pts_nil) (fun _ _ _ _ _ => (pe_tupF (pa_cons pe_str (pa_cons (pv 6) pa_nil)))))))
      (pss_cons (ps_set (i := 3) sc_row_queries.nd rfl (Or.inl rfl) (pe_op op_cat (pv 3) (pe_lc (own := [("_law_p", 6)]) (g := (gName 6)) (tt := tYes) rfl sc_row_queries.nd (pi_range1 rfl T.range (pa_cons (pv 2) pa_nil)) (blkOk_by (N := ["_law_part", "_law_names_here", "_law_n", "_law_found", "_law_letter", "_law_often", "_law_p", "_law_name", "_law_j"]) (sc := defScope s_row_queries) (by decide +kernel))
          (fun _ _ _ _ _ => (pg_name (i := 6) sc_row_queries.nd rfl (Or.inl rfl))) (fun _ _ _ _ _ => pts_nil) (fun _ _ _ _ _ => (pe_tupF (pa_cons pe_str (pa_cons (pv 6) pa_nil)))))))
      (pss_cons (ps_for PassesOwn.never rfl (pi_tup (pe_ix ix_tup (pv 0) pe_int (fun _ _ => rfl))) (pg_tup rfl (pgs_cons (pg_name (i := 4) sc_row_queries.nd rfl (Or.inr rfl)) (pgs_cons (pg_name (i := 5) sc_row_queries.nd rfl (Or.inl rfl)) pgs_nil)))
        (pss_one (ps_expr (pe_bm PySem.F.plainAttrs_list PySem.F.slot_list_extend PySem.F.type_list_extend mt_extend (pv 3) (pa_cons (pe_lc (own := [("_law_j", 8)]) (g := (gName 8)) (tt := tYes) rfl sc_row_queries.nd (pi_range1 rfl T.range (pa_cons (pv 5) pa_nil)) (blkOk_by (N := ["_law_part", "_law_names_here", "_law_n", "_law_found", "_law_letter", "_law_often", "_law_p", "_law_name", "_law_j"]) (sc := defScope s_row_queries) (by decide +kernel))
          (fun _ _ _ _ _ => (pg_name (i := 8) sc_row_queries.nd rfl (Or.inl rfl))) (fun _ _ _ _ _ => pts_nil) (fun _ _ _ _ _ => (pe_tupF (pa_cons pe_str (pa_cons (pv 4) (pa_cons (pv 8) pa_nil)))))) pa_nil)))))
      (pss_one (ps_ret (pv 3)))))))), ?_⟩
    rcases row_cases hf hk with ⟨o, rfl⟩ | ⟨cs, zk, rest, hz, he, hc, hok, hl⟩
    · rw [dt] at hv
      have ho : orderB 6 o = true := hf.ok
      have hz := hf.sm
      rw [smS, Bool.and_eq_true] at hz
      have hl : (namesN 6 o).length ≤ 60 := of_decide_eq_true hz.2
      have E0 : EnvOk [(0, ldt (.arr o))] ([some v] ++ List.replicate 8 none) H := fun p hp => by
        obtain rfl := List.mem_singleton.mp hp
        exact ⟨v, rfl, hv⟩
      have M : ∀ {j : Nat} {d : PyData}, [PyData.str "arrangement", o][j]? = some d → Mk [(0, ldt (.arr o))] (tOp (rIxT K) (tVar 0) (tC (.int (j : Nat)))) d := fun {j d} h => mk_ixT (ds := [.str "arrangement", o]) (mk_var List.mem_cons_self) rfl h
      refine sq_if1 (mkt (mk_eqS (M (j := 0) rfl) (mk_str (by decide)) (decide_eq_true rfl))) E0 fun H1 S1 => ?_
      refine M (j := 1) rfl _ H1 _ (E0.same S1) fun v1 H2 S2 d2 => ⟨v1, o, rfl, by decide, d2, ho, fun p H3 S3 n3 hp => ⟨p, namesN 6 o, rfl, SqL.of hp, by omega, fun ys p4 hperm hsort n4 => ?_⟩⟩
      have hly := hperm.length_eq
      have S4 := same_new (o := HO.lst (ys.map V.str)) n4
      have E4 : EnvOk [(1, .list (ys.map PyData.str)), (0, ldt (.arr o))] (([some v] ++ List.replicate 8 none).set 1 (some (.ref p4))) (upd H3 p4 (.lst (ys.map V.str))) := ((E0.same (((S1.trans S2).trans S3).trans S4))).put (fun p hp => by
        obtain rfl := List.mem_singleton.mp hp
        show 0 ≠ 1
        decide) (by show 1 < 9; decide) (.lst upd_same (strs_all _ ys fun z hz => name_short (names_ok 6 o ho z (hperm.mem_iff.mp hz))))
      have T4 := ((S1.trans S2).trans S3).trans S4
      generalize upd H3 p4 (.lst (ys.map V.str)) = H4 at E4 T4 ⊢
      refine rt_mkf (N := 9) (mkf_cat (MkF.n (mkf_range1 (n := ys.length) (f := fun p => .tuple [.str "entry", .int (p : Nat)]) (mk_lenL (mk_var List.mem_cons_self) (by rw [List.length_map])) (by omega) rfl (by decide) (fun j _ => mks_tup2 (mk_str (by decide)) (mk_var (List.mem_cons_self))) (fun _ _ => rfl)))
          (MkF.n (mkf_list (f := fun d => .tuple [.str "locate", d]) (mk_var List.mem_cons_self) (by rw [List.length_map]; omega) rfl (by decide) (fun j _ => mks_tup2 (mk_str (by decide)) (mk_var (List.mem_cons_self))) (fun d hd => by
            obtain ⟨z, _, rfl⟩ := List.mem_map.mp hd
            rfl))) (by simp only [List.length_map, List.length_range]; omega)) rfl E4 fun L zs H' n0 S e d => ?_
      refine q L zs _ H' (none_back T4 n0) (T4.trans S) e d ⟨ys, hperm, ?_⟩
      unfold arrQ qLoc qW
      rw [List.map_map]
      rfl
    · have q : Fresh H Q (fun ds => ds = rowQ cs) := fun L zs ds H' n0 S e d h => q L zs ds H' n0 S e d (hok ds h)
      rw [he] at hv
      unfold cntsY at hc
      rw [Bool.and_eq_true, List.all_eq_true] at hc
      have ht : totN cs ≤ 1000 := of_decide_eq_true hc.1
      have E0 : EnvOk [(0, PyData.tuple (.str zk :: cntsD cs :: rest))] ([some v] ++ List.replicate 8 none) H := fun p hp => by
        obtain rfl := List.mem_singleton.mp hp
        exact ⟨v, rfl, hv⟩
      have M1 : ∀ {G : List (Nat × PyData)}, (0, PyData.tuple (.str zk :: cntsD cs :: rest)) ∈ G → Mk G (tOp (rIxT K) (tVar 0) (tC (.int 1))) (.tuple (cs.map fun c => .tuple [.str c.1, .int (c.2 : Nat)])) := fun {G} hG => mk_ixT (j := 1) (mk_var hG) rfl rfl
      refine sq_if0 (mkt (mk_eqS (mk_ixT (j := 0) (mk_var (List.mem_cons_self)) rfl rfl) (mk_str (by decide)) hz)) E0 fun H1 S1 => ?_
      have E1 := E0.same S1
      refine sq_setN (N := 9) (d := .int ((totN cs : Nat) : Int)) ?_ rfl E1 rfl (by decide) fun v2 H2 S2 E2 => ?_
      · rw [← tot_int]
        refine mkn_sum ?_
        have m := mkf_pairs (N := 9) (K := K) (G := [(0, PyData.tuple (.str zk :: cntsD cs :: rest))]) (i := 4) (k := 5) (te := tVar 5) (ps := cs.map fun c => (PyData.str c.1, PyData.int (c.2 : Nat))) (f := fun p => p.2) (by
          rw [List.map_map]
          exact M1 List.mem_cons_self) (by rw [List.length_map]; omega) rfl rfl (by decide) (by decide) (by decide) (fun p _ => mk_var List.mem_cons_self) (fun p hp => by
          obtain ⟨c, _, rfl⟩ := List.mem_map.mp hp
          rfl)
        have e : (cs.map fun c => (PyData.str c.1, PyData.int (c.2 : Nat))).map (fun p => p.2) = (cs.map fun c => (c.2 : Int)).map PyData.int := by
          rw [List.map_map, List.map_map]
          rfl
        rw [e] at m
        exact m.n
      refine sq_setN (N := 9) (d := .list (qW "letter" (totN cs) ++ qW "prefix" (totN cs + 1))) ?_ rfl E2 rfl (by decide) fun v3 H3 S3 E3 => ?_
      · exact (mkf_cat (MkF.n (mkf_range1 (n := totN cs) (f := fun p => .tuple [.str "letter", .int (p : Nat)]) (mk_var (List.mem_cons_self)) (by omega) rfl (by decide) (fun j _ => mks_tup2 (mk_str (by decide)) (mk_var (List.mem_cons_self))) (fun _ _ => rfl)))
          (MkF.n (mkf_range1 (n := totN cs + 1) (f := fun p => .tuple [.str "prefix", .int (p : Nat)]) (mk_addN (y := 1) (mk_var (List.mem_cons_self)) mk_int rfl) (by omega) rfl (by decide) (fun j _ => mks_tup2 (mk_str (by decide)) (mk_var (List.mem_cons_self))) (fun _ _ => rfl))) (by simp only [List.length_map, List.length_range]; omega)).n
      refine sq_setF (N := 9) (Hi := H) (ds := rowQ0 cs) (G := [(2, .int ((totN cs : Nat) : Int)), (0, PyData.tuple (.str zk :: cntsD cs :: rest))]) (mkf_cat (mk_var (List.mem_cons_self)).n
          (MkF.n (mkf_range1 (n := totN cs) (f := fun p => .tuple [.str "entry", .int (p : Nat)]) (mk_var (List.mem_cons_of_mem _ List.mem_cons_self)) (by omega) rfl (by decide) (fun j _ => mks_tup2 (mk_str (by decide)) (mk_var (List.mem_cons_self))) (fun _ _ => rfl))) (by simp only [List.length_append, qW_len, List.length_map, List.length_range]; omega))
        rfl E3 ((S1.trans S2).trans S3) (fun p hp => List.mem_cons_of_mem _ hp) rfl (by decide) fun p4 H4 T4 => ?_
      have l0 : (rowQ0 cs).length = 3 * totN cs + 1 := by
        unfold rowQ0
        rw [List.length_append, List.length_append, qW_len, qW_len, qW_len]
        omega
      refine sq_of (for_pairs (N := 9) (K := K) (ps := cs.map fun c => (PyData.str c.1, PyData.int (c.2 : Nat))) (fF := selF) T4 rfl (by
        rw [List.map_map]
        exact M1 (List.mem_cons_of_mem _ List.mem_cons_self)) (by
        rw [List.map_map]
        exact cnts_noL cs) rfl rfl (by decide) (by decide) (by decide) (by decide) (by decide) ?_ ?_)
      · intro j p Hb acc σ' H' D' hp hN' hacc g k
        have hm := List.mem_of_getElem? hp
        obtain ⟨c, hc', rfl⟩ := List.mem_map.mp hm
        have lc := flat_mem (f := qSel) hc'
        rw [sel_len, qSel_len] at lc
        have la := flat_le (f := selF) (cs.map fun c => (PyData.str c.1, PyData.int (c.2 : Nat))) j
        rw [selF_all, sel_len] at la
        refine one_ext g hN' (mkf_range1 (n := c.2) (f := fun j => .tuple [.str "select", .str c.1, .int (j : Nat)]) (mk_var List.mem_cons_self) (by omega) rfl (by decide) (fun j _ => mks_tup3 (mk_str (by decide)) (mk_var (by simp)) (mk_var List.mem_cons_self)) (fun _ _ => rfl)) (qSel_noL c) ?_ k
        rw [hacc, List.length_append, l0, List.length_map, List.length_range]
        omega
      · intro σ' H' hN' g
        rw [selF_all] at g
        exact rt_st g fun L zs n0 S e d => q L zs _ H' n0 S e d rfl
end
end KB
set_option maxRecDepth 100000
set_option maxHeartbeats 8000000
namespace KB
open PySem PySem.Spec PyProof.Rows L2
/-! ### two growing lists -/
def hid (F L : Addr) (H : Hp) : Hp := noR F (noR L H)
theorem hid_sub {F L : Addr} {H : Hp} : Same (hid F L H) H := fun b o e => noR_sub b o (noR_sub b o e)
theorem hid_same {F L : Addr} {H H' : Hp} (S : Same H H') : Same (hid F L H) (hid F L H') := same_noR (same_noR S)
theorem hid_uF {F L : Addr} {H : Hp} {o : HO} : hid F L (upd H F o) = hid F L H := by
  unfold hid noR
  funext b
  by_cases e : b = F
  · rw [if_pos e, if_pos e]
  · rw [if_neg e, if_neg e, upd_ne e]
theorem hid_uL {F L : Addr} {H : Hp} {o : HO} : hid F L (upd H L o) = hid F L H := by
  unfold hid
  rw [noR_upd]
theorem dat_hid {F L : Addr} {H : Hp} {xs ys : List V} (hF : H F = some (.lst xs)) (hL : H L = some (.lst ys)) (ne : F ≠ L) {v : V} {d : PyData} (no : noL d = true) (h : Dat H v d) : Dat (hid F L H) v d := dat_noL (noR_at hF ne) no (dat_noL hL no h)
theorem datAll_hid {F L : Addr} {H : Hp} {xs ys : List V} (hF : H F = some (.lst xs)) (hL : H L = some (.lst ys)) (ne : F ≠ L) {vs : List V} {ds : List PyData} (no : noLs ds = true) (h : DatAll H vs ds) : DatAll (hid F L H) vs ds := dat_noLs (noR_at hF ne) no (dat_noLs hL no h)
theorem same_off {H Hx : Hp} {a : Addr} {o : HO} (n : H a = none) (S : Same H Hx) : Same H (upd Hx a o) := fun b u e => by
  rw [upd_ne (ne_of_none e n)]
  exact S b u e
section
variable {P : Program} {w : World} {K : PySem.W.Frag} {mg : Str → Option Value} {base : Heap}
end
end KB
set_option maxRecDepth 100000
set_option maxHeartbeats 4000000
namespace KB
open PySem PySem.Spec PyProof.Rows L2
/-! ### values as the makers give them -/
mutual
def fineB (s : Nat) : PyData → Bool
  | .int i => decide (i.natAbs < 10 ^ (40 + s))
  | .str x => x.cps.toList.all (fun c => decide (c < 128)) && decide (x.length ≤ 200 * (s + 1))
  | .list l => decide (1 ≤ s) && fineAll s l
  | .tuple l => fineAll s l
  | .dict kv => kv.isEmpty
  | .none => true
  | .bool _ => true
def fineAll (s : Nat) : List PyData → Bool
  | [] => true
  | d :: ds => fineB s d && fineAll s ds
end
mutual
def mass : PyData → Nat
  | .str x => 1 + x.cps.size
  | .list l => 1 + massAll l
  | .tuple l => 1 + massAll l
  | .dict _ => 1
  | .none => 1
  | .bool _ => 1
  | .int _ => 1
def massAll : List PyData → Nat
  | [] => 0
  | d :: ds => mass d + massAll ds
end
theorem fineAll_iff {s : Nat} : ∀ {l : List PyData}, fineAll s l = true ↔ ∀ d ∈ l, fineB s d = true
  | [] => by simp [fineAll]
  | a :: l => by simp [fineAll, fineAll_iff (l := l)]
theorem massAll_append : ∀ (a b : List PyData), massAll (a ++ b) = massAll a + massAll b
  | [], b => by simp [massAll]
  | x :: a, b => by
    rw [List.cons_append, massAll, massAll, massAll_append a b]
    omega
theorem depthAll_append : ∀ (a b : List PyData), PyData.depthAll (a ++ b) = max (PyData.depthAll a) (PyData.depthAll b)
  | [], b => by simp [PyData.depthAll]
  | x :: a, b => by
    rw [List.cons_append, PyData.depthAll, PyData.depthAll, depthAll_append a b]
    omega
theorem mass_pos (d : PyData) : 1 ≤ mass d := by
  cases d <;> simp only [mass] <;> omega
mutual
theorem fine_bulk {s : Nat} : ∀ d : PyData, fineB s d = true → d.bulk + 1 ≤ mass d
  | .str x, _ => by
    simp only [PyData.bulk, mass]
    omega
  | .list l, h => by
    have z := fine_bulkAll l (by rw [fineB, Bool.and_eq_true] at h; exact h.2)
    simp only [PyData.bulk, mass]
    omega
  | .tuple l, h => by
    have z := fine_bulkAll l (by simpa only [fineB] using h)
    simp only [PyData.bulk, mass]
    omega
  | .dict kv, h => by
    have e : kv = [] := by simpa [fineB] using h
    subst e
    simp [PyData.bulk, PyData.bulkKv, mass]
  | .none, _ => by simp [PyData.bulk, mass]
  | .bool _, _ => by simp [PyData.bulk, mass]
  | .int _, _ => by simp [PyData.bulk, mass]
theorem fine_bulkAll {s : Nat} : ∀ l : List PyData, fineAll s l = true → PyData.bulkAll l ≤ massAll l
  | [], _ => by simp [PyData.bulkAll, massAll]
  | d :: ds, h => by
    have h' : fineB s d = true ∧ fineAll s ds = true := by simpa [fineAll] using h
    have z := fine_bulk d h'.1
    have y := fine_bulkAll ds h'.2
    rw [PyData.bulkAll, massAll]
    omega
end
mutual
theorem fine_int {s : Nat} (hs : s ≤ 10) : ∀ d : PyData, fineB s d = true → okInt d
  | .int i, h => by
    have h' : i.natAbs < 10 ^ (40 + s) := by simpa [fineB] using h
    simp only [okInt]
    exact Nat.lt_of_lt_of_le h' (Nat.pow_le_pow_right (by decide) (by omega))
  | .list l, h => by
    simp only [okInt]
    exact fine_ints hs l (by rw [fineB, Bool.and_eq_true] at h; exact h.2)
  | .tuple l, h => by
    simp only [okInt]
    exact fine_ints hs l (by simpa only [fineB] using h)
  | .str _, _ => by simp [okInt]
  | .dict _, _ => by simp [okInt]
  | .none, _ => by simp [okInt]
  | .bool _, _ => by simp [okInt]
theorem fine_ints {s : Nat} (hs : s ≤ 10) : ∀ l : List PyData, fineAll s l = true → okInts l
  | [], _ => by simp [okInts]
  | d :: ds, h => by
    have h' : fineB s d = true ∧ fineAll s ds = true := by simpa [fineAll] using h
    simp only [okInts]
    exact ⟨fine_int hs d h'.1, fine_ints hs ds h'.2⟩
end
mutual
theorem fine_short {s : Nat} (hs : s ≤ 10) : ∀ d : PyData, fineB s d = true → d.leavesShort 60 = true
  | .int i, h => by
    have h' : i.natAbs < 10 ^ (40 + s) := by simpa [fineB] using h
    simp only [PyData.leavesShort]
    have z := int_text_length_le10 (a := i) (k := 40 + s) (by omega) h'
    refine decide_eq_true ?_
    simp only [PyData.shown]
    rw [PySem.ofString_length]
    omega
  | .str x, h => by
    have h' : x.cps.toList.all (fun c => decide (c < 128)) = true := by
      rw [fineB, Bool.and_eq_true] at h
      exact h.1
    simp only [PyData.leavesShort, List.all_eq_true, decide_eq_true_eq] at h' ⊢
    intro c hc
    have := h' c hc
    omega
  | .list l, h => by
    simp only [PyData.leavesShort]
    exact fine_shorts hs l (by rw [fineB, Bool.and_eq_true] at h; exact h.2)
  | .tuple l, h => by
    simp only [PyData.leavesShort]
    exact fine_shorts hs l (by simpa only [fineB] using h)
  | .dict kv, h => by
    have e : kv = [] := by simpa [fineB] using h
    subst e
    simp [PyData.leavesShort, PyData.leavesShortKv]
  | .none, _ => by simp [PyData.leavesShort]
  | .bool _, _ => by simp [PyData.leavesShort]
theorem fine_shorts {s : Nat} (hs : s ≤ 10) : ∀ l : List PyData, fineAll s l = true → PyData.leavesShortAll 60 l = true
  | [], _ => by simp [PyData.leavesShortAll]
  | d :: ds, h => by
    have h' : fineB s d = true ∧ fineAll s ds = true := by simpa [fineAll] using h
    simp only [PyData.leavesShortAll, Bool.and_eq_true]
    exact ⟨fine_short hs d h'.1, fine_shorts hs ds h'.2⟩
end
/-- what a maker gives: fine, and no larger than m, no deeper than n -/
structure Fine (s m n : Nat) (d : PyData) : Prop where
  f : fineB s d = true
  m : mass d ≤ m
  n : d.depth ≤ n
theorem Fine.mono {s m n m' n' : Nat} {d : PyData} (F : Fine s m n d) (hm : m ≤ m') (hn : n ≤ n') : Fine s m' n' d := ⟨F.f, Nat.le_trans F.m hm, Nat.le_trans F.n hn⟩
theorem tup_fine {s m n : Nat} {ds : List PyData} (h : ∀ d ∈ ds, fineB s d = true) (hm : massAll ds ≤ m) (hn : PyData.depthAll ds ≤ n) : Fine s (m + 1) (n + 1) (.tuple ds) := by
  refine ⟨?_, ?_, ?_⟩
  · rw [fineB]
    exact fineAll_iff.mpr h
  · simp only [mass]
    omega
  · simp only [PyData.depth]
    omega
mutual
theorem fine_up {s : Nat} : ∀ d : PyData, fineB s d = true → fineB (s + 1) d = true
  | .int i, h => by
    rw [fineB] at h ⊢
    exact decide_eq_true (Nat.lt_of_lt_of_le (of_decide_eq_true h) (Nat.pow_le_pow_right (by decide) (by omega)))
  | .str x, h => by
    rw [fineB, Bool.and_eq_true] at h
    rw [fineB, h.1]
    have := of_decide_eq_true h.2
    exact decide_eq_true (by omega)
  | .list l, h => by
    rw [fineB, Bool.and_eq_true] at h ⊢
    exact ⟨decide_eq_true (by omega), fine_ups l h.2⟩
  | .tuple l, h => by
    rw [fineB] at h ⊢
    exact fine_ups l h
  | .dict kv, h => by
    rw [fineB] at h ⊢
    exact h
  | .none, _ => by rw [fineB]
  | .bool _, _ => by rw [fineB]
theorem fine_ups {s : Nat} : ∀ l : List PyData, fineAll s l = true → fineAll (s + 1) l = true
  | [], _ => rfl
  | d :: l, h => by
    have h' : fineB s d = true ∧ fineAll s l = true := by simpa [fineAll] using h
    rw [fineAll, fine_up d h'.1, fine_ups l h'.2]
    rfl
end
theorem Fine.up {s m n : Nat} {d : PyData} (F : Fine s m n d) : Fine (s + 1) m n d := ⟨fine_up d F.f, F.m, F.n⟩
/-- a list of fine things, its mass, its depth -/
structure FineL (s m n : Nat) (ds : List PyData) : Prop where
  f : ∀ d ∈ ds, fineB s d = true
  m : massAll ds ≤ m
  n : PyData.depthAll ds ≤ n
theorem FineL.tup {s m n : Nat} {ds : List PyData} (F : FineL s m n ds) : Fine s (m + 1) (n + 1) (.tuple ds) := tup_fine F.f F.m F.n
theorem FineL.lst {s m n : Nat} {ds : List PyData} (F : FineL s m n ds) : Fine (s + 1) (m + 1) (n + 1) (.list ds) := by
  refine ⟨?_, ?_, ?_⟩
  · rw [fineB, Bool.and_eq_true]
    exact ⟨decide_eq_true (by omega), fine_ups _ (fineAll_iff.mpr F.f)⟩
  · have := F.m
    simp only [mass]
    omega
  · have := F.n
    simp only [PyData.depth]
    omega
theorem Fine.inv {s m n : Nat} {ds : List PyData} (F : Fine s m n (.tuple ds)) : 1 ≤ m ∧ 1 ≤ n ∧ FineL s (m - 1) (n - 1) ds := by
  have h1 := F.f
  have h2 := F.m
  have h3 := F.n
  rw [fineB] at h1
  simp only [mass] at h2
  simp only [PyData.depth] at h3
  exact ⟨by omega, by omega, fineAll_iff.mp h1, by omega, by omega⟩
theorem FineL.app {s m n m' n' : Nat} {ds es : List PyData} (F : FineL s m n ds) (G : FineL s m' n' es) : FineL s (m + m') (max n n') (ds ++ es) := by
  refine ⟨fun d hd => (List.mem_append.mp hd).elim (F.f d) (G.f d), ?_, ?_⟩
  · have a := F.m
    have b := G.m
    rw [massAll_append]
    omega
  · have a := F.n
    have b := G.n
    rw [depthAll_append]
    omega
theorem FineL.mono {s m n m' n' : Nat} {ds : List PyData} (F : FineL s m n ds) (h : m ≤ m') (h2 : n ≤ n') : FineL s m' n' ds := ⟨F.f, Nat.le_trans F.m h, Nat.le_trans F.n h2⟩
theorem FineL.one {s m n : Nat} {d : PyData} (F : Fine s m n d) : FineL s m n [d] := by
  refine ⟨fun e he => by rw [List.mem_singleton.mp he]; exact F.f, ?_, ?_⟩
  · have := F.m
    simp only [massAll]
    omega
  · have := F.n
    simp only [PyData.depthAll]
    omega
theorem mass_take (ds : List PyData) (k : Nat) : massAll (ds.take k) + massAll (ds.drop k) = massAll ds ∧ PyData.depthAll (ds.take k) ≤ PyData.depthAll ds ∧ PyData.depthAll (ds.drop k) ≤ PyData.depthAll ds := by
  have z := massAll_append (ds.take k) (ds.drop k)
  have y := depthAll_append (ds.take k) (ds.drop k)
  rw [List.take_append_drop] at z y
  omega
theorem FineL.take {s m n : Nat} {ds : List PyData} (F : FineL s m n ds) (k : Nat) : FineL s m n (ds.take k) := by
  obtain ⟨a, b, c⟩ := mass_take ds k
  have h1 := F.m
  have h2 := F.n
  exact ⟨fun d hd => F.f d (List.mem_of_mem_take hd), by omega, by omega⟩
theorem FineL.drop {s m n : Nat} {ds : List PyData} (F : FineL s m n ds) (k : Nat) : FineL s m n (ds.drop k) := by
  obtain ⟨a, b, c⟩ := mass_take ds k
  have h1 := F.m
  have h2 := F.n
  exact ⟨fun d hd => F.f d (List.mem_of_mem_drop hd), by omega, by omega⟩
theorem mass_rev : ∀ ds : List PyData, massAll ds.reverse = massAll ds ∧ PyData.depthAll ds.reverse = PyData.depthAll ds
  | [] => ⟨rfl, rfl⟩
  | d :: ds => by
    obtain ⟨a, b⟩ := mass_rev ds
    rw [List.reverse_cons, massAll_append, depthAll_append, a, b]
    simp only [massAll, PyData.depthAll]
    omega
theorem FineL.rev {s m n : Nat} {ds : List PyData} (F : FineL s m n ds) : FineL s m n ds.reverse := by
  obtain ⟨a, b⟩ := mass_rev ds
  have h1 := F.m
  have h2 := F.n
  exact ⟨fun d hd => F.f d (List.mem_reverse.mp hd), by omega, by omega⟩
theorem FineL.up {s m n : Nat} {ds : List PyData} (F : FineL s m n ds) : FineL (s + 1) m n ds := ⟨fun d hd => fine_up d (F.f d hd), F.m, F.n⟩
theorem FineL.mem {s m n : Nat} {ds : List PyData} (F : FineL s m n ds) {d : PyData} (h : d ∈ ds) : Fine s m n d := by
  have g1 : ∀ l : List PyData, d ∈ l → mass d ≤ massAll l ∧ d.depth ≤ PyData.depthAll l := fun l => by
    induction l with
    | nil => intro z; cases z
    | cons e l ih =>
      intro z
      rw [massAll, PyData.depthAll]
      rcases List.mem_cons.mp z with z | z
      · rw [z]
        omega
      · have := ih z
        omega
  have := g1 ds h
  have h1 := F.m
  have h2 := F.n
  exact ⟨F.f d h, by omega, by omega⟩
/-- DatAll of parts -/
theorem dat_take {H : Hp} {xs : List V} {ds : List PyData} (k : Nat) (h : DatAll H xs ds) : DatAll H (xs.take k) (ds.take k) := by
  induction k generalizing xs ds with
  | zero => exact .nil
  | succ k ih =>
    cases h with
    | nil => exact .nil
    | cons a t => exact .cons a (ih t)
theorem dat_drop {H : Hp} {xs : List V} {ds : List PyData} (k : Nat) (h : DatAll H xs ds) : DatAll H (xs.drop k) (ds.drop k) := by
  induction k generalizing xs ds with
  | zero => exact h
  | succ k ih =>
    cases h with
    | nil => exact .nil
    | cons a t => exact ih t
theorem dat_rev {H : Hp} {xs : List V} {ds : List PyData} (h : DatAll H xs ds) : DatAll H xs.reverse ds.reverse := by
  cases h with
  | nil => exact .nil
  | cons a t =>
    rw [List.reverse_cons, List.reverse_cons]
    exact datAll_append (dat_rev t) (.cons a .nil)
/-- any part of a tuple -/
theorem num_signs (i : Int) : ∀ c ∈ (Str.ofString (toString i)).cps.toList, c ≤ 57 := by
  intro c hc
  rw [signs_ofString] at hc
  obtain ⟨ch, hch, rfl⟩ := List.mem_map.mp hc
  rcases int_sign i ch hch with z | z
  · exact (digit_range z).2
  · rw [z]
    decide
theorem str_fine {s : Nat} {x : Str} (h1 : ∀ c ∈ x.cps.toList, c < 128) (h3 : x.length ≤ 200 * (s + 1)) : fineB s (.str x) = true := by
  rw [fineB, List.all_eq_true.mpr fun c hc => decide_eq_true (h1 c hc)]
  exact decide_eq_true h3
theorem int_up {s : Nat} {i j : Int} (hi : i.natAbs < 10 ^ (40 + s)) (h : j.natAbs ≤ 2 * i.natAbs + 2) : fineB (s + 1) (.int j) = true := by
  rw [fineB]
  refine decide_eq_true ?_
  have e : 10 ^ (40 + (s + 1)) = 10 ^ (40 + s) * 10 := by rw [show 40 + (s + 1) = (40 + s) + 1 by omega, Nat.pow_succ]
  have z : 1 < 10 ^ (40 + s) := Nat.lt_of_lt_of_le (show 1 < 10 ^ 1 by decide) (Nat.pow_le_pow_right (by decide) (by omega))
  rw [e]
  omega
theorem str_parts {s : Nat} {x : Str} (h : fineB s (.str x) = true) : (∀ c ∈ x.cps.toList, c < 128) ∧ x.length ≤ 200 * (s + 1) := by
  rw [fineB, Bool.and_eq_true] at h
  exact ⟨fun c hc => of_decide_eq_true (List.all_eq_true.mp h.1 c hc), of_decide_eq_true h.2⟩
theorem str_snoc {s : Nat} {x : Str} {c : Nat} (h : fineB s (.str x) = true) (hc : c < 128) (hs : s ≤ 3) : Fine (s + 1) (mass (.str x) + 1) 0 (.str (x ++ (⟨#[c]⟩ : Str))) ∧ (x ++ (⟨#[c]⟩ : Str)).length ≤ 1000 ∧ x.length + (⟨#[c]⟩ : Str).length ≤ sizeLine := by
  obtain ⟨h1, h3⟩ := str_parts h
  have e : (x ++ (⟨#[c]⟩ : Str)).cps.toList = x.cps.toList ++ [c] := by
    show (x.cps ++ #[c]).toList = _
    simp
  have l : (x ++ (⟨#[c]⟩ : Str)).length = x.length + 1 := by
    show (x.cps ++ #[c]).size = x.cps.size + 1
    simp
  refine ⟨⟨str_fine (fun d hd => ?_) (by omega), ?_, by simp [PyData.depth]⟩, by omega, ?_⟩
  · rw [e] at hd
    rcases List.mem_append.mp hd with z | z
    · exact h1 d z
    · obtain rfl : d = c := by simpa using z
      omega
  · have y1 : (x ++ (⟨#[c]⟩ : Str)).length = (x ++ (⟨#[c]⟩ : Str)).cps.size := rfl
    have y2 : x.length = x.cps.size := rfl
    simp only [mass]
    omega
  · have : (⟨#[c]⟩ : Str).length = 1 := rfl
    rw [sizeLine_eq]
    omega
theorem log_small {i : Int} {s : Nat} (hi : i.natAbs < 10 ^ (40 + s)) (hs : s ≤ 4) : i.natAbs.log2 < 1920 := by
  have z : i.natAbs < 2 ^ 1920 := Nat.lt_of_lt_of_le hi (Nat.le_trans (Nat.pow_le_pow_right (by decide) (show 40 + s ≤ 44 by omega)) (by decide +kernel))
  exact log2_small z
/-- what repr takes -/
theorem Fine.rep {s m n : Nat} {d : PyData} (F : Fine s m n d) (hs : s ≤ 10) (hm : m ≤ 100000) (hn : n ≤ 60) : RepOk d := by
  refine ⟨fine_int hs d F.f, Nat.le_trans F.n hn, ?_⟩
  have z := PyData.shown_le_bulk 60 (by decide) d (fine_short hs d F.f)
  have y := fine_bulk d F.f
  have x := F.m
  omega
end KB
set_option maxRecDepth 100000
set_option maxHeartbeats 8000000
namespace KB
open PySem PySem.Spec PyProof.Rows L2
/-! ### data apart from the deck -/
theorem tp_hide {H : Hp} {p q a : Addr} {b : Nat} {xs : List V} (D : Dk H p q b) (h : TP H a xs) : TP (hide p q H) a xs := by
  obtain ⟨ns, m, c, D, hc⟩ := D
  have n1 : a ≠ p := fun e => h.noL (e ▸ D.ob)
  have n2 : a ≠ q := fun e => h.noL (e ▸ D.ce)
  intro C g
  exact h C fun o e n => g o (hide_at e n1 n2) n
theorem fz_hide {H : Hp} {p q : Addr} {b : Nat} {v : V} (D : Dk H p q b) (h : Fz H v) : Fz (hide p q H) v := by
  obtain ⟨a, o, xs, e, h1, n⟩ := h
  obtain ⟨ns, m, c, D, hc⟩ := D
  have n1 : a ≠ p := fun e' => by
    rw [e', D.ob] at h1
    cases h1
  have n2 : a ≠ q := fun e' => by
    rw [e', D.ce] at h1
    cases h1
  exact ⟨a, o, xs, e, hide_at h1 n1 n2, n⟩
theorem hid_hide {p q : Addr} {H : Hp} : Same (hid p q H) (hide p q H) := fun b o e => by
  have e' := hid_sub b o e
  unfold hid noR at e
  by_cases h1 : b = p
  · rw [if_pos h1] at e
    cases e
  · rw [if_neg h1] at e
    by_cases h2 : b = q
    · rw [if_pos h2] at e
      cases e
    · exact hide_at e' h1 h2
theorem dat_hide {H : Hp} {p q : Addr} {b : Nat} (D : Dk H p q b) {v : V} {d : PyData} (h : Dat H v d) (no : noL d = true) : Dat (hide p q H) v d := by
  obtain ⟨ns, m, c, D, hc⟩ := D
  exact (dat_hid D.ob D.ce D.ne no h).same hid_hide
theorem datAll_hide {H : Hp} {p q : Addr} {b : Nat} (D : Dk H p q b) {vs : List V} {ds : List PyData} (h : DatAll H vs ds) (no : noLs ds = true) : DatAll (hide p q H) vs ds := by
  obtain ⟨ns, m, c, D, hc⟩ := D
  exact (datAll_hid D.ob D.ce D.ne no h).same hid_hide
mutual
theorem fzs_hide {H : Hp} {p q : Addr} {b : Nat} (D : Dk H p q b) : ∀ {s : S9} {v : V}, FzS H v s → FzS (hide p q H) v s
  | .leaf l, v, h => by
    rw [FzS] at h ⊢
    intro hw
    obtain ⟨a, z, v1, e, h1, h2⟩ := h hw
    exact ⟨a, z, v1, e, tp_hide D h1, fz_hide D h2⟩
  | .row c xs, v, h => by
    rw [FzS] at h ⊢
    obtain ⟨a, b, z, ys, e, h1, h2, h3⟩ := h
    exact ⟨a, b, z, ys, e, tp_hide D h1, tp_hide D h2, fzl_hide D h3⟩
  | .pow n x, v, h => by
    rw [FzS] at h ⊢
    obtain ⟨a, z, i, y, e, h1, h2⟩ := h
    exact ⟨a, z, i, y, e, tp_hide D h1, fzs_hide D h2⟩
  | .dec cs xs, v, h => by
    rw [FzS] at h ⊢
    obtain ⟨a, b, z, v1, ys, e, h1, h2, h3, h4⟩ := h
    exact ⟨a, b, z, v1, ys, e, tp_hide D h1, fz_hide D h2, tp_hide D h3, fzl_hide D h4⟩
theorem fzl_hide {H : Hp} {p q : Addr} {b : Nat} (D : Dk H p q b) : ∀ {xs : List S9} {ys : List V}, FzL H ys xs → FzL (hide p q H) ys xs
  | [], ys, h => by
    rw [FzL] at h ⊢
    exact h
  | x :: xs, ys, h => by
    rw [FzL] at h ⊢
    obtain ⟨y, r, e, h1, h2⟩ := h
    exact ⟨y, r, e, fzs_hide D h1, fzl_hide D h2⟩
end
theorem mkn_tupL {N : Nat} {K : PySem.W.Frag} {G : List (Nat × PyData)} {t : TE} {ds : List PyData} (h : MkN N G t (.list ds)) : MkN N G (tCB (rTupF K) (tCons t tNil)) (.tuple ds) := fun σ H Q hN E q => h σ H _ hN E fun v H1 S1 d1 => by
  obtain ⟨a, xs, rfl, ha, hx⟩ := dat_lst d1
  exact ⟨a, xs, rfl, SqL.of ha, fun l o nl no => q _ _ (S1.trans (same_new nl)) (.tup (TP.fz upd_same no) (hx.same (same_new nl)))⟩
/-! ### orders as the makers put them together -/
def itemD (x : Str) : PyData := .tuple [.str "item", .str x]
def joinD (w : Str) (ds : List PyData) : PyData := .tuple [.str w, .tuple ds]
def isSP (w : Str) : Prop := w = "series" ∨ w = "parallel"
theorem item_order (n : Nat) {x : Str} (h : nameB (.str x) = true) : orderB (n + 1) (itemD x) = true := by
  rw [orderB]
  have e1 : tupOf 2 2 (itemD x) = true := rfl
  have e2 : eqStr "item" (at0 (tupItems (itemD x)) 0) = true := by
    show (("item" : Str) == "item") = true
    decide +kernel
  rw [e1, e2, if_pos rfl, Bool.true_and]
  exact h
theorem item_names (n : Nat) (x : Str) : namesN (n + 1) (itemD x) = [x] := by
  rw [namesN]
  have e2 : eqStr "item" (at0 (tupItems (itemD x)) 0) = true := by
    show (("item" : Str) == "item") = true
    decide +kernel
  rw [e2, if_pos rfl]
  rfl
theorem fine_name {x : Str} (h : nameS x = true) : fineB 0 (.str x) = true ∧ mass (.str x) ≤ 7 := by
  obtain ⟨h1, h2⟩ := nameS_all h
  refine ⟨str_fine (fun c hc => ?_) (by omega), ?_⟩
  · have z := List.all_eq_true.mp h1 c hc
    have := (letter_le z).2
    omega
  · have e : x.length = x.cps.size := rfl
    simp only [mass]
    omega
theorem item_fine {x : Str} (h : nameS x = true) : Fine 0 13 1 (itemD x) := by
  obtain ⟨h1, h2⟩ := fine_name h
  have e : fineB 0 (.str "item") = true := by decide +kernel
  have m : mass (.str "item") = 5 := by decide +kernel
  refine ⟨?_, ?_, ?_⟩
  · unfold itemD
    rw [fineB, fineAll, fineAll, fineAll, e, h1]
    rfl
  · unfold itemD
    simp only [mass, massAll] at m h2 ⊢
    omega
  · unfold itemD
    simp [PyData.depth, PyData.depthAll]
theorem join_order (n : Nat) {w : Str} (hw : isSP w) {ds : List PyData} (h2 : 2 ≤ ds.length) (h6 : ds.length ≤ 6) (h : ∀ d ∈ ds, orderB n d = true) : orderB (n + 1) (joinD w ds) = true := by
  rw [orderB]
  have e1 : tupOf 2 2 (joinD w ds) = true := rfl
  have e2 : eqStr "item" (at0 (tupItems (joinD w ds)) 0) = false := by
    rcases hw with rfl | rfl
    · show (("series" : Str) == "item") = false
      decide +kernel
    · show (("parallel" : Str) == "item") = false
      decide +kernel
  have e3 : (eqStr "series" (at0 (tupItems (joinD w ds)) 0) || eqStr "parallel" (at0 (tupItems (joinD w ds)) 0)) = true := by
    rcases hw with rfl | rfl
    · show ((("series" : Str) == "series") || (("series" : Str) == "parallel")) = true
      decide +kernel
    · show ((("parallel" : Str) == "series") || (("parallel" : Str) == "parallel")) = true
      decide +kernel
  have e4 : tupOf 2 6 (at0 (tupItems (joinD w ds)) 1) = true := by
    show (decide ((2 : Int) ≤ (ds.length : Int)) && decide ((ds.length : Int) ≤ 6)) = true
    rw [decide_eq_true (by omega), decide_eq_true (by omega)]
    rfl
  have e5 : (tupItems (at0 (tupItems (joinD w ds)) 1)).all (orderB n) = true := by
    show ds.all (orderB n) = true
    exact List.all_eq_true.mpr h
  rw [e1, e2, if_neg Bool.false_ne_true, e3, e4, e5]
  rfl
theorem join_names (n : Nat) {w : Str} (hw : isSP w) (ds : List PyData) : namesN (n + 1) (joinD w ds) = ds.flatMap (namesN n) := by
  rw [namesN]
  have e2 : eqStr "item" (at0 (tupItems (joinD w ds)) 0) = false := by
    rcases hw with rfl | rfl
    · show (("series" : Str) == "item") = false
      decide +kernel
    · show (("parallel" : Str) == "item") = false
      decide +kernel
  rw [e2, if_neg Bool.false_ne_true]
  rfl
theorem join_fine {s : Nat} {w : Str} (hw : isSP w) {ds : List PyData} {m n : Nat} (h : ∀ d ∈ ds, fineB s d = true) (hm : massAll ds ≤ m) (hn : PyData.depthAll ds ≤ n) : Fine s (m + 11) (n + 2) (joinD w ds) := by
  have e : fineB s (.str w) = true := by
    have z : ∀ w : Str, isSP w → w.cps.toList.all (fun c => decide (c < 128)) = true ∧ w.length ≤ 8 := fun w hw => by
      rcases hw with rfl | rfl <;> decide +kernel
    obtain ⟨a, c⟩ := z w hw
    rw [fineB, a]
    exact decide_eq_true (by omega)
  have m9 : mass (.str w) ≤ 9 := by
    rcases hw with rfl | rfl <;> decide +kernel
  refine ⟨?_, ?_, ?_⟩
  · unfold joinD
    rw [fineB, fineAll, fineAll, fineAll, e, fineB, fineAll_iff.mpr h]
    rfl
  · unfold joinD
    simp only [mass, massAll] at m9 ⊢
    omega
  · unfold joinD
    simp only [PyData.depth, PyData.depthAll]
    omega
theorem items_mass : ∀ {ns : List Str}, (∀ x ∈ ns, nameS x = true) → massAll (ns.map itemD) ≤ 13 * ns.length ∧ PyData.depthAll (ns.map itemD) ≤ 1
  | [], _ => by simp [massAll, PyData.depthAll]
  | x :: ns, h => by
    obtain ⟨a, b⟩ := items_mass (ns := ns) fun y hy => h y (by simp [hy])
    have F := item_fine (h x (by simp))
    have f1 := F.m
    have f2 := F.n
    rw [List.map_cons, massAll, PyData.depthAll, List.length_cons]
    omega
theorem items_names (n : Nat) : ∀ ns : List Str, (ns.map itemD).flatMap (namesN (n + 1)) = ns
  | [] => rfl
  | x :: ns => by
    rw [List.map_cons, List.flatMap_cons, item_names, items_names n ns]
    rfl
theorem item_noL (x : Str) : noL (itemD x) = true := rfl
theorem items_noL (ns : List Str) : noLs (ns.map itemD) = true := noLs_iff.mpr fun d hd => by
  obtain ⟨x, _, rfl⟩ := List.mem_map.mp hd
  rfl
theorem join_noL (w : Str) {ds : List PyData} (h : noLs ds = true) : noL (joinD w ds) = true := by
  unfold joinD
  simp [noL, noLs, h]
end KB
set_option maxRecDepth 100000
set_option maxHeartbeats 8000000
namespace KB
open PySem PySem.Spec PyProof.Rows L2
/-! ### the law's order -/
abbrev s_order : Stmt := top 44
def spOrd (k : Nat) : Sp := fun vs H Q _ => ∃ (p q t : Addr) (b c : Nat) (ns : List Str), vs = [.ref p, .ref t] ∧ H t = some (.lst (ns.map .str)) ∧ t ≠ p ∧ t ≠ q ∧ 1 ≤ ns.length ∧ ns.length ≤ k + 1 ∧ k ≤ 5 ∧ (∀ x ∈ ns, nameS x = true) ∧ Dk H p q b ∧ b + 3 * ns.length ≤ c + 3 ∧ c ≤ 100000000 ∧
  ∀ (v : V) (d : PyData) (H' : Hp), Off p q H H' → Dk H' p q c → Dat (hide p q H') v d → noL d = true → orderB (k + 1) d = true → namesN (k + 1) d = ns → Fine 0 (30 * ns.length - 11) (2 * k + 1) d → Q v H'
section
variable {P : Program} {w : World} {K : PySem.W.Frag} {mg : Str → Option Value} {base : Heap}
theorem sc_order : FnScope ["_law_deck_here", "_law_names_here", "_law_at", "_law_word", "_law_name"] ["_law_deck_here", "_law_names_here"] (defScope s_order) := ⟨rfl, rfl, rfl, by decide +kernel, rfl, by decide +kernel, by decide +kernel⟩
theorem or_body {f fD fP : Addr} {fd fdD fdP : FuncData} {sp : Sp} (k : Nat) (F : Fun K "_law_order" "_law_order" s_order f fd) (bs : L2.Binds K fd ["_law_deck_here", "_law_names_here"] []) (g : mg "_law_order" = some (.ref f)) (G : FnOk P w K mg base CX0 (2 + k) f fd ["_law_deck_here", "_law_names_here"] sp) (T : Nm mg)
    (D_draw : DefOk K mg "_law_draw" sDraw ["_law_deck_here", "_law_bound"] fD fdD) (D_pick : DefOk K mg "_law_pick" sPick ["_law_deck_here", "_law_items"] fP fdP)
    (hn : ∀ m, k = m + 1 → ∀ vs H Q E, spOrd m vs H Q E → sp vs H Q E) : FnOk P w K mg base CX0 (3 + k) f fd ["_law_deck_here", "_law_names_here"] (spOrd k) := by
  have G_draw : FnOk P w K mg base CX0 1 fD fdD ["_law_deck_here", "_law_bound"] spDraw := ok_draw D_draw.F
  have G_pick : FnOk P w K mg base CX0 2 fP fdP ["_law_deck_here", "_law_items"] spPick := ok_pick D_pick.F T D_draw.F D_draw.b D_draw.g
  rw [show 3 + k = (2 + k) + 1 by omega]
  refine F.ok sc_order (fun vs H Q E h => ?_) (fun cdv A outer s H vs Q E hr h => ?_)
  · obtain ⟨p, q, t, b, c, ns, rfl, _⟩ := h
    rfl
  · obtain ⟨p, q, t, b, c, ns, rfl, ht, tp, tq, h1, hk, h20, hns, D, hb, hc, q1⟩ := h
    have hr1 : Room 1 _ := hr.mono (by omega)
    have hr2 : Room 2 _ := hr.mono (by omega)
    refine ⟨_, (pss_cons (ps_if (pt_cmpR op_eq (pe_callB cr_lenS (by rfl) T.len PySem.boot_len (pa_cons (pv 1) pa_nil)) pe_int (nomark _))
        (pss_one (ps_ret (pe_tupF (pa_cons pe_str (pa_cons (pe_ix ix_list (pv 1) pe_int (fun _ _ => rfl)) pa_nil)))))
        pss_nil)
      (pss_cons (ps_par (i := 2) (j := 3) rfl sc_order.nd rfl rfl (by decide) rfl rfl (pa_cons (pe_op op_add pe_int (pe_call G_draw hr1 rfl D_draw.g D_draw.F.kp D_draw.b .nil pass0 (pa_cons (pv 0) (pa_cons (pe_op op_sub (pe_callB cr_lenS (by rfl) T.len PySem.boot_len (pa_cons (pv 1) pa_nil)) pe_int) pa_nil)))) (pa_cons (pe_call G_pick hr2 rfl D_pick.g D_pick.F.kp D_pick.b .nil pass0 (pa_cons (pv 0) (pa_cons (pe_lst (pa_cons pe_str (pa_cons pe_str (pa_cons pe_str pa_nil)))) pa_nil))) pa_nil)) (by rfl))
      (C8.pss_cut (ps_if (PW.pt (pw_and (pt_cmpR op_gt (pe_callB cr_lenS (by rfl) T.len PySem.boot_len (pa_cons (pv 1) pa_nil)) pe_int (nomark _)) (pw_and1 (pt_cmpR op_eq (pe_call G_draw hr1 rfl D_draw.g D_draw.F.kp D_draw.b .nil pass0 (pa_cons (pv 0) (pa_cons pe_int pa_nil))) pe_int (nomark _)))))
        (pss_one (ps_ret (pe_tupF (pa_cons (pv 3) (pa_cons (pe_callTy call_tupF (by rfl) T.tuple (by decide +kernel) (pa_cons (pe_lc (own := [("_law_name", 4)]) (g := (gName 4)) (tt := tYes) rfl sc_order.nd (pi_list (pv 1)) (blkOk_by (N := ["_law_deck_here", "_law_names_here", "_law_at", "_law_word", "_law_name"]) (sc := defScope s_order) (by decide +kernel))
          (fun _ _ _ _ _ => (pg_name (i := 4) sc_order.nd rfl (Or.inl rfl))) (fun _ _ _ _ _ => pts_nil) (fun _ _ _ _ _ => (pe_tupF (pa_cons pe_str (pa_cons (pv 4) pa_nil))))) pa_nil)) pa_nil)))))
        pss_nil)
      (pss_one (ps_ret (pe_tupF (pa_cons (pv 3) (pa_cons (pe_tupF (pa_cons (pe_call G hr rfl g F.kp bs .nil pass0 (pa_cons (pv 0) (pa_cons (pe_slice sl_list (pv 1) po_none (po_some (pv 2))) pa_nil))) (pa_cons (pe_call G hr rfl g F.kp bs .nil pass0 (pa_cons (pv 0) (pa_cons (pe_slice sl_list (pv 1) (po_some (pv 2)) po_none) pa_nil))) pa_nil))) pa_nil)))))))), ?_⟩
    have hl : (ns.map V.str).length = ns.length := List.length_map ..
    refine ⟨_, rfl, t, _, rfl, .inl (SqL.of ht), rfl, _, rfl, ?_⟩
    by_cases e1 : ns.length = 1
    · obtain ⟨x, rfl⟩ : ∃ x, ns = [x] := List.length_eq_one_iff.mp e1
      have hx1 := hns x (by simp)
      refine if_t (decide_eq_true rfl) ?_
      refine ⟨_, rfl, t, _, _, _, rfl, rfl, SqL.of ht, atI_nat (j := 0) rfl, (by show 2 ≤ sizeLine; decide), fun a o na no => ?_⟩
      have S1 := same_new (o := HO.frz o (.tup [.str "item", .str x])) na
      have D1 := D.same S1
      have d1 : Dat (upd H a (.frz o (.tup [.str "item", .str x]))) (.ref a) (itemD x) := .tup (TP.fz upd_same no) (.cons (.str _ (by decide)) (.cons (.str _ (name_short hx1)) .nil))
      exact q1 _ (itemD x) _ (Off.of_same S1) (D1.mono (by omega)) (dat_hide D1 d1 rfl) rfl (item_order k hx1) (item_names k x) ((item_fine hx1).mono (by simp) (by omega))
    · refine if_f (decide_eq_false fun e => e1 ?_) ?_
      · have z := V.int.inj e
        rw [hl] at z
        omega
      obtain ⟨m, hm⟩ : ∃ m, k = m + 1 := by
        cases k with
        | zero => exact absurd hk (by omega)
        | succ m => exact ⟨m, rfl⟩
      -- at and the word
      refine ⟨_, rfl, _, rfl, t, _, rfl, .inl (SqL.of ht), _, _, rfl, rfl, ?_⟩
      dsimp only [tNil]
      refine draw_of (E := E0) (n := ((ns.map V.str).length : Int) - 1) D (by rw [hl]; omega) (by rw [hl]; omega) (by omega) fun i H1 hi O1 D1 => ⟨1, _, rfl, rfl, ?_⟩
      rw [hl] at hi
      have hl3 : (3 : Nat) ≤ sizeLine := by decide
      refine ⟨_, rfl, hl3, fun l nl => ?_⟩
      have S1 := same_new (o := HO.lst [.str "parallel", .str "parallel", .str "series"]) nl
      obtain ⟨lp, lq⟩ := D1.new nl
      have el : upd H1 l (.lst [.str "parallel", .str "parallel", .str "series"]) l = some (.lst [.str "parallel", .str "parallel", .str "series"]) := upd_same
      have Dl := D1.same S1
      generalize upd H1 l (.lst [.str "parallel", .str "parallel", .str "series"]) = H2 at S1 el Dl ⊢
      refine pick_of (E := E0) Dl el lp lq (by decide) (by decide) (by omega) fun j x H3 hx O3 D3 => ?_
      obtain ⟨wd, rfl, hwd⟩ : ∃ wd, x = V.str wd ∧ isSP wd := by
        match j, hx with
        | 0, hx => exact ⟨_, (Option.some.inj hx).symm, .inr rfl⟩
        | 1, hx => exact ⟨_, (Option.some.inj hx).symm, .inr rfl⟩
        | 2, hx => exact ⟨_, (Option.some.inj hx).symm, .inl rfl⟩
        | j + 3, hx => simp at hx
      have hwl : wd.length ≤ 1000 := by rcases hwd with rfl | rfl <;> decide
      have O03 := (O1.trans (Off.of_same S1)).trans O3
      refine ⟨_, _, rfl, ?_⟩
      refine ⟨fun σ H' => σ = [some (.ref p), some (.ref t), some (.int (1 + (i : Int))), some (.str wd), none] ∧ Off p q H H' ∧ Dk H' p q (b + 3), ?_, ?_⟩
      · have ht3 := O03 _ _ ht tp tq
        refine ⟨_, rfl, t, _, rfl, .inl (SqL.of ht3), _, _, rfl, rfl, _, rfl, ?_⟩
        by_cases e3 : 2 < ns.length
        · refine if_t (decide_eq_true (by rw [hl]; omega)) ⟨_, rfl, ?_⟩
          dsimp only [tCons, tNil, tC]
          refine draw_of (E := E0) (n := 3) D3 (by decide) (by decide) (by omega) fun z H4 hz O4 D4 => ⟨rfl, _, rfl, ?_⟩
          have O04 := O03.trans O4
          by_cases ez : z = 0
          · refine if_t (decide_eq_true (by rw [ez]; rfl)) ⟨_, rfl, ?_⟩
            have ht4 := O04 _ _ ht tp tq
            have E4 : EnvOk [(1, .list (ns.map PyData.str))] [some (.ref p), some (.ref t), some (.int (1 + (i : Int))), some (.str wd), none] H4 := fun pr hp => by
              obtain rfl := List.mem_singleton.mp hp
              exact ⟨_, rfl, .lst ht4 (strs_all _ ns fun z hz => name_short (hns z hz))⟩
            have M := mkn_tupL (N := 5) (K := K) (MkF.n (mkf_list (N := 5) (K := K) (i := 4) (te := tTupF (tCons (tC (.str "item")) (tCons (tVar 4) tNil))) (f := fun d => .tuple [.str "item", d]) (mk_var (G := [(1, .list (ns.map PyData.str))]) (i := 1) List.mem_cons_self) (by rw [List.length_map]; omega) rfl (by decide) (fun d _ => mks_tup2 (mk_str (by decide)) (mk_var List.mem_cons_self)) (fun d hd => by
              obtain ⟨z, _, rfl⟩ := List.mem_map.mp hd
              rfl)))
            have em : (ns.map PyData.str).map (fun d => PyData.tuple [.str "item", d]) = ns.map itemD := by
              rw [List.map_map]
              rfl
            rw [em] at M
            refine M _ H4 _ rfl E4 fun v1 H5 S5 d1 => ⟨(by show 2 ≤ sizeLine; decide), fun a2 o2 n2 nn2 => ?_⟩
            have S6 := same_new (o := HO.frz o2 (.tup [.str wd, v1])) n2
            have D6 := (D4.same S5).same S6
            have dB : Dat (upd H5 a2 (.frz o2 (.tup [.str wd, v1]))) (.ref a2) (joinD wd (ns.map itemD)) := .tup (TP.fz upd_same nn2) (.cons (.str _ hwl) (.cons (d1.same S6) .nil))
            have mj := items_mass (ns := ns) hns
            have nL := join_noL wd (items_noL ns)
            have jf := join_fine (s := 0) hwd (ds := ns.map itemD) (m := 13 * ns.length) (n := 1) (fun d hd => by
              obtain ⟨x, hx, rfl⟩ := List.mem_map.mp hd
              exact (item_fine (hns x hx)).f) mj.1 mj.2
            refine q1 _ (joinD wd (ns.map itemD)) _ ((O04.trans (.of_same S5)).trans (.of_same S6)) (D6.mono (by omega)) (dat_hide D6 dB nL) nL (join_order k hwd (by rw [List.length_map]; omega) (by rw [List.length_map]; omega) fun d hd => ?_) ?_ ⟨jf.f, Nat.le_trans jf.m (by omega), Nat.le_trans jf.n (by omega)⟩
            · obtain ⟨x, hx, rfl⟩ := List.mem_map.mp hd
              rw [hm]
              exact item_order m (hns x hx)
            · rw [join_names k hwd, hm, items_names]
          · exact if_f (decide_eq_false fun e => ez (by have := V.int.inj e; omega)) ⟨rfl, O04, D4.mono (by omega)⟩
        · exact if_f (decide_eq_false (by rw [hl]; omega)) (if_f rfl ⟨rfl, O03, D3.mono (by omega)⟩)
      · rintro σ H4 ⟨rfl, O4, D4⟩
        have ht4 := O4 _ _ ht tp tq
        have ei : (1 : Int) + (i : Int) = ((1 + i : Nat) : Int) := by omega
        obtain ⟨n1, hn1⟩ : ∃ n1, n1 = 1 + i := ⟨_, rfl⟩
        rw [← hn1] at ei
        refine ⟨_, rfl, _, rfl, _, rfl, _, rfl, (n1 : Int), congrArg V.int ei, t, _, rfl, SqL.of ht4, fun t1 nt1 => ?_⟩
        obtain ⟨t1p, t1q⟩ := D4.new nt1
        have et1 : upd H4 t1 (.lst (cutV (ns.map V.str) none (some (n1 : Int)))) t1 = some (.lst ((ns.take n1).map V.str)) := by rw [upd_same, cutV_to, List.map_take]
        have S5 := same_new (o := HO.lst (cutV (ns.map V.str) none (some (n1 : Int)))) nt1
        have D5 := D4.same S5
        generalize upd H4 t1 (.lst (cutV (ns.map V.str) none (some (n1 : Int)))) = H5 at et1 S5 D5 ⊢
        have l1 : (ns.take n1).length = n1 := by rw [List.length_take]; omega
        have l2 : (ns.drop n1).length = ns.length - n1 := List.length_drop ..
        refine hn m hm _ _ _ _ ⟨p, q, t1, b + 3, b + 3 * n1, ns.take n1, rfl, et1, t1p, t1q, by omega, by omega, by omega, fun x hx => hns x (List.mem_of_mem_take hx), D5, by omega, by omega, fun v1 d1 H6 O6 D6 da1 no1 or1 nm1 fi1 => ?_⟩
        have O26 := (O4.trans (.of_same S5)).trans O6
        have ht6 := O26 _ _ ht tp tq
        refine ⟨_, rfl, _, rfl, _, rfl, (n1 : Int), congrArg V.int ei, t, _, rfl, SqL.of ht6, fun t2 nt2 => ?_⟩
        obtain ⟨t2p, t2q⟩ := D6.new nt2
        have et2 : upd H6 t2 (.lst (cutV (ns.map V.str) (some (n1 : Int)) none)) t2 = some (.lst ((ns.drop n1).map V.str)) := by rw [upd_same, cutV_from, List.map_drop]
        have S7 := same_new (o := HO.lst (cutV (ns.map V.str) (some (n1 : Int)) none)) nt2
        have D7 := D6.same S7
        generalize upd H6 t2 (.lst (cutV (ns.map V.str) (some (n1 : Int)) none)) = H7 at et2 S7 D7 ⊢
        refine hn m hm _ _ _ _ ⟨p, q, t2, b + 3 * n1, c, ns.drop n1, rfl, et2, t2p, t2q, by omega, by omega, by omega, fun x hx => hns x (List.mem_of_mem_drop hx), D7, by omega, hc, fun v2 d2 H8 O8 D8 da2 no2 or2 nm2 fi2 => ⟨(by show 2 ≤ sizeLine; decide), fun a1 o1 na1 nn1 => ⟨(by show 2 ≤ sizeLine; decide), fun a2 o2 na2 nn2 => ?_⟩⟩⟩
        have Sa := same_new (o := HO.frz o1 (.tup [v1, v2])) na1
        have Sb := same_new (o := HO.frz o2 (.tup [.str wd, .ref a1])) na2
        have Db := (D8.same Sa).same Sb
        have dd1 := ((((da1.same (hide_same S7)).same (hide_off O8)).same (hide_sub _ _ _)).same Sa)
        have dd2 := ((da2.same (hide_sub _ _ _)).same Sa)
        have OA := (((O26.trans (.of_same S7)).trans O8).trans (.of_same Sa)).trans (.of_same Sb)
        have dB : Dat (upd (upd H8 a1 (.frz o1 (.tup [v1, v2]))) a2 (.frz o2 (.tup [.str wd, .ref a1]))) (.ref a2) (joinD wd [d1, d2]) := .tup (TP.fz upd_same nn2) (.cons (.str _ hwl) (.cons ((Dat.tup (TP.fz upd_same nn1) (.cons dd1 (.cons dd2 .nil))).same Sb) .nil))
        have nL : noL (joinD wd [d1, d2]) = true := join_noL wd (by simp [noLs, no1, no2])
        have m1 := fi1.m
        have m2 := fi2.m
        have g1 := fi1.n
        have g2 := fi2.n
        have eM : massAll [d1, d2] = mass d1 + mass d2 := by simp [massAll]
        have eN : PyData.depthAll [d1, d2] ≤ 2 * m + 1 := by
          simp only [PyData.depthAll]
          omega
        have jf := join_fine (s := 0) hwd (ds := [d1, d2]) (m := mass d1 + mass d2) (n := 2 * m + 1) (fun d hd => by
          rcases List.mem_cons.mp hd with rfl | hd
          · exact fi1.f
          · rcases List.mem_cons.mp hd with rfl | hd
            · exact fi2.f
            · cases hd) (Nat.le_of_eq eM) eN
        refine q1 _ (joinD wd [d1, d2]) _ OA (Db.mono (by omega)) (dat_hide Db dB nL) nL (join_order k hwd (by simp) (by simp) fun d hd => ?_) ?_ ⟨jf.f, Nat.le_trans jf.m (by omega), Nat.le_trans jf.n (by omega)⟩
        · rw [hm]
          rcases List.mem_cons.mp hd with rfl | hd
          · exact or1
          · rcases List.mem_cons.mp hd with rfl | hd
            · exact or2
            · cases hd
        · rw [join_names k hwd, hm, List.flatMap_cons, List.flatMap_cons, nm1, nm2, List.flatMap_nil, List.append_nil, List.take_append_drop]
theorem okl_order {f fD fP : Addr} {fd fdD fdP : FuncData} (F : Fun K "_law_order" "_law_order" s_order f fd) (bs : L2.Binds K fd ["_law_deck_here", "_law_names_here"] []) (g : mg "_law_order" = some (.ref f)) (T : Nm mg)
    (D_draw : DefOk K mg "_law_draw" sDraw ["_law_deck_here", "_law_bound"] fD fdD) (D_pick : DefOk K mg "_law_pick" sPick ["_law_deck_here", "_law_items"] fP fdP) : ∀ k : Nat, FnOk P w K mg base CX0 (3 + k) f fd ["_law_deck_here", "_law_names_here"] (spOrd k)
  | 0 => or_body (sp := fun _ _ _ _ => False) 0 F bs g fn_none T D_draw D_pick fun m e => by cases e
  | k + 1 => by
    have G := okl_order F bs g T D_draw D_pick k
    rw [show 3 + k = 2 + (k + 1) by omega] at G
    refine or_body (k + 1) F bs g G T D_draw D_pick fun m e vs H Q E h => ?_
    obtain rfl : k = m := Nat.succ.inj e
    exact h
end
end KB
set_option maxRecDepth 100000
set_option maxHeartbeats 8000000
namespace KB
open PySem PySem.Spec PyProof.Rows L2
theorem strs_noL (zs : List Str) : noLs (zs.map PyData.str) = true := noLs_iff.mpr fun e he => by
  obtain ⟨k, _, rfl⟩ := List.mem_map.mp he
  rfl
/-! ### a list that grows beside the deck -/
theorem dk_noR {H : Hp} {p q F : Addr} {b : Nat} (D : Dk H p q b) (hp : F ≠ p) (hq : F ≠ q) : Dk (noR F H) p q b := by
  obtain ⟨ns, m, c, D, hc⟩ := D
  exact ⟨ns, m, c, ⟨noR_at D.ob hp.symm, noR_at D.ce hq.symm, D.m0, D.m1, D.c0, D.c1, D.ln⟩, hc⟩
structure GD (Hb : Hp) (p q F : Addr) (b : Nat) (ds : List PyData) (Hx : Hp) : Prop where
  nF : Hb F = none
  O : Off p q Hb Hx
  D : Dk Hx p q b
  hp : F ≠ p
  hq : F ≠ q
  f : ∃ xs, Hx F = some (.lst xs) ∧ DatAll (hide p q (noR F Hx)) xs ds
theorem GD.start {H : Hp} {p q F : Addr} {b : Nat} (D : Dk H p q b) (nF : H F = none) : GD H p q F b [] (upd H F (.lst [])) where
  nF := nF
  O := Off.of_same (same_new nF)
  D := D.same (same_new nF)
  hp := (D.new nF).1
  hq := (D.new nF).2
  f := ⟨[], upd_same, .nil⟩
theorem GD.same {Hb Hx Hy : Hp} {p q F : Addr} {b : Nat} {ds : List PyData} (g : GD Hb p q F b ds Hx) (S : Same Hx Hy) : GD Hb p q F b ds Hy where
  nF := g.nF
  O := g.O.trans (Off.of_same S)
  D := g.D.same S
  hp := g.hp
  hq := g.hq
  f := by
    obtain ⟨xs, h, d⟩ := g.f
    exact ⟨xs, S _ _ h, d.same (hide_same (same_noR S))⟩
theorem GD.draw {Hb Hx Hy : Hp} {p q F : Addr} {b b' : Nat} {ds : List PyData} (g : GD Hb p q F b ds Hx) (O : Off p q Hx Hy) (D : Dk Hy p q b') : GD Hb p q F b' ds Hy where
  nF := g.nF
  O := g.O.trans O
  D := D
  hp := g.hp
  hq := g.hq
  f := by
    obtain ⟨xs, h, d⟩ := g.f
    exact ⟨xs, O _ _ h g.hp g.hq, d.same (noR_off O)⟩
theorem GD.mono {Hb Hx : Hp} {p q F : Addr} {b b' : Nat} {ds : List PyData} (g : GD Hb p q F b ds Hx) (h : b ≤ b') : GD Hb p q F b' ds Hx := ⟨g.nF, g.O, g.D.mono h, g.hp, g.hq, g.f⟩
theorem GD.add {Hb Hx : Hp} {p q F : Addr} {b : Nat} {ds es : List PyData} {zs : List V} (g : GD Hb p q F b ds Hx) (hz : DatAll Hx zs es) (no : noLs es = true) : ∃ xs, Hx F = some (.lst xs) ∧ xs.length = ds.length ∧ zs.length = es.length ∧ GD Hb p q F b (ds ++ es) (upd Hx F (.lst (xs ++ zs))) := by
  obtain ⟨xs, h, d⟩ := g.f
  refine ⟨xs, h, d.len, hz.len, g.nF, fun c o e h1 h2 => ?_, dk_upd g.D g.hp g.hq, g.hp, g.hq, xs ++ zs, upd_same, ?_⟩
  · rw [upd_ne (ne_of_none e g.nF)]
    exact g.O c o e h1 h2
  · rw [noR_upd]
    exact datAll_append d (datAll_hide (dk_noR g.D g.hp g.hq) (dat_noLs h no hz) no)
theorem GD.fin {Hb Hx : Hp} {p q F : Addr} {b : Nat} {ds : List PyData} (g : GD Hb p q F b ds Hx) : ∃ xs, Hx F = some (.lst xs) ∧ xs.length = ds.length ∧ DatAll Hx xs ds := by
  obtain ⟨xs, h, d⟩ := g.f
  exact ⟨xs, h, d.len, (d.same (hide_sub _ _ _)).same noR_sub⟩
/-! calls beside the deck -/
theorem call_v {sp : Sp} {E0 : XK} {i : Nat} {t : TE} {σ : L2.St} {H : Hp} {Q : VK} {x : V} (hi : σ[i]? = some (some x)) (h : t σ H fun v H1 => sp [x, v] H1 Q E0) : tCall sp [] E0 (tCons (tVar i) (tCons t tNil)) σ H Q := ⟨x, hi, h⟩
theorem call_1 {sp : Sp} {E0 : XK} {i : Nat} {σ : L2.St} {H : Hp} {Q : VK} {x : V} (hi : σ[i]? = some (some x)) (h : sp [x] H Q E0) : tCall sp [] E0 (tCons (tVar i) tNil) σ H Q := ⟨x, hi, h⟩
theorem draw_c {H : Hp} {p q : Addr} {b i : Nat} {n : Int} {σ : L2.St} {Q : VK} (hi : σ[i]? = some (some (.ref p))) (D : Dk H p q b) (h0 : 0 < n) (h1 : n ≤ 1000000) (hb : b < 100000000) (k : ∀ (i : Nat) (H' : Hp), (i : Int) < n → Off p q H H' → Dk H' p q (b + 1) → Q (.int (i : Nat)) H') :
    tCall spDraw [] E0 (tCons (tVar i) (tCons (tC (.int n)) tNil)) σ H Q := ⟨_, hi, draw_of (E := E0) D h0 h1 hb k⟩
/-- 1 + draw(deck, n) -/
theorem draw_1 {H : Hp} {p q : Addr} {b i : Nat} {n : Int} {σ : L2.St} {Q : VK} (hi : σ[i]? = some (some (.ref p))) (D : Dk H p q b) (h0 : 0 < n) (h1 : n ≤ 1000000) (hb : b < 100000000) (k : ∀ (i : Nat) (H' : Hp), (i : Int) < n → Off p q H H' → Dk H' p q (b + 1) → Q (.int (1 + (i : Int))) H') :
    tOp (rI0 fun i j => .int (i + j)) (tC (.int 1)) (tCall spDraw [] E0 (tCons (tVar i) (tCons (tC (.int n)) tNil))) σ H Q := ⟨_, hi, draw_of (E := E0) (Q := fun v H' => rI0 (fun i j => .int (i + j)) (.int 1) v H' Q) D h0 h1 hb fun i H' hi O D' => ⟨1, _, rfl, rfl, k i H' hi O D'⟩⟩
/-! ### counts -/
abbrev s_counts : Stmt := top 45
def letsD : List (List Str) := [["a", "b", "c"], ["ab", "b", "bc"], ["x", "y", "zzzzzz"]]
theorem lets_ok : ∀ ls ∈ letsD, ls.length = 3 ∧ ls.Nodup ∧ ∀ x ∈ ls, nameS x = true := by decide +kernel
/-- counts as the maker gives them -/
structure CnOk (cs : Cn) (m : Nat) : Prop where
  nd : (cs.map (·.1)).Nodup
  nm : ∀ c ∈ cs, nameS c.1 = true
  tot : totN cs ≤ m
  len : cs.length ≤ 3
def spCnts : Sp := fun vs H Q _ => ∃ (p q : Addr) (b m : Nat), vs = [.ref p, .int (m : Nat)] ∧ m ≤ 100 ∧ Dk H p q b ∧ b + 10 ≤ 100000000 ∧
  ∀ (v : V) (cs : Cn) (H' : Hp), Off p q H H' → Dk H' p q (b + 8) → Dat (hide p q H') v (cntsD cs) → Fz (hide p q H') v → CnOk cs m → Q v H'
theorem totN_app (a b : Cn) : totN (a ++ b) = totN a + totN b := by
  unfold totN
  rw [List.map_append, List.sum_append]
theorem take_sub {α : Type} {l : List α} {j : Nat} {x : α} (h : l[j]? = some x) : l.take (j + 1) = l.take j ++ [x] := by
  rw [List.take_add_one, h]
  rfl
section
variable {P : Program} {w : World} {K : PySem.W.Frag} {mg : Str → Option Value} {base : Heap}
theorem sc_counts : FnScope ["_law_deck_here", "_law_most", "_law_letters", "_law_found", "_law_left", "_law_letter", "_law_often"] ["_law_deck_here", "_law_most"] (defScope s_counts) := ⟨rfl, rfl, rfl, by decide +kernel, rfl, by decide +kernel, by decide +kernel⟩
theorem okl_counts {f fD fP : Addr} {fd fdD fdP : FuncData} (F : Fun K "_law_counts" "_law_counts" s_counts f fd) (T : Nm mg)
    (D_draw : DefOk K mg "_law_draw" sDraw ["_law_deck_here", "_law_bound"] fD fdD) (D_pick : DefOk K mg "_law_pick" sPick ["_law_deck_here", "_law_items"] fP fdP) : FnOk P w K mg base CX0 3 f fd ["_law_deck_here", "_law_most"] spCnts := by
  have G_draw : FnOk P w K mg base CX0 1 fD fdD ["_law_deck_here", "_law_bound"] spDraw := ok_draw D_draw.F
  have G_pick : FnOk P w K mg base CX0 2 fP fdP ["_law_deck_here", "_law_items"] spPick := ok_pick D_pick.F T D_draw.F D_draw.b D_draw.g
  refine F.ok sc_counts (fun vs H Q E h => ?_) (fun cdv A outer s H vs Q E hr h => ?_)
  · obtain ⟨p, q, b, m, rfl, _⟩ := h
    rfl
  · obtain ⟨p, q, b, m, rfl, hm, D, hb, k⟩ := h
    have hr1 : Room 1 _ := hr.mono (by decide)
    refine ⟨_, (pss_cons (ps_par3 (i := 2) (j := 3) (l := 4) rfl sc_counts.nd rfl rfl rfl (by decide) (by decide) (by decide) rfl rfl rfl (pa_cons (pe_call G_pick hr rfl D_pick.g D_pick.F.kp D_pick.b .nil pass0 (pa_cons (pv 0) (pa_cons (pe_lst (pd_cons (pd_tup (by decide) (pd_cons (pd_str (by decide) pe_str) (pd_cons (pd_str (by decide) pe_str) (pd_cons (pd_str (by decide) pe_str) pd_nil)))) (pd_cons (pd_tup (by decide) (pd_cons (pd_str (by decide) pe_str) (pd_cons (pd_str (by decide) pe_str) (pd_cons (pd_str (by decide) pe_str) pd_nil)))) (pd_cons (pd_tup (by decide) (pd_cons (pd_str (by decide) pe_str) (pd_cons (pd_str (by decide) pe_str) (pd_cons (pd_str (by decide) pe_str) pd_nil)))) pd_nil)))) pa_nil))) (pa_cons (pe_lst pa_nil) (pa_cons (pv 1) pa_nil))) (by rfl))
      (pss_cons (ps_for PassesOwn.never rfl (pi_tup (pe_slice sl_tupF (pv 2) po_none (po_some (pe_op op_add pe_int (pe_call G_draw hr1 rfl D_draw.g D_draw.F.kp D_draw.b .nil pass0 (pa_cons (pv 0) (pa_cons pe_int pa_nil))))))) (pg_name (i := 5) sc_counts.nd rfl (Or.inl rfl))
        (pss_cons (ps_set (i := 6) sc_counts.nd rfl (Or.inl rfl) (pe_op op_add pe_int (pe_call G_draw hr1 rfl D_draw.g D_draw.F.kp D_draw.b .nil pass0 (pa_cons (pv 0) (pa_cons pe_int pa_nil)))))
        (pss_one (ps_if (pt_cmpR op_le (pv 6) (pv 4) (nomark _))
          (pss_cons (ps_expr (pe_bm PySem.F.plainAttrs_list PySem.F.slot_list_append PySem.F.type_list_append mt_append (pv 3) (pa_cons (pe_tupF (pa_cons (pv 5) (pa_cons (pv 6) pa_nil))) pa_nil)))
          (pss_one (ps_set (i := 4) sc_counts.nd rfl (Or.inl rfl) (pe_op op_sub (pv 4) (pv 6)))))
          pss_nil))))
      (pss_one (ps_ret (pe_callTy call_tupF (by rfl) T.tuple (by decide +kernel) (pa_cons (pv 3) pa_nil)))))), ?_⟩
    refine ⟨_, rfl, fun ws H1 S1 hws => ⟨by rw [hws.len]; decide, fun l nl => ?_⟩⟩
    have hws : DatAll H1 ws (letsD.map fun ls => .tuple (ls.map PyData.str)) := hws
    have hwl := hws.len
    have S2 := same_new (o := HO.lst ws) nl
    have el : upd H1 l (.lst ws) l = some (.lst ws) := upd_same
    have hws2 := hws.same S2
    have D2 := (D.same S1).same S2
    have hlp := (D.same S1).new nl
    generalize upd H1 l (.lst ws) = H2 at el hws2 D2 S2 ⊢
    dsimp only [tNil]
    refine pick_of (E := E0) D2 el hlp.1 hlp.2 (by rw [hwl]; decide) (by rw [hwl]; decide) (by omega) fun j x H3 hx O3 D3 => ?_
    have O03 := (Off.of_same (p := p) (q := q) (S1.trans S2)).trans O3
    obtain ⟨d, hd, dx⟩ := hws2.get hx
    rw [List.getElem?_map] at hd
    obtain ⟨ls, hls, rfl⟩ := Option.map_eq_some_iff.mp hd
    obtain ⟨ll3, lnd, lnm⟩ := lets_ok ls (List.mem_of_getElem? hls)
    have dx3 : Dat (hide p q H3) x (.tuple (ls.map PyData.str)) := (dat_hide D2 dx (strs_noL ls)).same (hide_off O3)
    obtain ⟨ax, xs, rfl, hax, hxs⟩ := dat_tup dx3
    obtain rfl := dat_strs hxs
    refine ⟨(by show 0 ≤ sizeLine; decide), fun F nF => ⟨_, rfl, _, _, _, rfl, ?_⟩⟩
    have g0 := GD.start D3 nF
    have hax0 : TP (hide p q (upd H3 F (.lst []))) ax (ls.map V.str) := upR hax (hide_same (same_new nF))
    generalize upd H3 F (.lst []) = H4 at g0 hax0 ⊢
    -- the letters
    refine ⟨_, rfl, ?_⟩
    refine draw_1 (n := 3) rfl g0.D (by decide) (by decide) (by omega) fun i H5 hi O5 D5 => ⟨_, rfl, ?_⟩
    have g5 := g0.draw O5 D5
    have hax5 := upR hax0 (hide_off O5)
    refine slAny_of (upR hax5 (hide_sub _ _ _)) fun a2 H6 S6 ha2 => ?_
    have g6 := g5.same S6
    have e2 : cutV (ls.map V.str) none (some (1 + (i : Int))) = (ls.take (1 + i)).map V.str := by
      rw [show (1 : Int) + (i : Int) = ((1 + i : Nat) : Int) by omega, cutV_to, List.map_take]
    rw [e2] at ha2
    obtain ⟨xs6, hF6, _⟩ := g6.fin
    have hF6' : H6 F = some (.lst xs6) := hF6
    have hn2 : TP (hide p q (noR F H6)) a2 ((ls.take (1 + i)).map V.str) := tp_hide (dk_noR g6.D g6.hp g6.hq) (ha2.noR hF6')
    refine ⟨a2, rfl, ⟨_, sqT_rd ha2⟩, ?_⟩
    refine for_tup (K := K) (a := a2) (xs := (ls.take (1 + i)).map V.str) (fun j σ Hx => ∃ (cs : Cn) (lft : Nat) (w5 w6 : Option V), σ = [some (.ref p), some (.int (m : Nat)), some (.ref ax), some (.ref F), some (.int (lft : Nat)), w5, w6] ∧ GD H3 p q F (b + 2 + j) (cs.map cntD) Hx ∧ TP (hide p q (noR F Hx)) a2 ((ls.take (1 + i)).map V.str) ∧ (cs.map (·.1)).Sublist ((ls.take (1 + i)).take j) ∧ totN cs + lft ≤ m)
      ⟨[], m, none, none, rfl, g6.mono (by omega), hn2, by simp, by show 0 + m ≤ m; omega⟩ (fun j σ Hx _ ⟨_, _, _, _, _, _, ht, _⟩ => sqT_rd (upR (upR ht (hide_sub _ _ _)) noR_sub)) ?_ ?_
    · rintro j x Hσ Hx hj ⟨cs, lft, w5, w6, rfl, g, ht, hsub, htot⟩
      rw [List.getElem?_map] at hj
      obtain ⟨z, hz, rfl⟩ := Option.map_eq_some_iff.mp hj
      have hzm : z ∈ ls := List.mem_of_mem_take (List.mem_of_getElem? hz)
      have hjl := (List.getElem?_eq_some_iff.mp hz).1
      rw [List.length_take] at hjl
      refine draw_1 (n := 2) rfl g.D (by decide) (by decide) (by omega) fun i2 Hy hi2 Oy Dy => ?_
      have gy := g.draw Oy Dy
      have hty := upR ht (noR_off Oy)
      refine ⟨_, rfl, _, rfl, _, _, rfl, rfl, _, rfl, ?_⟩
      have hcl : cs.length ≤ j := by
        have := hsub.length_le
        rw [List.length_map, List.length_take, List.length_take] at this
        omega
      by_cases hle : 1 + i2 ≤ lft
      · refine if_t (decide_eq_true (by omega)) ?_
        obtain ⟨xs0, hF0, _⟩ := gy.fin
        refine ⟨_, rfl, .inl ⟨rfl, _, SqL.of hF0⟩, _, rfl, _, rfl, (by show 2 ≤ sizeLine; decide), fun t ot nt nto => ?_⟩
        have St := same_new (o := HO.frz ot (.tup [.str z, .int (1 + (i2 : Int))])) nt
        have ut : upd Hy t (.frz ot (.tup [.str z, .int (1 + (i2 : Int))])) t = some (.frz ot (.tup [.str z, .int (1 + (i2 : Int))])) := upd_same
        have gt := gy.same St
        have htt := upR hty (hide_same (same_noR St))
        generalize upd Hy t (.frz ot (.tup [.str z, .int (1 + (i2 : Int))])) = Hz at St ut gt htt ⊢
        have dz : DatAll Hz [.ref t] [cntD (z, 1 + i2)] := .cons (.tup (TP.fz ut nto) (.cons (.str _ (name_short (lnm z hzm))) (.cons (dat_int' (by show (1 : Int) + (i2 : Int) = ((1 + i2 : Nat) : Int); omega)) .nil))) .nil
        obtain ⟨xs, hF, hxl, _, g'⟩ := gt.add dz rfl
        rw [List.length_map] at hxl
        refine ⟨F, xs, _, rfl, rfl, hF, (by rw [sizeLine_eq]; omega), ⟨_, rfl, _, rfl, _, _, rfl, rfl, cs ++ [(z, 1 + i2)], lft - (1 + i2), some (.str z), some (.int (1 + (i2 : Int))), ?_, ?_, ?_, ?_, ?_⟩⟩
        · have el : ((lft - (1 + i2) : Nat) : Int) = ((lft : Nat) : Int) - (1 + (i2 : Int)) := by omega
          rw [el]
          rfl
        · rw [List.map_append]
          exact g'.mono (by omega)
        · rw [noR_upd]
          exact htt
        · rw [List.map_append, take_sub hz]
          exact hsub.append (List.Sublist.refl _)
        · rw [totN_app]
          show totN cs + (1 + i2 + 0) + _ ≤ m
          omega
      · refine if_f (decide_eq_false (by omega)) ⟨cs, lft, _, _, rfl, gy.mono (by omega), hty, ?_, htot⟩
        rw [take_sub hz]
        exact hsub.trans (List.sublist_append_left _ _)
    · rintro σ Hx ⟨cs, lft, w5, w6, rfl, g, ht, hsub, htot⟩
      have hls : ((ls.take (1 + i)).map V.str).length ≤ 3 := by
        rw [List.length_map, List.length_take]
        omega
      obtain ⟨xs, hF, hxl, dF⟩ := g.fin
      have sub2 : (cs.map (·.1)).Sublist ls := hsub.trans ((List.take_sublist _ _).trans (List.take_sublist _ _))
      refine ⟨_, rfl, F, xs, rfl, SqL.of hF, fun l2 o2 n2 no2 => ?_⟩
      have Sl := same_new (o := HO.frz o2 (.tup xs)) n2
      have Dl := g.D.same Sl
      have ul : upd Hx l2 (.frz o2 (.tup xs)) l2 = some (.frz o2 (.tup xs)) := upd_same
      refine k _ cs _ ((O03.trans g.O).trans (Off.of_same Sl)) (Dl.mono (by omega)) (dat_hide Dl (.tup (TP.fz ul no2) (dF.same Sl)) (cnts_noL cs)) (fz_hide Dl ⟨l2, o2, xs, rfl, ul, no2⟩) ⟨lnd.sublist sub2, fun c hc => lnm _ (sub2.subset (List.mem_map_of_mem hc)), by omega, ?_⟩
      have := sub2.length_le
      rw [List.length_map] at this
      omega
end
end KB
set_option maxRecDepth 100000
set_option maxHeartbeats 4000000
namespace KB
open PySem PySem.Spec PyProof.Rows L2
/-! ### lists made in layers -/
/-- a list known at a variable, new since Hi -/
def Fnd (Hi : Hp) (G : List (Nat × PyData)) (i : Nat) (ds : List PyData) (σ : L2.St) (H : Hp) : Prop :=
  ∃ (L : Addr) (zs : List V), σ[i]? = some (some (.ref L)) ∧ Hi L = none ∧ H L = some (.lst zs) ∧ DatAll H zs ds ∧ Same Hi H ∧ EnvOk G σ H
section
variable {N : Nat} {G : List (Nat × PyData)} {Hi : Hp} {i k : Nat} {d : PyData} {ds es : List PyData} {σ : L2.St} {H : Hp} {te : TE} {D : Ends} {R : TS}
theorem Fnd.env (f : Fnd Hi G i ds σ H) : EnvOk ((i, .list ds) :: G) σ H := fun p hp => by
  obtain ⟨L, zs, h1, h2, h3, h4, h5, h6⟩ := f
  rcases List.mem_cons.mp hp with rfl | hp
  · exact ⟨_, h1, .lst h3 h4⟩
  · exact h6 p hp
theorem Fnd.of (S : ST Hi G i ds σ H) : Fnd Hi G i ds σ H := by
  have E := S.env
  obtain ⟨L, zs, H0, h1, h2, h3, h4, h5, h6, h7⟩ := S
  exact ⟨L, zs, h1, none_back h4 h3, h2, h6.same h5, h4.trans h5, E⟩
theorem Fnd.base {Hb : Hp} (f : Fnd Hb G i ds σ H) (S : Same Hi Hb) : Fnd Hi G i ds σ H := by
  obtain ⟨L, zs, h1, h2, h3, h4, h5, h6⟩ := f
  exact ⟨L, zs, h1, none_back S h2, h3, h4, S.trans h5, h6⟩
theorem Fnd.weak {G' : List (Nat × PyData)} (f : Fnd Hi G i ds σ H) (h : ∀ p ∈ G', p ∈ G) : Fnd Hi G' i ds σ H := by
  obtain ⟨L, zs, h1, h2, h3, h4, h5, h6⟩ := f
  exact ⟨L, zs, h1, h2, h3, h4, h5, fun p hp => h6 p (h p hp)⟩
/-- one layer: longer = []; ..; found = longer -/
theorem lay_turn {tin : TS} (f : Fnd Hi G i ds σ H) (hN : σ.length = N) (hi : i < N) (hk : k < N) (hki : k ≠ i) (hGi : G.all (fun p => p.1 != i) = true) (hGk : G.all (fun p => p.1 != k) = true)
    (inner : ∀ (σ' : L2.St) (H' : Hp) (D' : Ends), σ'.length = N → ST H ((i, .list ds) :: G) k [] σ' H' → (∀ (σ2 : L2.St) (H2 : Hp), σ2.length = N → ST H ((i, .list ds) :: G) k es σ2 H2 → D'.nx σ2 H2) → tin D' σ' H')
    (kk : ∀ (σ' : L2.St) (H' : Hp), σ'.length = N → Fnd Hi G i es σ' H' → D.nx σ' H') : tSeq (tAsg (tLst tNil) (gName k)) (tSeq tin (tAsg (tVar k) (gName i))) D σ H := by
  have E := f.env
  have hkk : ∀ p ∈ (i, PyData.list ds) :: G, p.1 ≠ k := fun p hp => by
    rcases List.mem_cons.mp hp with rfl | hp
    · exact hki.symm
    · exact ne_of hGk p hp
  refine sq_new E (Same.refl H) mks_nil (by decide) hkk (by rw [hN]; exact hk) fun p H' S => ?_
  refine sq_of (inner _ _ _ (by rw [List.length_set, hN]) S fun σ2 H2 hN2 S2 => ?_)
  obtain ⟨L, zs, H0, h1, h2, h3, h4, h5, h6, h7⟩ := S2
  obtain ⟨_, _, _, _, _, _, g5, _⟩ := f
  refine ⟨_, h1, kk _ _ (by rw [List.length_set, hN2]) ⟨L, zs, List.getElem?_set_self (by rw [hN2]; exact hi), none_back (g5.trans h4) h3, h2, h6.same h5, g5.trans (h4.trans h5), ?_⟩⟩
  exact EnvOk.set (fun p hp => (h7.same h5) p (List.mem_cons_of_mem _ hp)) (ne_of hGi)
/-- for a in (a list that is known): another list grows -/
theorem for_lstV {K : PySem.W.Frag} {a c : Nat} {tb : TS} {ps : List PyData} {fF : PyData → List PyData} (S : ST Hi G k ds σ H) (hN : σ.length = N) (hc : (c, .list ps) ∈ G) (no : noLs ps = true)
    (hG : G.all (fun p => p.1 != a) = true) (hak : a ≠ k) (haN : a < N)
    (body : ∀ (j : Nat) (p : PyData) (Hb : Hp) (acc : List PyData) (σ' : L2.St) (H' : Hp) (D' : Ends), ps[j]? = some p → σ'.length = N → acc = ds ++ (ps.take j).flatMap fF → ST Hb ((a, p) :: G) k acc σ' H' → (∀ σ2 H2, σ2.length = N → ST Hb ((a, p) :: G) k (acc ++ fF p) σ2 H2 → D'.nx σ2 H2) → tb D' σ' H')
    (kk : ∀ (σ' : L2.St) (H' : Hp), σ'.length = N → ST Hi G k (ds ++ ps.flatMap fF) σ' H' → D.nx σ' H') : tFor (iList K (tVar c)) (gName a) tb D σ H := by
  have hG := ne_of hG
  obtain ⟨L, zs, H0, h1, h2, h3, h4, h5, h6, h7⟩ := S
  obtain ⟨v, hv, dv⟩ := h7 _ hc
  obtain ⟨a0, xs, rfl, ha, hx⟩ := dat_lst dv
  have hxl := hx.len
  have SB : ST H0 G k ds σ H := ⟨L, zs, H0, h1, h2, h3, Same.refl _, h5, h6, h7⟩
  refine ⟨_, hv, a0, rfl, ⟨_, SqL.of (h5 _ _ ha)⟩, for_list (K := K) (xs := xs) (fun j σ' H' => σ'.length = N ∧ ST H0 G k (ds ++ (ps.take j).flatMap fF) σ' H') ⟨hN, by rw [List.take_zero, List.flatMap_nil, List.append_nil]; exact SB⟩ (fun j σ' H' _ g => SqL.of (g.2.same _ _ ha)) ?_ ?_⟩
  · rintro j y σ' H' hy ⟨hN', g⟩
    obtain ⟨p, hp, dy⟩ := hx.get hy
    have g1 := st_set g (Same.refl H') (dy.same g.same) (noLs_iff.mp no _ (List.mem_of_getElem? hp)) hG hak (by rw [hN']; exact haN)
    refine body j p H0 _ _ H' _ hp (by rw [List.length_set, hN']) rfl g1 fun σ2 H2 hN2 g3 => ⟨hN2, ?_⟩
    rw [flat_succ hp, ← List.append_assoc]
    exact g3.weak fun q hq => List.mem_cons_of_mem _ hq
  · rintro σ' H' ⟨hN', g⟩
    rw [hxl, List.take_length] at g
    exact kk σ' H' hN' (g.base h4)
/-- found is returned -/
theorem rt_fnd (f : Fnd Hi G i ds σ H) (kk : ∀ (L : Addr) (zs : List V), Hi L = none → Same Hi H → H L = some (.lst zs) → DatAll H zs ds → D.rt (.ref L) H) : tRet (tVar i) D σ H := by
  obtain ⟨L, zs, h1, h2, h3, h4, h5, h6⟩ := f
  exact ⟨_, h1, kk L zs h2 h5 h3 h4⟩
end
section
variable {N : Nat} {G : List (Nat × PyData)} {t u te : TE} {tt : TT}
theorem filter_succ {α : Type} {f : Nat → α} {p : Nat → Bool} (j : Nat) : ((List.range (j + 1)).filter p).map f = ((List.range j).filter p).map f ++ (if p j = true then [f j] else []) := by
  rw [List.range_succ, List.filter_append, List.map_append]
  by_cases h : p j = true
  · rw [if_pos h, List.filter_cons_of_pos h]
    rfl
  · rw [if_neg h, List.filter_cons_of_neg h]
    rfl
/-- over range(n), with a test -/
theorem mkf_range1T {i n : Nat} {f : Nat → PyData} {p : Nat → Bool} (h : Mk G t (.int (n : Nat))) (hn : n ≤ 5000) (hG : G.all (fun p => p.1 != i) = true) (hi : i < N) (ht : ∀ j, j < n → MkT ((i, .int (j : Nat)) :: G) tt (p j)) (he : ∀ j, j < n → p j = true → Mk ((i, .int (j : Nat)) :: G) te (f j)) (hf : ∀ j, j < n → noL (f j) = true) :
    MkF N G (tLc (iRng1 (tCons t tNil)) (gName i) tt te [i]) (((List.range n).filter p).map f) := fun σ H Q hN E q => h σ H _ E fun v H1 S1 d1 => by
  have hG := ne_of hG
  obtain rfl := dat_isInt d1
  have E1 := (E.same S1).none hG
  refine ⟨((n : Nat) : Int), rfl, by omega, by omega, fun D nD => lc_range (n := n) (fun j Hz => Gr H1 D (((List.range j).filter p).map f) Hz) (Gr.start nD) ?_ ?_⟩
  · rintro j Hz hj g
    rw [show ((0 : Int) + (j : Nat)) = ((j : Nat) : Int) from Int.zero_add _]
    refine ⟨wipe_one, ?_⟩
    have E2 := (E1.same g.2.1).put hG (by rw [List.length_set, hN]; exact hi) (.int ((j : Nat) : Int))
    refine ht j hj _ Hz _ E2 fun H2 S2 => ?_
    have g2 := g.same S2
    rw [filter_succ]
    by_cases hp : p j = true
    · rw [if_pos hp, if_pos hp]
      refine he j hj hp _ H2 _ (E2.same S2) fun v4 H4 S4 d4 => ?_
      obtain ⟨xs, hL, hxl, _, g'⟩ := g2.add S4 (.cons d4 .nil) (by show noLs [f j] = true; simp [noLs, hf j hj])
      have hfl := List.length_filter_le p (List.range j)
      rw [List.length_map] at hxl
      rw [List.length_range] at hfl
      exact ⟨xs, hL, by rw [sizeLine_eq]; omega, g'⟩
    · rw [if_neg hp, if_neg hp, List.append_nil]
      exact g2
  · rintro Hz g
    obtain ⟨zs, H0, n0, S0, S2, e, d⟩ := gr_out g
    exact q D zs H0 Hz n0 (S1.trans S0) S2 e d
end
end KB
set_option maxRecDepth 100000
set_option maxHeartbeats 4000000
namespace L2
open PySem PySem.Spec PyProof.Rows
section
variable {X : Cx}
/-- a tuple beside an empty tuple -/
def rEmptyT : R2 := fun x y H Q => ∃ (a b : Addr) (xs : List V), x = .ref a ∧ y = .ref b ∧ KB.TP H a xs ∧ KB.TP H b [] ∧ Q (.bl xs.isEmpty) H
theorem op_emptyT (hu : X.A.units < cLine) : OpR X (compareOp .Eq) rEmptyT := by
  intro pins s σ H x y v u Q I rx ry h
  obtain ⟨a, b, xs, rfl, rfl, ha, hb, q⟩ := h
  cases rx
  cases ry
  obtain ⟨its, rv, p, _⟩ := I.tuple (KB.sqT_rd ha)
  obtain ⟨its2, rv2, p2, _⟩ := I.tuple (KB.sqT_rd hb)
  obtain rfl := nil_of rv2
  cases xs with
  | nil =>
    obtain rfl := nil_of rv
    exact SeqAt.eq_tupleAt (e := fun _ => true) p p2 hu (fun j h1 h2 => absurd h1 (Nat.not_lt_zero _)) ⟨.bl true, H, I, rfl, q⟩
  | cons x0 l =>
    cases rv with
    | cons r0 rs => exact SeqAt.eq_tupleAt (e := fun _ => true) p p2 hu (fun j h1 h2 => absurd h2 (Nat.not_lt_zero _)) ⟨.bl false, H, I, by simp [RelV], q⟩
end
end L2
namespace KB
open PySem PySem.Spec PyProof.Rows L2
/-! ### known data: any tuples -/
section
variable {N : Nat} {G : List (Nat × PyData)} {t u te : TE} {K : PySem.W.Frag}
theorem mk_catA {l1 l2 : List PyData} (h : Mk G t (.tuple l1)) (h2 : Mk G u (.tuple l2)) (hl : l1.length + l2.length ≤ 2000000) : Mk G (tOp (rCatF K) t u) (.tuple (l1 ++ l2)) := fun σ H Q E k =>
  h σ H _ E fun v H1 S1 d1 => h2 σ H1 _ (E.same S1) fun w H2 S2 d2 => by
    obtain ⟨a, xs, rfl, ha, hx⟩ := dat_tup (d1.same S2)
    obtain ⟨c, ys, rfl, hc, hy⟩ := dat_tup d2
    refine catA_of ha hc (by rw [hx.len, hy.len, sizeLine_eq]; omega) fun r Hr Sr hr => ?_
    exact k _ Hr ((S1.trans S2).trans Sr) (.tup hr (datAll_append (hx.same Sr) (hy.same Sr)))
theorem slf_to {r : V → Option Int → Option Int → Hp → VK → Prop} {te u : TE} {σ : L2.St} {H : Hp} {Q : VK} (h : te σ H fun x H1 => u σ H1 fun y H2 => ∃ i, y = .int i ∧ r x none (some i) H2 Q) : tSl r te tNoPart (tPart u) σ H Q := h
theorem slf_from {r : V → Option Int → Option Int → Hp → VK → Prop} {te u : TE} {σ : L2.St} {H : Hp} {Q : VK} (h : te σ H fun x H1 => u σ H1 fun y H2 => ∃ i, y = .int i ∧ r x (some i) none H2 Q) : tSl r te (tPart u) tNoPart σ H Q := h
theorem mk_slToA {ds : List PyData} {n : Nat} (h : Mk G t (.tuple ds)) (h2 : Mk G u (.int (n : Nat))) : Mk G (tSl (rSlF K) t tNoPart (tPart u)) (.tuple (ds.take n)) := fun σ H Q E k =>
  slf_to (h σ H _ E fun v H1 S1 d1 => h2 σ H1 _ (E.same S1) fun w H2 S2 d2 => by
    obtain rfl := dat_isInt d2
    obtain ⟨a, xs, rfl, ha, hx⟩ := dat_tup (d1.same S2)
    refine ⟨_, rfl, slAny_of ha fun c Hc Sc hc => ?_⟩
    rw [cutV_to] at hc
    exact k _ Hc ((S1.trans S2).trans Sc) (.tup hc (dat_take n (hx.same Sc))))
theorem mk_slFromA {ds : List PyData} {n : Nat} (h : Mk G t (.tuple ds)) (h2 : Mk G u (.int (n : Nat))) : Mk G (tSl (rSlF K) t (tPart u) tNoPart) (.tuple (ds.drop n)) := fun σ H Q E k =>
  slf_from (h σ H _ E fun v H1 S1 d1 => h2 σ H1 _ (E.same S1) fun w H2 S2 d2 => by
    obtain rfl := dat_isInt d2
    obtain ⟨a, xs, rfl, ha, hx⟩ := dat_tup (d1.same S2)
    refine ⟨_, rfl, slAny_of ha fun c Hc Sc hc => ?_⟩
    rw [cutV_from] at hc
    exact k _ Hc ((S1.trans S2).trans Sc) (.tup hc (dat_drop n (hx.same Sc))))
theorem atI_last {α : Type} {xs : List α} {x : α} (h : xs.getLast? = some x) : atI xs (-1) = some x := by
  have hl : xs ≠ [] := fun e => by rw [e] at h; cases h
  have hp := List.length_pos_iff.mpr hl
  have e : ixN xs.length (-1) = some (xs.length - 1) := by
    unfold ixN
    rw [if_neg (by decide), if_pos (by omega)]
    congr 1
    omega
  unfold atI
  rw [e]
  rw [List.getLast?_eq_getElem?] at h
  exact h
theorem datAll_last {H : Hp} {xs : List V} {ds : List PyData} {d : PyData} (h : DatAll H xs ds) (hd : ds.getLast? = some d) : ∃ x, xs.getLast? = some x ∧ Dat H x d := by
  rw [List.getLast?_eq_getElem?] at hd
  obtain ⟨x, hx, dx⟩ := h.at hd
  exact ⟨x, by rw [List.getLast?_eq_getElem?, h.len]; exact hx, dx⟩
/-- t[-1] of a tuple -/
theorem mk_lastT {ds : List PyData} {d : PyData} (h : Mk G t (.tuple ds)) (hd : ds.getLast? = some d) : Mk G (tOp (rIxT K) t (tUn (rU fun i => .int (-i)) (tC (.int 1)))) d := fun σ H Q E q => h σ H _ E fun v H1 S1 d1 => by
  obtain ⟨a, xs, rfl, ha, hx⟩ := dat_tup d1
  obtain ⟨x, hl, dx⟩ := datAll_last hx hd
  exact ⟨1, rfl, a, xs, -1, x, rfl, rfl, sqT_rd ha, atI_last hl, q _ H1 S1 dx⟩
/-- t == () -/
theorem mkt_emptyT {ds : List PyData} (h : Mk G t (.tuple ds)) : MkT G (tTest (tOp rEmptyT t (tTupF tNil))) ds.isEmpty := fun σ H Q E q => h σ H _ E fun v H1 S1 d1 => by
  obtain ⟨a, xs, rfl, ha, hx⟩ := dat_tup d1
  refine ⟨(by show 0 ≤ sizeLine; decide), fun e o ne no => ⟨a, e, xs, rfl, rfl, upR ha (same_new ne), TP.fz upd_same no, _, rfl, ?_⟩⟩
  have e2 : xs.isEmpty = ds.isEmpty := by
    cases hx with
    | nil => rfl
    | cons a b => rfl
  rw [e2]
  exact q _ (S1.trans (same_new ne))
theorem mkt_or {a b : TT} {x y : Bool} (h : MkT G a x) (h2 : x = false → MkT G b y) : MkT G (tOr a b) (x || y) := fun σ H Q E q => h σ H _ E fun H1 S1 => by
  cases x with
  | true => exact if_t rfl (q H1 S1)
  | false => exact if_f rfl (h2 rfl σ H1 Q (E.same S1) fun H2 S2 => q H2 (S1.trans S2))
end
section
variable {N : Nat} {G : List (Nat × PyData)} {Hi : Hp} {i k : Nat} {d : PyData} {ds es : List PyData} {σ : L2.St} {H : Hp} {te : TE} {D : Ends} {R : TS}
/-- for a in (a list that is known, made of some r): another list grows -/
theorem for_lstM {α : Type} {g : α → PyData} {K : PySem.W.Frag} {a c : Nat} {tb : TS} {rs : List α} {fF : α → List PyData} (S : ST Hi G k ds σ H) (hN : σ.length = N) (hc : (c, .list (rs.map g)) ∈ G) (no : ∀ r ∈ rs, noL (g r) = true)
    (hG : G.all (fun p => p.1 != a) = true) (hak : a ≠ k) (haN : a < N)
    (body : ∀ (j : Nat) (r : α) (Hb : Hp) (acc : List PyData) (σ' : L2.St) (H' : Hp) (D' : Ends), rs[j]? = some r → σ'.length = N → acc = ds ++ (rs.take j).flatMap fF → ST Hb ((a, g r) :: G) k acc σ' H' → (∀ σ2 H2, σ2.length = N → ST Hb ((a, g r) :: G) k (acc ++ fF r) σ2 H2 → D'.nx σ2 H2) → tb D' σ' H')
    (kk : ∀ (σ' : L2.St) (H' : Hp), σ'.length = N → ST Hi G k (ds ++ rs.flatMap fF) σ' H' → D.nx σ' H') : tFor (iList K (tVar c)) (gName a) tb D σ H := by
  have hG := ne_of hG
  obtain ⟨L, zs, H0, h1, h2, h3, h4, h5, h6, h7⟩ := S
  obtain ⟨v, hv, dv⟩ := h7 _ hc
  obtain ⟨a0, xs, rfl, ha, hx⟩ := dat_lst dv
  have hxl := hx.len
  rw [List.length_map] at hxl
  have SB : ST H0 G k ds σ H := ⟨L, zs, H0, h1, h2, h3, Same.refl _, h5, h6, h7⟩
  refine ⟨_, hv, a0, rfl, ⟨_, SqL.of (h5 _ _ ha)⟩, for_list (K := K) (xs := xs) (fun j σ' H' => σ'.length = N ∧ ST H0 G k (ds ++ (rs.take j).flatMap fF) σ' H') ⟨hN, by rw [List.take_zero, List.flatMap_nil, List.append_nil]; exact SB⟩ (fun j σ' H' _ g => SqL.of (g.2.same _ _ ha)) ?_ ?_⟩
  · rintro j y σ' H' hy ⟨hN', g0⟩
    obtain ⟨p, hp, dy⟩ := hx.get hy
    rw [List.getElem?_map] at hp
    obtain ⟨r, hr, rfl⟩ := Option.map_eq_some_iff.mp hp
    have g1 := st_set g0 (Same.refl H') (dy.same g0.same) (no r (List.mem_of_getElem? hr)) hG hak (by rw [hN']; exact haN)
    refine body j r H0 _ _ H' _ hr (by rw [List.length_set, hN']) rfl g1 fun σ2 H2 hN2 g3 => ⟨hN2, ?_⟩
    rw [flat_succ hr, ← List.append_assoc]
    exact g3.weak fun q hq => List.mem_cons_of_mem _ hq
  · rintro σ' H' ⟨hN', g⟩
    rw [hxl, List.take_length] at g
    exact kk σ' H' hN' (g.base h4)
end
end KB
set_option maxRecDepth 100000
set_option maxHeartbeats 8000000
namespace KB
open PySem PySem.Spec PyProof.Rows L2
/-! ### subsets -/
theorem Fnd.same {G : List (Nat × PyData)} {Hi : Hp} {i : Nat} {ds : List PyData} {σ : L2.St} {H H' : Hp} (f : Fnd Hi G i ds σ H) (S : Same H H') : Fnd Hi G i ds σ H' := by
  obtain ⟨L, zs, h1, h2, h3, h4, h5, h6⟩ := f
  exact ⟨L, zs, h1, h2, S _ _ h3, h4.same S, h5.trans S, h6.same S⟩
theorem Fnd.skip {G : List (Nat × PyData)} {Hi : Hp} {i j : Nat} {x : Option V} {ds : List PyData} {σ : L2.St} {H : Hp} (f : Fnd Hi G i ds σ H) (hG : G.all (fun p => p.1 != j) = true) (hij : j ≠ i) : Fnd Hi G i ds (σ.set j x) H := by
  obtain ⟨L, zs, h1, h2, h3, h4, h5, h6⟩ := f
  refine ⟨L, zs, by rw [List.getElem?_set_ne hij]; exact h1, h2, h3, h4, h5, fun p hp => ?_⟩
  obtain ⟨v, hv, dv⟩ := h6 p hp
  exact ⟨v, by rw [List.getElem?_set_ne (ne_of hG p hp).symm]; exact hv, dv⟩
def rowD (r : List Nat) : PyData := .tuple (r.map fun (i : Nat) => PyData.int (i : Int))
theorem rowD_noL (r : List Nat) : noL (rowD r) = true := noLs_iff.mpr fun d hd => by
  obtain ⟨k, _, rfl⟩ := List.mem_map.mp hd
  rfl
theorem rowsD_noL (rs : List (List Nat)) : noLs (rs.map rowD) = true := noLs_iff.mpr fun d hd => by
  obtain ⟨k, _, rfl⟩ := List.mem_map.mp hd
  exact rowD_noL k
def risesN (r : List Nat) (p : Nat) : Bool := r.isEmpty || decide (r.getLastD 0 < p)
def stepS (n : Nat) (r : List Nat) : List (List Nat) := ((List.range n).filter (risesN r)).map fun p => r ++ [p]
def subsM (n : Nat) : Nat → List (List Nat)
  | 0 => [[]]
  | k + 1 => (subsM n k).flatMap (stepS n)
theorem stepS_len (n : Nat) (r : List Nat) : (stepS n r).length ≤ n := by
  unfold stepS
  rw [List.length_map]
  exact Nat.le_trans (List.length_filter_le _ _) (by rw [List.length_range]; exact Nat.le_refl _)
theorem flat_bound {α β : Type} {f : α → List β} {m : Nat} : ∀ (l : List α), (∀ x ∈ l, (f x).length ≤ m) → (l.flatMap f).length ≤ l.length * m
  | [], _ => by simp
  | x :: l, h => by
    have a := h x List.mem_cons_self
    have b := flat_bound l fun y hy => h y (List.mem_cons_of_mem _ hy)
    rw [List.flatMap_cons, List.length_append, List.length_cons, Nat.succ_mul]
    omega
theorem subsM_len (n : Nat) (hn : n ≤ 5) : ∀ k, k ≤ 5 → (subsM n k).length ≤ 5 ^ k
  | 0, _ => Nat.le_refl _
  | k + 1, hk => by
    have a := subsM_len n hn k (by omega)
    have b := flat_bound (f := stepS n) (m := n) (subsM n k) fun r _ => stepS_len n r
    rw [subsM, Nat.pow_succ]
    exact Nat.le_trans b (Nat.mul_le_mul a hn)
theorem subsM_row (n : Nat) : ∀ k, ∀ r ∈ subsM n k, r.length = k
  | 0, r, h => by
    rw [subsM, List.mem_singleton] at h
    rw [h]
    rfl
  | k + 1, r, h => by
    rw [subsM, List.mem_flatMap] at h
    obtain ⟨x, hx, hr⟩ := h
    unfold stepS at hr
    obtain ⟨p, _, rfl⟩ := List.mem_map.mp hr
    rw [List.length_append, subsM_row n k x hx]
    rfl
theorem map_last {r : List Nat} (h : r ≠ []) : (r.map fun (i : Nat) => PyData.int (i : Int)).getLast? = some (.int ((r.getLastD 0 : Nat) : Int)) := by
  rw [List.getLast?_map, List.getLast?_eq_some_getLast h, List.getLastD_eq_getLast?, List.getLast?_eq_some_getLast h]
  rfl
abbrev ttS (K : PySem.W.Frag) : TT := tOr (tTest (tOp rEmptyT (tVar 5) (tTupF tNil))) (tTest (tOp (rI0 fun i j => .bl (decide (j < i))) (tVar 6) (tOp (rIxT K) (tVar 5) (tUn (rU fun i => .int (-i)) (tC (.int 1))))))
abbrev teS (K : PySem.W.Frag) : TE := tOp (rCatF K) (tVar 5) (tTupF (tCons (tVar 6) tNil))
abbrev s_subsets : Stmt := top 26
def spSubs : Sp := fun vs H Q _ => ∃ n k : Nat, vs = [.int (n : Nat), .int (k : Nat)] ∧ n ≤ 5 ∧ k ≤ 5 ∧ Fresh H Q (fun ds => ds = (subsM n k).map rowD)
section
variable {P : Program} {w : World} {K : PySem.W.Frag} {mg : Str → Option Value} {base : Heap}
theorem sc_subsets : FnScope ["_law_n", "_law_k", "_law_found", "_law_turn", "_law_longer", "_law_row", "_law_p"] ["_law_n", "_law_k"] (defScope s_subsets) := ⟨rfl, rfl, rfl, by decide +kernel, rfl, by decide +kernel, by decide +kernel⟩
theorem okl_subsets {f : Addr} {fd : FuncData} (F : Fun K "_law_subsets" "_law_subsets" s_subsets f fd) (T : Nm mg) : FnOk P w K mg base CX0 1 f fd ["_law_n", "_law_k"] spSubs := by
  refine F.ok sc_subsets (fun vs H Q E h => ?_) (fun cdv A outer s H vs Q E hr h => ?_)
  · obtain ⟨n, k, rfl, _⟩ := h
    rfl
  · obtain ⟨n, k, rfl, hn, hk, q⟩ := h
    have hu0 := hr.units0
    refine ⟨_, (pss_cons (ps_set (i := 2) sc_subsets.nd rfl (Or.inl rfl) (pe_lst (pa_cons (pe_tupF pa_nil) pa_nil)))
      (pss_cons (ps_for PassesOwn.never rfl (pi_range1 rfl T.range (pa_cons (pv 1) pa_nil)) (pg_name (i := 3) sc_subsets.nd rfl (Or.inl rfl))
        (pss_cons (ps_set (i := 4) sc_subsets.nd rfl (Or.inl rfl) (pe_lst pa_nil))
        (pss_cons (ps_for PassesOwn.never rfl (pi_list (pv 2)) (pg_name (i := 5) sc_subsets.nd rfl (Or.inr rfl))
          (pss_one (ps_expr (pe_bm PySem.F.plainAttrs_list PySem.F.slot_list_extend PySem.F.type_list_extend mt_extend (pv 4) (pa_cons (pe_lc (own := [("_law_p", 6)]) (g := (gName 6)) (tt := ttS K) (te := teS K) rfl sc_subsets.nd (pi_range1 rfl T.range (pa_cons (pv 0) pa_nil)) (blkOk_by (N := ["_law_n", "_law_k", "_law_found", "_law_turn", "_law_longer", "_law_row", "_law_p"]) (sc := defScope s_subsets) (by decide +kernel))
          (fun _ _ _ _ _ => (pg_name (i := 6) sc_subsets.nd rfl (Or.inl rfl))) (fun _ _ _ _ _ => pts_one (PW.pt (pw_or (pt_cmpR (op_emptyT hu0) (pv 5) (pe_tupF pa_nil) (nomark _)) (pw_or1 (pt_cmpR op_gt (pv 6) (pe_ix ix_tup (pv 5) (pe_un un_neg pe_int) (fun _ _ => rfl)) (nomark _)))))) (fun _ _ _ _ _ => (pe_op op_catF (pv 5) (pe_tupF (pa_cons (pv 6) pa_nil))))) pa_nil)))))
        (pss_one (ps_set (i := 2) sc_subsets.nd rfl (Or.inl rfl) (pv 4))))))
      (pss_one (ps_ret (pv 2))))), ?_⟩
    have E0 : EnvOk [(1, PyData.int (k : Nat)), (0, .int (n : Nat))] [some (V.int (n : Nat)), some (.int (k : Nat)), none, none, none, none, none] H := fun p hp => by
      simp only [List.mem_cons, List.not_mem_nil, or_false] at hp
      rcases hp with rfl | rfl
      · exact ⟨_, rfl, .int _⟩
      · exact ⟨_, rfl, .int _⟩
    refine sq_new E0 (Same.refl H) (mks_cons (mk_tup mks_nil (by decide)) mks_nil) (by decide) (ne_of rfl) (by show 2 < 7; decide) fun p0 H0 S0 => ?_
    have f0 := Fnd.of S0
    refine sq_of ((mk_var List.mem_cons_self : Mk [(1, PyData.int (k : Nat)), (0, .int (n : Nat))] (tVar 1) (.int (k : Nat))) _ H0 _ S0.env fun v H1 S1 d1 => ?_)
    obtain rfl := dat_isInt d1
    have f1 : Fnd H [(1, PyData.int (k : Nat)), (0, .int (n : Nat))] 2 [rowD []] _ H1 := f0.same S1
    refine ⟨((k : Nat) : Int), rfl, by omega, by omega, for_range (n := k) (fun j σ' H' => σ'.length = 7 ∧ Fnd H [(1, PyData.int (k : Nat)), (0, .int (n : Nat))] 2 ((subsM n j).map rowD) σ' H') ⟨rfl, f1⟩ ?_ ?_⟩
    · rintro j σ' H' hj ⟨hN, g⟩
      have g1 := g.skip (j := 3) (x := some (.int (0 + (j : Nat)))) rfl (by decide)
      refine lay_turn (N := 7) (es := (subsM n (j + 1)).map rowD) g1 (by rw [List.length_set, hN]) (by decide) (by decide) (by decide) rfl rfl (fun σ2 H2 D2 hN2 S2 k2 => ?_) (fun σ3 H3 hN3 f3 => ⟨hN3, f3⟩)
      have lj := subsM_len n hn j (by omega)
      have lj5 : 5 ^ j ≤ 5 ^ 4 := Nat.pow_le_pow_right (by decide) (by omega)
      refine for_lstM (K := K) (N := 7) (c := 2) (a := 5) (rs := subsM n j) (g := rowD) (fF := fun r => (stepS n r).map rowD) S2 hN2 List.mem_cons_self (fun r _ => rowD_noL r) rfl (by decide) (by decide) ?_ ?_
      · intro i r Hb acc σ3 H3 D3 hr hN3 hacc S3 k3
        have la : acc.length ≤ 5 ^ 4 * 5 := by
          rw [hacc, List.nil_append]
          refine Nat.le_trans (flat_bound (m := 5) _ fun x _ => by rw [List.length_map]; exact Nat.le_trans (stepS_len n x) hn) (Nat.mul_le_mul_right _ ?_)
          rw [List.length_take]
          omega
        have lb := stepS_len n r
        refine one_ext S3 hN3 (es := (stepS n r).map rowD) ?_ (rowsD_noL _) (by rw [List.length_map]; omega) fun H4 S4 => k3 _ H4 hN3 S4
        have M := mkf_range1T (N := 7) (G := (5, rowD r) :: (2, .list ((subsM n j).map rowD)) :: [(1, PyData.int (k : Nat)), (0, .int (n : Nat))]) (i := 6) (n := n) (p := risesN r) (f := fun p => rowD (r ++ [p])) (tt := ttS K) (te := teS K) (mk_var (i := 0) (by simp)) (by omega) rfl (by decide) (fun p hp => ?_) (fun p hp h => ?_) (fun p _ => rowD_noL _)
        · rw [show (stepS n r).map rowD = ((List.range n).filter (risesN r)).map fun p => rowD (r ++ [p]) by unfold stepS; rw [List.map_map]; rfl]
          exact M
        · have e1 : (r.map fun (i : Nat) => PyData.int (i : Int)).isEmpty = r.isEmpty := by cases r <;> rfl
          have M5 : Mk ((6, PyData.int (p : Nat)) :: (5, rowD r) :: (2, .list ((subsM n j).map rowD)) :: [(1, PyData.int (k : Nat)), (0, .int (n : Nat))]) (tVar 5) (.tuple (r.map fun (i : Nat) => PyData.int (i : Int))) := mk_var (List.mem_cons_of_mem _ List.mem_cons_self)
          have h1 := mkt_emptyT M5
          rw [e1] at h1
          exact mkt_or h1 fun hne => mkt (mk_cmp (mk_var List.mem_cons_self) (mk_lastT (K := K) M5 (map_last (fun e => by rw [e] at hne; cases hne))) (congrArg V.bl (decide_eq_decide.mpr (by omega))))
        · have M5 : Mk ((6, PyData.int (p : Nat)) :: (5, rowD r) :: (2, .list ((subsM n j).map rowD)) :: [(1, PyData.int (k : Nat)), (0, .int (n : Nat))]) (tVar 5) (.tuple (r.map fun (i : Nat) => PyData.int (i : Int))) := mk_var (List.mem_cons_of_mem _ List.mem_cons_self)
          have M6 := mk_catA (K := K) M5 (mk_tup (mks_cons (mk_var (i := 6) List.mem_cons_self) mks_nil) (by show 1 ≤ 1000; decide)) (by rw [List.length_map, subsM_row n j r (List.mem_of_getElem? hr)]; show j + 1 ≤ _; omega)
          have e : rowD (r ++ [p]) = .tuple ((r.map fun (i : Nat) => PyData.int (i : Int)) ++ [.int (p : Nat)]) := by
            unfold rowD
            rw [List.map_append]
            rfl
          rw [e]
          exact M6
      · intro σ3 H3 hN3 S3
        refine k2 σ3 H3 hN3 ?_
        rw [List.nil_append] at S3
        rw [subsM, List.map_flatMap]
        exact S3
    · rintro σ' H' ⟨hN, g⟩
      exact rt_fnd g fun L zs n0 S e d => q L zs _ H' n0 S e d rfl
end
end KB
set_option maxRecDepth 100000
set_option maxHeartbeats 8000000
namespace KB
open PySem PySem.Spec PyProof.Rows L2
/-! ### orders of items -/
theorem Fnd.same' {G : List (Nat × PyData)} {Hi : Hp} {i : Nat} {ds : List PyData} {σ : L2.St} {H : Hp} (f : Fnd Hi G i ds σ H) : Same Hi H := by
  obtain ⟨L, zs, h1, h2, h3, h4, h5, h6⟩ := f
  exact h5
theorem Fnd.put {G : List (Nat × PyData)} {Hi : Hp} {i j : Nat} {v : V} {d : PyData} {ds : List PyData} {σ : L2.St} {H : Hp} (f : Fnd Hi G i ds σ H) (hG : G.all (fun p => p.1 != j) = true) (hij : j ≠ i) (hj : j < σ.length) (dv : Dat H v d) : Fnd Hi ((j, d) :: G) i ds (σ.set j (some v)) H := by
  obtain ⟨L, zs, h1, h2, h3, h4, h5, h6⟩ := f.skip (x := some v) hG hij
  refine ⟨L, zs, h1, h2, h3, h4, h5, fun p hp => ?_⟩
  rcases List.mem_cons.mp hp with rfl | hp
  · exact ⟨v, List.getElem?_set_self hj, dv⟩
  · exact h6 p hp
section
variable {N : Nat} {G : List (Nat × PyData)} {t u : TE} {K : PySem.W.Frag}
theorem mk_lenT {ds : List PyData} {n : Nat} (h : Mk G t (.tuple ds)) (e : ds.length = n) : Mk G (tCB (rLenS K) (tCons t tNil)) (.int ((n : Nat) : Int)) := fun σ H Q E q => h σ H _ E fun v H1 S1 d1 => by
  obtain ⟨a, xs, rfl, ha, hx⟩ := dat_tup d1
  refine ⟨a, xs, rfl, .inr (sqT_rd ha), ?_⟩
  rw [hx.len, e]
  exact q _ H1 S1 (.int _)
end
def insN (x : Nat) (r : List Nat) : List (List Nat) := (List.range (r.length + 1)).map fun p => (r.take p ++ [x]) ++ r.drop p
def ordersF (rs : List (List Nat)) (x : Nat) : List (List Nat) := rs.flatMap (insN x)
def ordersM (l : List Nat) : List (List Nat) := l.foldl ordersF [[]]
def intsD (l : List Nat) : List PyData := l.map fun (i : Nat) => PyData.int (i : Int)
theorem ins_row {x : Nat} {r s : List Nat} (h : s ∈ insN x r) : s.length = r.length + 1 := by
  unfold insN at h
  obtain ⟨p, hp, rfl⟩ := List.mem_map.mp h
  have := List.mem_range.mp hp
  simp only [List.length_append, List.length_take, List.length_drop, List.length_cons, List.length_nil]
  omega
theorem orders_snoc (l : List Nat) (x : Nat) : ordersM (l ++ [x]) = ordersF (ordersM l) x := by
  unfold ordersM
  rw [List.foldl_append]
  rfl
theorem orders_row : ∀ (n : Nat) (l : List Nat), l.length = n → ∀ r ∈ ordersM l, r.length = n
  | 0, l, hl, r, h => by
    obtain rfl := List.eq_nil_of_length_eq_zero hl
    rw [show ordersM [] = [[]] from rfl, List.mem_singleton] at h
    rw [h]
    rfl
  | n + 1, l, hl, r, h => by
    have hne : l ≠ [] := fun e => by rw [e] at hl; cases hl
    rw [← List.dropLast_concat_getLast hne, orders_snoc] at h
    unfold ordersF at h
    obtain ⟨s, hs, hr⟩ := List.mem_flatMap.mp h
    have a := orders_row n l.dropLast (by rw [List.length_dropLast, hl]; rfl) s hs
    rw [ins_row hr, a]
theorem orders_len : ∀ (n : Nat) (l : List Nat), l.length = n → n ≤ 4 → (ordersM l).length ≤ 5 ^ n
  | 0, l, hl, _ => by
    obtain rfl := List.eq_nil_of_length_eq_zero hl
    exact Nat.le_refl _
  | n + 1, l, hl, hn => by
    have hne : l ≠ [] := fun e => by rw [e] at hl; cases hl
    have hd : l.dropLast.length = n := by rw [List.length_dropLast, hl]; rfl
    rw [← List.dropLast_concat_getLast hne, orders_snoc]
    have a := orders_len n l.dropLast hd (by omega)
    refine Nat.le_trans (flat_bound (m := 5) _ fun r hr => ?_) ?_
    · unfold insN
      rw [List.length_map, List.length_range, orders_row n _ hd r hr]
      omega
    · rw [Nat.pow_succ]
      exact Nat.mul_le_mul_right _ a
abbrev teO (K : PySem.W.Frag) : TE := tOp (rCatF K) (tOp (rCatF K) (tSl (rSlF K) (tVar 4) tNoPart (tPart (tVar 5))) (tTupF (tCons (tVar 2) tNil))) (tSl (rSlF K) (tVar 4) (tPart (tVar 5)) tNoPart)
abbrev s_orders : Stmt := top 30
def spOrders : Sp := fun vs H Q _ => ∃ (v : V) (l : List Nat), vs = [v] ∧ Dat H v (.list (intsD l)) ∧ l.length ≤ 4 ∧ Fresh H Q (fun ds => ds = (ordersM l).map rowD)
section
variable {P : Program} {w : World} {K : PySem.W.Frag} {mg : Str → Option Value} {base : Heap}
theorem sc_orders : FnScope ["_law_items", "_law_found", "_law_one", "_law_longer", "_law_row", "_law_p"] ["_law_items"] (defScope s_orders) := ⟨rfl, rfl, rfl, by decide +kernel, rfl, by decide +kernel, by decide +kernel⟩
theorem okl_orders {f : Addr} {fd : FuncData} (F : Fun K "_law_orders" "_law_orders" s_orders f fd) (T : Nm mg) : FnOk P w K mg base CX0 1 f fd ["_law_items"] spOrders := by
  refine F.ok sc_orders (fun vs H Q E h => ?_) (fun cdv A outer s H vs Q E hr h => ?_)
  · obtain ⟨v, l, rfl, _⟩ := h
    rfl
  · obtain ⟨v, l, rfl, hv, hl, q⟩ := h
    refine ⟨_, (pss_cons (ps_set (i := 1) sc_orders.nd rfl (Or.inl rfl) (pe_lst (pa_cons (pe_tupF pa_nil) pa_nil)))
      (pss_cons (ps_for PassesOwn.never rfl (pi_list (pv 0)) (pg_name (i := 2) sc_orders.nd rfl (Or.inr rfl))
        (pss_cons (ps_set (i := 3) sc_orders.nd rfl (Or.inl rfl) (pe_lst pa_nil))
        (pss_cons (ps_for PassesOwn.never rfl (pi_list (pv 1)) (pg_name (i := 4) sc_orders.nd rfl (Or.inr rfl))
          (pss_one (ps_expr (pe_bm PySem.F.plainAttrs_list PySem.F.slot_list_extend PySem.F.type_list_extend mt_extend (pv 3) (pa_cons (pe_lc (own := [("_law_p", 5)]) (g := (gName 5)) (tt := tYes) (te := teO K) rfl sc_orders.nd (pi_range1 rfl T.range (pa_cons (pe_op op_add (pe_callB cr_lenS (by rfl) T.len PySem.boot_len (pa_cons (pv 4) pa_nil)) pe_int) pa_nil)) (blkOk_by (N := ["_law_items", "_law_found", "_law_one", "_law_longer", "_law_row", "_law_p"]) (sc := defScope s_orders) (by decide +kernel))
          (fun _ _ _ _ _ => (pg_name (i := 5) sc_orders.nd rfl (Or.inl rfl))) (fun _ _ _ _ _ => pts_nil) (fun _ _ _ _ _ => (pe_op op_catF (pe_op op_catF (pe_slice sl_tupF (pv 4) po_none (po_some (pv 5))) (pe_tupF (pa_cons (pv 2) pa_nil))) (pe_slice sl_tupF (pv 4) (po_some (pv 5)) po_none)))) pa_nil)))))
        (pss_one (ps_set (i := 1) sc_orders.nd rfl (Or.inl rfl) (pv 3))))))
      (pss_one (ps_ret (pv 1))))), ?_⟩
    obtain ⟨a0, xs, rfl, ha, hx⟩ := dat_lst hv
    have E0 : EnvOk [(0, PyData.list (intsD l))] [some (V.ref a0), none, none, none, none, none] H := fun p hp => by
      obtain rfl := List.mem_singleton.mp hp
      exact ⟨_, rfl, hv⟩
    refine sq_new E0 (Same.refl H) (mks_cons (mk_tup mks_nil (by decide)) mks_nil) (by decide) (ne_of rfl) (by show 1 < 6; decide) fun p0 H0 S0 => ?_
    have f0 := Fnd.of S0
    have hxl := hx.len
    unfold intsD at hxl
    rw [List.length_map] at hxl
    refine sq_of ⟨_, rfl, a0, rfl, ⟨_, SqL.of (S0.same _ _ ha)⟩, for_list (K := K) (a := a0) (xs := xs) (fun j σ' H' => σ'.length = 6 ∧ Fnd H [(0, PyData.list (intsD l))] 1 ((ordersM (l.take j)).map rowD) σ' H') ⟨rfl, f0⟩ (fun j σ' H' _ g => SqL.of (g.2.same' _ _ ha)) ?_ ?_⟩
    · rintro j y σ' H' hy ⟨hN, g⟩
      obtain ⟨d, hd, dy⟩ := hx.get hy
      unfold intsD at hd
      rw [List.getElem?_map] at hd
      obtain ⟨x, hx', rfl⟩ := Option.map_eq_some_iff.mp hd
      have hjl := (List.getElem?_eq_some_iff.mp hx').1
      have g1 := g.put (j := 2) rfl (by decide) (by rw [hN]; decide) (dy.same g.same')
      have htk : (l.take j).length = j := by rw [List.length_take]; omega
      have e1 : l.take (j + 1) = l.take j ++ [x] := take_sub hx'
      refine lay_turn (N := 6) (es := (ordersM (l.take (j + 1))).map rowD) g1 (by rw [List.length_set, hN]) (by decide) (by decide) (by decide) rfl rfl (fun σ2 H2 D2 hN2 S2 k2 => ?_) (fun σ3 H3 hN3 f3 => ⟨hN3, f3.weak fun p hp => List.mem_cons_of_mem _ hp⟩)
      · have lj := orders_len j (l.take j) htk (by omega)
        have lj5 : 5 ^ j ≤ 5 ^ 3 := Nat.pow_le_pow_right (by decide) (by omega)
        have hb : ∀ r ∈ ordersM (l.take j), (insN x r).length ≤ 5 := fun r hr => by
          unfold insN
          rw [List.length_map, List.length_range, orders_row j _ htk r hr]
          omega
        refine for_lstM (K := K) (N := 6) (c := 1) (a := 4) (rs := ordersM (l.take j)) (g := rowD) (fF := fun r => (insN x r).map rowD) S2 hN2 List.mem_cons_self (fun r _ => rowD_noL r) rfl (by decide) (by decide) ?_ ?_
        · intro i r Hb acc σ3 H3 D3 hr hN3 hacc S3 k3
          have hrm := List.mem_of_getElem? hr
          have hrl := orders_row j _ htk r hrm
          have la : acc.length ≤ 5 ^ 3 * 5 := by
            rw [hacc, List.nil_append]
            refine Nat.le_trans (flat_bound (m := 5) _ fun z hz => by rw [List.length_map]; exact hb z (List.mem_of_mem_take hz)) (Nat.mul_le_mul_right _ ?_)
            rw [List.length_take]
            omega
          have lb := hb r hrm
          refine one_ext S3 hN3 (es := (insN x r).map rowD) ?_ (rowsD_noL _) (by rw [List.length_map]; omega) fun H4 S4 => k3 _ H4 hN3 S4
          have hrl4 : r.length + 1 ≤ 5 := by omega
          have M4 : ∀ {d0 : Nat × PyData}, Mk (d0 :: (4, rowD r) :: (1, .list ((ordersM (l.take j)).map rowD)) :: (2, .int (x : Nat)) :: [(0, PyData.list (intsD l))]) (tVar 4) (.tuple (intsD r)) := mk_var (List.mem_cons_of_mem _ List.mem_cons_self)
          have M := mkf_range1 (N := 6) (G := (4, rowD r) :: (1, .list ((ordersM (l.take j)).map rowD)) :: (2, .int (x : Nat)) :: [(0, PyData.list (intsD l))]) (i := 5) (n := r.length + 1) (f := fun p => rowD ((r.take p ++ [x]) ++ r.drop p)) (te := teO K) (mk_addN (y := 1) (mk_lenT (K := K) (ds := intsD r) (n := r.length) (mk_var List.mem_cons_self) (by unfold intsD; rw [List.length_map])) mk_int rfl) (by omega) rfl (by decide) (fun p hp => ?_) (fun p _ => rowD_noL _)
          · rw [show (insN x r).map rowD = (List.range (r.length + 1)).map fun p => rowD ((r.take p ++ [x]) ++ r.drop p) by unfold insN; rw [List.map_map]; rfl]
            exact M
          · have e : rowD ((r.take p ++ [x]) ++ r.drop p) = .tuple (((intsD r).take p ++ [.int (x : Nat)]) ++ (intsD r).drop p) := by
              unfold rowD intsD
              rw [List.map_append, List.map_append, List.map_take, List.map_drop]
              rfl
            rw [e]
            have hil : (intsD r).length = r.length := by unfold intsD; rw [List.length_map]
            exact mk_catA (mk_catA (mk_slToA M4 (mk_var (i := 5) List.mem_cons_self)) (mk_tup (mks_cons (mk_var (i := 2) (by simp)) mks_nil) (by show 1 ≤ 1000; decide)) (by rw [List.length_take, hil]; show _ + 1 ≤ _; omega)) (mk_slFromA M4 (mk_var (i := 5) List.mem_cons_self)) (by simp only [List.length_append, List.length_take, List.length_drop, hil, List.length_cons, List.length_nil]; omega)
        · intro σ3 H3 hN3 S3
          refine k2 σ3 H3 hN3 ?_
          rw [List.nil_append] at S3
          rw [e1, orders_snoc]
          unfold ordersF
          rw [List.map_flatMap]
          exact S3
    · rintro σ' H' ⟨hN, g⟩
      rw [show xs.length = l.length by rw [hxl], List.take_length] at g
      exact rt_fnd g fun L zs n0 S e d => q L zs _ H' n0 S e d rfl
end
end KB
set_option maxRecDepth 100000
set_option maxHeartbeats 8000000
namespace KB
open PySem PySem.Spec PyProof.Rows L2
/-! ### trees -/
theorem as_any {te : TE} {g : TG} {D : Ends} {σ : L2.St} {H : Hp} (h : te σ H (fun v H1 => g v σ H1 D.nx)) : tAsg te g D σ H := h
theorem sq_anyX {te : TE} {g : TG} {R : TS} {D : Ends} {σ : L2.St} {H : Hp} (h : te σ H (fun v H1 => g v σ H1 (R D))) : tSeq (tAsg te g) R D σ H := h
def treeD (r : List Nat) : PyData := .tuple (.none :: intsD r)
theorem dat_intsV {H : Hp} : ∀ {xs : List V} {r : List Nat}, DatAll H xs (intsD r) → xs = r.map fun (i : Nat) => V.int (i : Int)
  | xs, [], h => by
    cases h
    rfl
  | xs, a :: r, h => by
    unfold intsD at h
    rw [List.map_cons] at h
    cases h with
    | cons c t =>
      rw [dat_isInt c, dat_intsV t]
      rfl
theorem dat_tree {H : Hp} {v : V} {r : List Nat} (h : Dat H v (treeD r)) : ∃ a, v = .ref a ∧ TP H a (.non :: r.map fun (i : Nat) => V.int (i : Int)) := by
  obtain ⟨a, xs, rfl, ha, hx⟩ := dat_tup h
  cases hx with
  | cons c t =>
    cases c
    rw [dat_intsV t] at ha
    exact ⟨a, rfl, ha⟩
abbrev s_is_rooted : Stmt := top 34
def spRooted : Sp := fun vs H Q _ => ∃ (v : V) (r : List Nat), vs = [v] ∧ Dat H v (treeD r) ∧ (∀ x ∈ r, x ≤ r.length) ∧ r.length ≤ 100 ∧ ∀ b H', Same H H' → Q (.bl b) H'
section
variable {P : Program} {w : World} {K : PySem.W.Frag} {mg : Str → Option Value} {base : Heap}
theorem sc_is_rooted : FnScope ["_law_row", "_law_v", "_law_here", "_law_turn"] ["_law_row"] (defScope s_is_rooted) := ⟨rfl, rfl, rfl, by decide +kernel, rfl, by decide +kernel, by decide +kernel⟩
theorem okl_rooted {f : Addr} {fd : FuncData} (F : Fun K "_law_is_rooted" "_law_is_rooted" s_is_rooted f fd) (T : Nm mg) : FnOk P w K mg base CX0 1 f fd ["_law_row"] spRooted := by
  refine F.ok sc_is_rooted (fun vs H Q E h => ?_) (fun cdv A outer s H vs Q E hr h => ?_)
  · obtain ⟨v, r, rfl, _⟩ := h
    rfl
  · obtain ⟨v, r, rfl, hv, hr1, hr2, q⟩ := h
    obtain ⟨a, rfl, ha⟩ := dat_tree hv
    obtain ⟨xs, hxs⟩ : ∃ xs, xs = V.non :: r.map fun (i : Nat) => V.int (i : Int) := ⟨_, rfl⟩
    rw [← hxs] at ha
    have hlen : xs.length = r.length + 1 := by rw [hxs, List.length_cons, List.length_map]
    have hat : ∀ h : Nat, 0 < h → h < r.length + 1 → ∃ x : Nat, x ≤ r.length ∧ xs[h]? = some (.int (x : Nat)) := fun h h0 h1 => by
      obtain ⟨k, rfl⟩ : ∃ k, h = k + 1 := ⟨h - 1, by omega⟩
      have hk : k < r.length := by omega
      refine ⟨r[k], hr1 _ (List.getElem_mem hk), ?_⟩
      rw [hxs, List.getElem?_cons_succ, List.getElem?_map, List.getElem?_eq_getElem hk]
      rfl
    clear hxs hv
    refine ⟨_, (pss_cons (ps_for PassesOwn.never rfl (pi_range1 rfl T.range (pa_cons (pe_callB cr_lenS (by rfl) T.len PySem.boot_len (pa_cons (pv 0) pa_nil)) pa_nil)) (pg_name (i := 1) sc_is_rooted.nd rfl (Or.inl rfl))
        (pss_cons (ps_set (i := 2) sc_is_rooted.nd rfl (Or.inl rfl) (pv 1))
        (pss_cons (ps_for PassesOwn.never rfl (pi_range1 rfl T.range (pa_cons (pe_callB cr_lenS (by rfl) T.len PySem.boot_len (pa_cons (pv 0) pa_nil)) pa_nil)) (pg_name (i := 3) sc_is_rooted.nd rfl (Or.inl rfl))
          (pss_one (ps_set (i := 2) sc_is_rooted.nd rfl (Or.inl rfl) (pe_ifExp (pt_cmpR op_gt (pv 2) pe_int (nomark _)) (pe_ix ix_tup (pv 0) (pv 2) (fun _ _ => rfl)) pe_int))))
        (pss_one (ps_if (pt_cmpR op_ne (pv 2) pe_int (nomark _))
          (pss_one (ps_ret pe_bl))
          pss_nil)))))
      (pss_one (ps_ret pe_bl))), ?_⟩
    refine ⟨_, rfl, a, xs, rfl, .inr (sqT_rd ha), (xs.length : Nat), rfl, by omega, by omega, for_range (n := xs.length) (fun j σ' H' => ∃ x1 x2 x3 : Option V, σ' = [some (V.ref a), x1, x2, x3] ∧ H' = H) ⟨_, _, _, rfl, rfl⟩ ?_ ?_⟩
    · rintro j σ' H' hj ⟨x1, x2, x3, rfl, rfl⟩
      rw [show ((0 : Int) + (j : Nat)) = ((j : Nat) : Int) from Int.zero_add _]
      refine sq_anyX ⟨_, rfl, ?_⟩
      refine ⟨_, rfl, a, xs, rfl, .inr (sqT_rd ha), (xs.length : Nat), rfl, by omega, by omega, for_range (n := xs.length) (fun t σ2 H2 => ∃ (h : Nat) (x3 : Option V), σ2 = [some (V.ref a), some (.int (j : Nat)), some (.int (h : Nat)), x3] ∧ H2 = H' ∧ h < r.length + 1) ⟨j, _, rfl, rfl, by omega⟩ ?_ ?_⟩
      · rintro t σ2 H2 ht ⟨h, y3, rfl, rfl, hh⟩
        by_cases h0 : h = 0
        · refine as_any ⟨_, rfl, _, _, rfl, rfl, _, rfl, if_f (decide_eq_false (by omega)) ?_⟩
          exact ⟨0, _, rfl, rfl, by omega⟩
        · refine as_any ⟨_, rfl, _, _, rfl, rfl, _, rfl, if_t (decide_eq_true (by omega)) ?_⟩
          obtain ⟨x, hx1, hx2⟩ := hat h (by omega) hh
          exact ⟨_, rfl, _, rfl, a, xs, _, _, rfl, rfl, sqT_rd ha, atI_nat hx2, x, _, rfl, rfl, by omega⟩
      · rintro σ2 H2 ⟨h, y3, rfl, rfl, hh⟩
        by_cases h0 : h = 0
        · refine ⟨_, rfl, rfl, _, rfl, if_f (by rw [decide_eq_true (by rw [h0]; rfl)]; rfl) ?_⟩
          exact ⟨_, _, _, rfl, rfl⟩
        · refine ⟨_, rfl, rfl, _, rfl, if_t (by rw [decide_eq_false fun e => h0 (by have := V.int.inj e; omega)]; rfl) ?_⟩
          exact q _ _ (Same.refl _)
    · rintro σ' H' ⟨x1, x2, x3, rfl, rfl⟩
      exact q _ _ (Same.refl _)
end
end KB
set_option maxRecDepth 100000
set_option maxHeartbeats 8000000
namespace KB
open PySem PySem.Spec PyProof.Rows L2
/-! ### a list of some of a list -/
theorem ret_ofX {te : TE} {D : Ends} {σ : L2.St} {H : Hp} (h : te σ H D.rt) : tRet te D σ H := h
def MkTn (N : Nat) (G : List (Nat × PyData)) (t : TT) : Prop := ∀ (σ : L2.St) (H : Hp) (Q : Bool → Hp → Prop), σ.length = N → EnvOk G σ H → (∀ (b : Bool) (H' : Hp), Same H H' → Q b H') → t σ H Q
theorem mks_some {α : Type} {g : α → PyData} {K : PySem.W.Frag} {N i : Nat} {G : List (Nat × PyData)} {t : TE} {tt : TT} {rs : List α} {σ : L2.St} {H : Hp} {Q : VK} (h : MkN N G t (.list (rs.map g))) (hn : rs.length ≤ 50000) (no : ∀ r ∈ rs, noL (g r) = true) (hG : G.all (fun p => p.1 != i) = true) (hi : i < N)
    (ht : ∀ r ∈ rs, MkTn N ((i, g r) :: G) tt) (hN : σ.length = N) (E : EnvOk G σ H)
    (q : ∀ (L : Addr) (zs : List V) (sub : List α) (H' : Hp), H L = none → Same H H' → H' L = some (.lst zs) → DatAll H' zs (sub.map g) → sub.Sublist rs → Q (.ref L) H') : tLc (iList K t) (gName i) tt (tVar i) [i] σ H Q := h σ H _ hN E fun v H1 S1 d1 => by
  have hG := ne_of hG
  obtain ⟨a, xs, rfl, ha, hx⟩ := dat_lst d1
  have hxl := hx.len
  rw [List.length_map] at hxl
  have E1 := (E.same S1).none hG
  refine ⟨a, rfl, ⟨_, SqL.of ha⟩, fun D nD => lc_list (K := K) (xs := xs) (fun j Hz => ∃ sub : List α, sub.Sublist (rs.take j) ∧ Gr H1 D (sub.map g) Hz) ⟨[], by rw [List.take_zero]; exact .slnil, Gr.start nD⟩ (fun j Hz _ ⟨_, _, gr⟩ => SqL.of (gr.2.1 _ _ ha)) ?_ ?_⟩
  · rintro j y Hz hy ⟨sub, hs, gr⟩
    obtain ⟨d, hd, dy⟩ := hx.get hy
    rw [List.getElem?_map] at hd
    obtain ⟨r, hr, rfl⟩ := Option.map_eq_some_iff.mp hd
    have hm := List.mem_of_getElem? hr
    refine ⟨wipe_one, ?_⟩
    have E2 := (E1.same gr.2.1).put hG (by rw [List.length_set, hN]; exact hi) (dy.same gr.2.1)
    refine ht r hm _ Hz _ (by show (List.set (List.set σ i none) i (some y)).length = N; rw [List.length_set, List.length_set, hN]) E2 fun b H2 S2 => ?_
    have g2 := gr.same S2
    have hl := hs.length_le
    rw [List.length_take] at hl
    cases b with
    | true =>
      rw [if_pos rfl]
      refine ⟨y, List.getElem?_set_self (by show i < (List.set σ i none).length; rw [List.length_set, hN]; exact hi), ?_⟩
      obtain ⟨zs, hL, hzl, _, g'⟩ := g2.add (Same.refl _) (.cons (dy.same g2.2.1) .nil) (by show noLs [g r] = true; simp [noLs, no r hm])
      rw [List.length_map] at hzl
      refine ⟨zs, hL, by rw [sizeLine_eq]; omega, sub ++ [r], ?_, by rw [List.map_append]; exact g'⟩
      rw [take_sub hr]
      exact hs.append (List.Sublist.refl _)
    | false =>
      rw [if_neg Bool.false_ne_true]
      refine ⟨sub, ?_, g2⟩
      rw [take_sub hr]
      exact hs.trans (List.sublist_append_left _ _)
  · rintro Hz ⟨sub, hs, gr⟩
    rw [hxl, List.take_length] at hs
    obtain ⟨zs, H0, n0, S0, S2, e, d⟩ := gr_out gr
    exact q D zs sub Hz (none_back (S1.trans S0) n0) ((S1.trans S0).trans S2) e (d.same S2) hs
/-! ### trees -/
def stepT (n v : Nat) (r : List Nat) : List (List Nat) := ((List.range n).filter fun p => p != v).map fun p => r ++ [p]
def treesM (n : Nat) : Nat → List (List Nat)
  | 0 => [[]]
  | k + 1 => (treesM n k).flatMap (stepT n (k + 1))
theorem stepT_len (n v : Nat) (r : List Nat) : (stepT n v r).length ≤ n := by
  unfold stepT
  rw [List.length_map]
  exact Nat.le_trans (List.length_filter_le _ _) (by rw [List.length_range]; exact Nat.le_refl _)
theorem treesM_len (n : Nat) (hn : n ≤ 5) : ∀ k, k ≤ 5 → (treesM n k).length ≤ 5 ^ k
  | 0, _ => Nat.le_refl _
  | k + 1, hk => by
    have a := treesM_len n hn k (by omega)
    have b := flat_bound (f := stepT n (k + 1)) (m := n) (treesM n k) fun r _ => stepT_len n _ r
    rw [treesM, Nat.pow_succ]
    exact Nat.le_trans b (Nat.mul_le_mul a hn)
theorem treesM_row (n : Nat) : ∀ k, ∀ r ∈ treesM n k, r.length = k ∧ ∀ x ∈ r, x < n
  | 0, r, h => by
    rw [treesM, List.mem_singleton] at h
    rw [h]
    exact ⟨rfl, fun x hx => by cases hx⟩
  | k + 1, r, h => by
    rw [treesM, List.mem_flatMap] at h
    obtain ⟨x, hx, hr⟩ := h
    unfold stepT at hr
    obtain ⟨p, hp, rfl⟩ := List.mem_map.mp hr
    have hp' := List.mem_range.mp (List.mem_filter.mp hp).1
    obtain ⟨a, b⟩ := treesM_row n k x hx
    refine ⟨by rw [List.length_append, a]; rfl, fun y hy => ?_⟩
    rcases List.mem_append.mp hy with z | z
    · exact b y z
    · rw [List.mem_singleton.mp z]
      exact hp'
theorem treeD_noL (r : List Nat) : noL (treeD r) = true := by
  refine noLs_iff.mpr fun d hd => ?_
  rcases List.mem_cons.mp hd with rfl | hd
  · rfl
  · obtain ⟨k, _, rfl⟩ := List.mem_map.mp hd
    rfl
theorem treesD_noL (rs : List (List Nat)) : noLs (rs.map treeD) = true := noLs_iff.mpr fun d hd => by
  obtain ⟨k, _, rfl⟩ := List.mem_map.mp hd
  exact treeD_noL k
abbrev s_trees : Stmt := top 35
def okTrees (n : Nat) (ds : List PyData) : Prop := ∃ rs : List (List Nat), ds = rs.map treeD ∧ rs.length ≤ 3125 ∧ ∀ r ∈ rs, r.length + 1 = n ∧ ∀ x ∈ r, x < n
def spTrees : Sp := fun vs H Q _ => ∃ n : Nat, vs = [.int (n : Nat)] ∧ 1 ≤ n ∧ n ≤ 4 ∧ Fresh H Q (okTrees n)
abbrev teT (K : PySem.W.Frag) : TE := tOp (rCatF K) (tVar 4) (tTupF (tCons (tVar 5) tNil))
section
variable {P : Program} {w : World} {K : PySem.W.Frag} {mg : Str → Option Value} {base : Heap}
theorem sc_trees : FnScope ["_law_n", "_law_found", "_law_v", "_law_longer", "_law_row", "_law_up"] ["_law_n"] (defScope s_trees) := ⟨rfl, rfl, rfl, by decide +kernel, rfl, by decide +kernel, by decide +kernel⟩
theorem okl_trees {f fR : Addr} {fd fdR : FuncData} (F : Fun K "_law_trees" "_law_trees" s_trees f fd) (T : Nm mg) (D_rooted : DefOk K mg "_law_is_rooted" s_is_rooted ["_law_row"] fR fdR) : FnOk P w K mg base CX0 2 f fd ["_law_n"] spTrees := by
  have G_rooted : FnOk P w K mg base CX0 1 fR fdR ["_law_row"] spRooted := okl_rooted D_rooted.F T
  refine F.ok sc_trees (fun vs H Q E h => ?_) (fun cdv A outer s H vs Q E hr h => ?_)
  · obtain ⟨n, rfl, _⟩ := h
    rfl
  · obtain ⟨n, rfl, hn1, hn, q⟩ := h
    refine ⟨_, (pss_cons (ps_set (i := 1) sc_trees.nd rfl (Or.inl rfl) (pe_lst (pa_cons (pe_tupF (pa_cons pe_non pa_nil)) pa_nil)))
      (pss_cons (ps_for PassesOwn.never rfl (pi_range2 rfl T.range (pa_cons pe_int (pa_cons (pv 0) pa_nil))) (pg_name (i := 2) sc_trees.nd rfl (Or.inr rfl))
        (pss_cons (ps_set (i := 3) sc_trees.nd rfl (Or.inl rfl) (pe_lst pa_nil))
        (pss_cons (ps_for PassesOwn.never rfl (pi_list (pv 1)) (pg_name (i := 4) sc_trees.nd rfl (Or.inr rfl))
          (pss_one (ps_expr (pe_bm PySem.F.plainAttrs_list PySem.F.slot_list_extend PySem.F.type_list_extend mt_extend (pv 3) (pa_cons (pe_lc (own := [("_law_up", 5)]) (g := (gName 5)) (tt := tTest (tOp rNe (tVar 5) (tVar 2))) (te := teT K) rfl sc_trees.nd (pi_range1 rfl T.range (pa_cons (pv 0) pa_nil)) (blkOk_by (N := ["_law_n", "_law_found", "_law_v", "_law_longer", "_law_row", "_law_up"]) (sc := defScope s_trees) (by decide +kernel))
          (fun _ _ _ _ _ => (pg_name (i := 5) sc_trees.nd rfl (Or.inl rfl))) (fun _ _ _ _ _ => pts_one (pt_cmpR op_ne (pv 5) (pv 2) (nomark _))) (fun _ _ _ _ _ => (pe_op op_catF (pv 4) (pe_tupF (pa_cons (pv 5) pa_nil))))) pa_nil)))))
        (pss_one (ps_set (i := 1) sc_trees.nd rfl (Or.inl rfl) (pv 3))))))
      (pss_one (ps_ret (pe_lc (own := [("_law_row", 4)]) (g := (gName 4)) rfl sc_trees.nd (pi_list (pv 1)) (blkOk_by (N := ["_law_n", "_law_found", "_law_v", "_law_longer", "_law_row", "_law_up"]) (sc := defScope s_trees) (by decide +kernel))
          (fun _ _ _ _ _ => (pg_name (i := 4) sc_trees.nd rfl (Or.inl rfl))) (fun _ _ _ _ _ => pts_one (pt_val (pe_call G_rooted hr rfl D_rooted.g D_rooted.F.kp D_rooted.b .nil pass0 (pa_cons (pv 4) pa_nil)))) (fun _ _ _ _ _ => (pv 4))))))), ?_⟩
    have E0 : EnvOk [(0, PyData.int (n : Nat))] [some (V.int (n : Nat)), none, none, none, none, none] H := fun p hp => by
      obtain rfl := List.mem_singleton.mp hp
      exact ⟨_, rfl, .int _⟩
    have mk_non' : Mk [(0, PyData.int (n : Nat))] (tC .non) .none := fun σ H Q E k => k _ H (Same.refl _) .non
    refine sq_new (ds := [treeD []]) E0 (Same.refl H) (mks_cons (mk_tup (mks_cons mk_non' mks_nil) (by decide)) mks_nil) (by decide) (ne_of rfl) (by show 1 < 6; decide) fun p0 H0 S0 => ?_
    have f0 := Fnd.of S0
    obtain ⟨m, rfl⟩ : ∃ m, n = m + 1 := ⟨n - 1, by omega⟩
    refine sq_of ⟨_, rfl, (1 : Int), ((m + 1 : Nat) : Int), rfl, by omega, ?_⟩
    rw [show (((m + 1 : Nat) : Int) - 1).toNat = m by omega]
    refine for_range (n := m) (fun j σ' H' => σ'.length = 6 ∧ Fnd H [(0, PyData.int ((m + 1 : Nat) : Int))] 1 ((treesM (m + 1) j).map treeD) σ' H') ⟨rfl, f0⟩ ?_ ?_
    · rintro j σ' H' hj ⟨hN, g⟩
      rw [show ((1 : Int) + (j : Nat)) = ((j + 1 : Nat) : Int) by omega]
      have g1 := g.put (j := 2) (v := .int ((j + 1 : Nat) : Int)) rfl (by decide) (by rw [hN]; decide) (.int _)
      refine lay_turn (N := 6) (es := (treesM (m + 1) (j + 1)).map treeD) g1 (by rw [List.length_set, hN]) (by decide) (by decide) (by decide) rfl rfl (fun σ2 H2 D2 hN2 S2 k2 => ?_) (fun σ3 H3 hN3 f3 => ⟨hN3, f3.weak fun p hp => List.mem_cons_of_mem _ hp⟩)
      have lj := treesM_len (m + 1) (by omega) j (by omega)
      have lj5 : 5 ^ j ≤ 5 ^ 4 := Nat.pow_le_pow_right (by decide) (by omega)
      refine for_lstM (K := K) (N := 6) (c := 1) (a := 4) (rs := treesM (m + 1) j) (g := treeD) (fF := fun r => (stepT (m + 1) (j + 1) r).map treeD) S2 hN2 List.mem_cons_self (fun r _ => treeD_noL r) rfl (by decide) (by decide) ?_ ?_
      · intro i r Hb acc σ3 H3 D3 hr hN3 hacc S3 k3
        have hrm := treesM_row (m + 1) j r (List.mem_of_getElem? hr)
        have la : acc.length ≤ 5 ^ 4 * 5 := by
          rw [hacc, List.nil_append]
          refine Nat.le_trans (flat_bound (m := 5) _ fun x _ => by rw [List.length_map]; exact Nat.le_trans (stepT_len _ _ x) (by omega)) (Nat.mul_le_mul_right _ ?_)
          rw [List.length_take]
          omega
        have lb := stepT_len (m + 1) (j + 1) r
        refine one_ext S3 hN3 (es := (stepT (m + 1) (j + 1) r).map treeD) ?_ (treesD_noL _) (by rw [List.length_map]; omega) fun H4 S4 => k3 _ H4 hN3 S4
        have M := mkf_range1T (N := 6) (G := (4, treeD r) :: (1, .list ((treesM (m + 1) j).map treeD)) :: (2, PyData.int ((j + 1 : Nat) : Int)) :: [(0, PyData.int ((m + 1 : Nat) : Int))]) (i := 5) (n := m + 1) (p := fun p => p != j + 1) (f := fun p => treeD (r ++ [p])) (tt := tTest (tOp rNe (tVar 5) (tVar 2))) (te := teT K) (mk_var (i := 0) (by simp)) (by omega) rfl (by decide) (fun p hp => ?_) (fun p hp h => ?_) (fun p _ => treeD_noL _)
        · rw [show (stepT (m + 1) (j + 1) r).map treeD = ((List.range (m + 1)).filter fun p => p != j + 1).map fun p => treeD (r ++ [p]) by unfold stepT; rw [List.map_map]; rfl]
          exact M
        · refine mkt (mk_ne (i := ((p : Nat) : Int)) (j := ((j + 1 : Nat) : Int)) (mk_var List.mem_cons_self) (mk_var (i := 2) (by simp)) ?_)
          by_cases e : p = j + 1
          · rw [decide_eq_true (by omega), e]
            simp
          · rw [decide_eq_false (by omega)]
            simp [e]
        · have M4 : Mk ((5, PyData.int (p : Nat)) :: (4, treeD r) :: (1, .list ((treesM (m + 1) j).map treeD)) :: (2, PyData.int ((j + 1 : Nat) : Int)) :: [(0, PyData.int ((m + 1 : Nat) : Int))]) (tVar 4) (.tuple (.none :: intsD r)) := mk_var (List.mem_cons_of_mem _ List.mem_cons_self)
          have M6 := mk_catA (K := K) M4 (mk_tup (mks_cons (mk_var (i := 5) List.mem_cons_self) mks_nil) (by show 1 ≤ 1000; decide)) (by unfold intsD; rw [List.length_cons, List.length_map, hrm.1]; show j + 1 + 1 ≤ _; omega)
          have e : treeD (r ++ [p]) = .tuple ((.none :: intsD r) ++ [.int (p : Nat)]) := by
            unfold treeD intsD
            rw [List.map_append]
            rfl
          rw [e]
          exact M6
      · intro σ3 H3 hN3 S3
        refine k2 σ3 H3 hN3 ?_
        rw [List.nil_append] at S3
        rw [treesM, List.map_flatMap]
        exact S3
    · rintro σ' H' ⟨hN, g⟩
      have E := g.env
      have lm := treesM_len (m + 1) (by omega) m (by omega)
      have lm5 : 5 ^ m ≤ 5 ^ 4 := Nat.pow_le_pow_right (by decide) (by omega)
      refine ret_ofX (mks_some (N := 6) (K := K) (g := treeD) (rs := treesM (m + 1) m) (Mk.n (mk_var List.mem_cons_self)) (by omega) (fun r _ => treeD_noL r) rfl (by decide) ?_ hN E fun L zs sub H2 n2 S2 e2 d2 hs => q L zs _ H2 (none_back g.same' n2) (g.same'.trans S2) e2 d2 ⟨sub, rfl, ?_, ?_⟩)
      · intro r hr σ2 H2 Q2 hN2 E2 k2
        obtain ⟨v, hv, dv⟩ := E2 (4, treeD r) List.mem_cons_self
        obtain ⟨a1, a2⟩ := treesM_row (m + 1) m r hr
        exact ⟨v, hv, v, r, rfl, dv, fun x hx => by have := a2 x hx; omega, by omega, fun b H3 S3 => ⟨b, rfl, k2 b H3 S3⟩⟩
      · have := hs.length_le
        omega
      · intro r hr
        obtain ⟨a1, a2⟩ := treesM_row (m + 1) m r (hs.subset hr)
        exact ⟨by omega, a2⟩
end
end KB
set_option maxRecDepth 100000
set_option maxHeartbeats 8000000
namespace KB
open PySem PySem.Spec PyProof.Rows L2
theorem mks_someT {α : Type} {g : α → PyData} {K : PySem.W.Frag} {N i : Nat} {G : List (Nat × PyData)} {t : TE} {tt : TT} {rs : List α} {σ : L2.St} {H : Hp} {Q : VK} (h : MkN N G t (.tuple (rs.map g))) (hn : rs.length ≤ 50000) (no : ∀ r ∈ rs, noL (g r) = true) (hG : G.all (fun p => p.1 != i) = true) (hi : i < N)
    (ht : ∀ r ∈ rs, MkTn N ((i, g r) :: G) tt) (hN : σ.length = N) (E : EnvOk G σ H)
    (q : ∀ (L : Addr) (zs : List V) (sub : List α) (H' : Hp), H L = none → Same H H' → H' L = some (.lst zs) → DatAll H' zs (sub.map g) → sub.Sublist rs → Q (.ref L) H') : tLc (iTup K t) (gName i) tt (tVar i) [i] σ H Q := h σ H _ hN E fun v H1 S1 d1 => by
  have hG := ne_of hG
  obtain ⟨a, xs, rfl, ha, hx⟩ := dat_tup d1
  have hxl := hx.len
  rw [List.length_map] at hxl
  have E1 := (E.same S1).none hG
  refine ⟨a, rfl, ⟨_, sqT_rd ha⟩, fun D nD => lc_tup (K := K) (xs := xs) (fun j Hz => ∃ sub : List α, sub.Sublist (rs.take j) ∧ Gr H1 D (sub.map g) Hz) ⟨[], by rw [List.take_zero]; exact .slnil, Gr.start nD⟩ (fun j Hz _ ⟨_, _, gr⟩ => sqT_rd (upR ha gr.2.1)) ?_ ?_⟩
  · rintro j y Hz hy ⟨sub, hs, gr⟩
    obtain ⟨d, hd, dy⟩ := hx.get hy
    rw [List.getElem?_map] at hd
    obtain ⟨r, hr, rfl⟩ := Option.map_eq_some_iff.mp hd
    have hm := List.mem_of_getElem? hr
    refine ⟨wipe_one, ?_⟩
    have E2 := (E1.same gr.2.1).put hG (by rw [List.length_set, hN]; exact hi) (dy.same gr.2.1)
    refine ht r hm _ Hz _ (by show (List.set (List.set σ i none) i (some y)).length = N; rw [List.length_set, List.length_set, hN]) E2 fun b H2 S2 => ?_
    have g2 := gr.same S2
    have hl := hs.length_le
    rw [List.length_take] at hl
    cases b with
    | true =>
      rw [if_pos rfl]
      refine ⟨y, List.getElem?_set_self (by show i < (List.set σ i none).length; rw [List.length_set, hN]; exact hi), ?_⟩
      obtain ⟨zs, hL, hzl, _, g'⟩ := g2.add (Same.refl _) (.cons (dy.same g2.2.1) .nil) (by show noLs [g r] = true; simp [noLs, no r hm])
      rw [List.length_map] at hzl
      refine ⟨zs, hL, by rw [sizeLine_eq]; omega, sub ++ [r], ?_, by rw [List.map_append]; exact g'⟩
      rw [take_sub hr]
      exact hs.append (List.Sublist.refl _)
    | false =>
      rw [if_neg Bool.false_ne_true]
      refine ⟨sub, ?_, g2⟩
      rw [take_sub hr]
      exact hs.trans (List.sublist_append_left _ _)
  · rintro Hz ⟨sub, hs, gr⟩
    rw [hxl, List.take_length] at hs
    obtain ⟨zs, H0, n0, S0, S2, e, d⟩ := gr_out gr
    exact q D zs sub Hz (none_back (S1.trans S0) n0) ((S1.trans S0).trans S2) e (d.same S2) hs
/-! ### permutations -/
section
variable {G : List (Nat × PyData)} {t u : TE}
theorem dat_rg {H : Hp} {lo : Int} {a n : Nat} (e : lo = (a : Int)) (hn : a ≤ n) : DatAll H (rgV lo ((n : Nat) : Int)) (intsD (List.range' a (n - a))) := by
  subst e
  have e1 : rgV ((a : Nat) : Int) ((n : Nat) : Int) = ((List.range' a (n - a)).map fun i : Nat => ((i : Nat) : Int)).map V.int := by
    unfold rgV
    rw [List.map_map, show (((n : Nat) : Int) - (a : Int)).toNat = n - a by omega, List.range'_eq_map_range, List.map_map]
    rfl
  have e2 : intsD (List.range' a (n - a)) = ((List.range' a (n - a)).map fun i : Nat => ((i : Nat) : Int)).map PyData.int := by
    unfold intsD
    rw [List.map_map]
    rfl
  rw [e1, e2]
  exact ints_all _ _
theorem mk_lstRg1 {n : Nat} (h : Mk G t (.int ((n : Nat) : Int))) (hn : n ≤ 1000) : Mk G (tLstRg (tRg1 t)) (.list (intsD (List.range n))) := fun σ H Q E q => h σ H _ E fun v H1 S1 d1 => by
  refine ⟨(n : Int), dat_isInt d1, .of_le (by decide) (by omega) (by decide) (by omega), fun r nr => q _ _ (S1.trans (same_new nr)) (.lst upd_same ?_)⟩
  have := dat_rg (H := upd H1 r (.lst (rgV 0 ((n : Nat) : Int)))) (lo := 0) (a := 0) (n := n) rfl (Nat.zero_le _)
  rw [Nat.sub_zero, ← List.range_eq_range'] at this
  exact this
theorem mk_lstRg2 {n : Nat} (h : Mk G u (.int ((n : Nat) : Int))) (h1 : 1 ≤ n) (hn : n ≤ 1000) : Mk G (tLstRg (tRg2 (tC (.int 1)) u)) (.list (intsD (List.range' 1 (n - 1)))) := fun σ H Q E q => h σ H _ E fun v H1 S1 d1 => by
  refine ⟨(1 : Int), (n : Int), rfl, dat_isInt d1, .of_le (by decide) (by omega) (by decide) (by omega), fun r nr => q _ _ (S1.trans (same_new nr)) (.lst upd_same ?_)⟩
  exact dat_rg (lo := 1) (a := 1) (n := n) rfl h1
end
theorem ins_perm {x : Nat} {r s : List Nat} (h : s ∈ insN x r) : s.Perm (x :: r) := by
  unfold insN at h
  obtain ⟨p, _, rfl⟩ := List.mem_map.mp h
  have a : ((r.take p ++ [x]) ++ r.drop p).Perm (x :: (r.take p ++ r.drop p)) := by
    rw [List.append_assoc]
    exact List.perm_middle
  rw [List.take_append_drop] at a
  exact a
theorem orders_perm : ∀ (n : Nat) (l : List Nat), l.length = n → ∀ r ∈ ordersM l, r.Perm l
  | 0, l, hl, r, h => by
    obtain rfl := List.eq_nil_of_length_eq_zero hl
    rw [show ordersM [] = [[]] from rfl, List.mem_singleton] at h
    rw [h]
  | n + 1, l, hl, r, h => by
    have hne : l ≠ [] := fun e => by rw [e] at hl; cases hl
    have e := List.dropLast_concat_getLast hne
    rw [← e, orders_snoc] at h
    unfold ordersF at h
    obtain ⟨s, hs, hr⟩ := List.mem_flatMap.mp h
    have a := orders_perm n l.dropLast (by rw [List.length_dropLast, hl]; rfl) s hs
    have b := ins_perm hr
    have c : (l.getLast hne :: l.dropLast).Perm (l.dropLast ++ [l.getLast hne]) := (List.perm_append_singleton _ _).symm
    rw [e] at c
    exact (b.trans (a.cons _)).trans c
end KB
set_option maxRecDepth 100000
set_option maxHeartbeats 8000000
namespace KB
open PySem PySem.Spec PyProof.Rows L2
abbrev s_permutations : Stmt := top 33
def okPerms (n : Nat) (ds : List PyData) : Prop := ∃ rs : List (List Nat), ds = rs.map rowD ∧ rs.length ≤ 3125 ∧ ∀ r ∈ rs, r.Perm (List.range n)
def spPerms : Sp := fun vs H Q _ => ∃ (n : Nat) (v : V) (mv : List Nat), vs = [.int (n : Nat), v] ∧ n ≤ 4 ∧ Dat H v (.tuple (intsD mv)) ∧ (∀ x ∈ mv, x < n) ∧ mv.length ≤ 100 ∧ Fresh H Q (okPerms n)
theorem one_argX {sp : Sp} {t : TE} {E0 : XK} {σ : L2.St} {H : Hp} {Q : VK} (h : t σ H fun v H1 => sp [v] H1 Q E0) : tCall sp [] E0 (tCons t tNil) σ H Q := h
theorem tst_opX {r : R2} {t u : TE} {σ : L2.St} {H : Hp} {Q : Bool → Hp → Prop} (h : t σ H fun x H1 => u σ H1 fun y H2 => r x y H2 fun v H3 => ∃ b, v = .bl b ∧ Q b H3) : tTest (tOp r t u) σ H Q := h
theorem mk_ixTn {K : PySem.W.Frag} {G : List (Nat × PyData)} {t u : TE} {ds : List PyData} {d : PyData} {j : Nat} (h : Mk G t (.tuple ds)) (h2 : Mk G u (.int ((j : Nat) : Int))) (hj : ds[j]? = some d) : Mk G (tOp (rIxT K) t u) d := fun σ H Q E q => h σ H _ E fun v H1 S1 d1 => h2 σ H1 _ (E.same S1) fun w H2 S2 d2 => by
  obtain ⟨a, xs, rfl, ha, hx⟩ := dat_tup (d1.same S2)
  obtain ⟨x, hx1, dx⟩ := hx.at hj
  exact ⟨a, xs, _, x, rfl, dat_isInt d2, sqT_rd ha, atI_nat hx1, q _ H2 (S1.trans S2) dx⟩
abbrev scP : Scope := { kind := .function, names := [(".0", .local), ("_law_row", .cell), ("_law_moved", .cell)], isGenerator := false, isCoroutine := false, more := [] }
abbrev ttP (K : PySem.W.Frag) : TT := tTest (tOp rEq (tOp (rIxT K) (tVar 2) (tVar 3)) (tVar 3))
section
variable {P : Program} {w : World} {K : PySem.W.Frag} {mg : Str → Option Value} {base : Heap}
theorem sc_permutations : FnScope ["_law_n", "_law_moved", "_law_row", "_law_p"] ["_law_n", "_law_moved"] (defScope s_permutations) := ⟨rfl, rfl, rfl, by decide +kernel, rfl, by decide +kernel, by decide +kernel⟩
theorem okl_permutations {f fO : Addr} {fd fdO : FuncData} (F : Fun K "_law_permutations" "_law_permutations" s_permutations f fd) (T : Nm mg) (D_orders : DefOk K mg "_law_orders" s_orders ["_law_items"] fO fdO) : FnOk P w K mg base CX0 2 f fd ["_law_n", "_law_moved"] spPerms := by
  have G_orders : FnOk P w K mg base CX0 1 fO fdO ["_law_items"] spOrders := okl_orders D_orders.F T
  refine F.ok sc_permutations (fun vs H Q E h => ?_) (fun cdv A outer s H vs Q E hr h => ?_)
  · obtain ⟨n, v, mv, rfl, _⟩ := h
    rfl
  · obtain ⟨n, v, mv, rfl, hn, hv, hm, hml, q⟩ := h
    have hu0 := hr.units0
    refine ⟨_, (pss_one (ps_ret (pe_lc (own := [("_law_row", 2)]) (g := (gName 2)) (tt := tTest (tOp (rEmpty false) (tLc (iTup K (tVar 1)) (gName 3) (ttP K) (tVar 3) [3]) (tLst tNil))) (te := tVar 2) rfl sc_permutations.nd (pi_list (pe_call G_orders hr rfl D_orders.g D_orders.F.kp D_orders.b .nil pass0 (pa_cons (pe_listRg rfl (by rfl) T.list (prg_1 (by rfl) T.range (pv 0))) pa_nil))) (blkOk_by (N := ["_law_n", "_law_moved", "_law_row", "_law_p"]) (sc := defScope s_permutations) (by decide +kernel))
          (fun _ _ _ _ _ => (pg_name (i := 2) sc_permutations.nd rfl (Or.inr rfl))) (fun _ _ _ _ _ => pts_one (pt_cmpR (op_empty hu0) (pe_lc (own := [("_law_p", 3)]) (g := (gName 3)) (tt := ttP K) (te := tVar 3) rfl sc_permutations.nd (pi_tup (pv 1)) (blkOk_by (N := ["_law_n", "_law_moved", "_law_row", "_law_p"]) (sc := scP) (by decide +kernel))
          (fun _ _ _ _ _ => (pg_name (i := 3) sc_permutations.nd rfl (Or.inl rfl))) (fun _ _ _ _ _ => pts_one (pt_cmpR op_eq (pe_ix ix_tup (pv 2) (pv 3) (fun _ _ => rfl)) (pv 3) (nomark _))) (fun _ _ _ _ _ => (pv 3))) (pe_lst pa_nil) (nomark _))) (fun _ _ _ _ _ => (pv 2))))), ?_⟩
    have E0 : EnvOk [(1, PyData.tuple (intsD mv)), (0, PyData.int (n : Nat))] [some (V.int (n : Nat)), some v, none, none] H := fun p hp => by
      simp only [List.mem_cons, List.not_mem_nil, or_false] at hp
      rcases hp with rfl | rfl
      · exact ⟨_, rfl, hv⟩
      · exact ⟨_, rfl, .int _⟩
    have hlen : (List.range n).length = n := List.length_range
    have lo := orders_len n (List.range n) hlen hn
    have lo5 : 5 ^ n ≤ 5 ^ 4 := Nat.pow_le_pow_right (by decide) hn
    refine ret_ofX (mks_some (N := 4) (K := K) (g := rowD) (rs := ordersM (List.range n)) (G := [(1, PyData.tuple (intsD mv)), (0, PyData.int (n : Nat))]) ?_ (by omega) (fun r _ => rowD_noL r) rfl (by decide) ?_ rfl E0 fun L zs sub H2 n2 S2 e2 d2 hs => q L zs _ H2 n2 S2 e2 d2 ⟨sub, rfl, ?_, ?_⟩)
    · intro σ2 H2 Q2 hN2 E2 k2
      refine one_argX (mk_lstRg1 (n := n) (mk_var (i := 0) (by simp)) (by omega) σ2 H2 _ E2 fun v3 H3 S3 d3 => ?_)
      exact ⟨v3, List.range n, rfl, d3, by rw [hlen]; exact hn, fun L zs ds H4 n4 S4 e4 d4 h4 => k2 _ H4 (S3.trans S4) (.lst e4 (by rw [← h4]; exact d4))⟩
    · intro r hr' σ2 H2 Q2 hN2 E2 k2
      have hp := orders_perm n (List.range n) hlen r hr'
      have hrl : r.length = n := by rw [hp.length_eq, hlen]
      refine tst_opX (mks_someT (N := 4) (i := 3) (K := K) (g := fun i : Nat => PyData.int (i : Int)) (rs := mv) (G := (2, rowD r) :: [(1, PyData.tuple (intsD mv)), (0, PyData.int (n : Nat))]) (Mk.n (mk_var (i := 1) (by simp [intsD]))) (by omega) (fun r _ => rfl) rfl (by decide) ?_ hN2 E2 fun L zs sub H3 n3 S3 e3 d3 hs3 => ?_)
      · intro x hx σ4 H4 Q4 hN4 E4 k4
        have hxr : x < r.length := by rw [hrl]; exact hm x hx
        have M2 : Mk ((3, PyData.int (x : Nat)) :: (2, rowD r) :: [(1, PyData.tuple (intsD mv)), (0, PyData.int (n : Nat))]) (tVar 2) (.tuple (intsD r)) := mk_var (List.mem_cons_of_mem _ List.mem_cons_self)
        have M3 : Mk ((3, PyData.int (x : Nat)) :: (2, rowD r) :: [(1, PyData.tuple (intsD mv)), (0, PyData.int (n : Nat))]) (tVar 3) (.int ((x : Nat) : Int)) := mk_var List.mem_cons_self
        have M := mk_eq (mk_ixTn (K := K) (j := x) (d := .int ((r[x] : Nat) : Int)) M2 M3 (by unfold intsD; rw [List.getElem?_map, List.getElem?_eq_getElem hxr]; rfl)) M3 (b := decide (((r[x] : Nat) : Int) = ((x : Nat) : Int))) rfl
        exact mkt M σ4 H4 _ E4 fun H5 S5 => k4 _ H5 S5
      · refine ⟨(by show 0 ≤ sizeLine; decide), fun e ne => ⟨L, e, zs, rfl, rfl, .inl ⟨same_new ne _ _ e3, upd_same⟩, _, rfl, ?_⟩⟩
        exact k2 _ _ (S3.trans (same_new ne))
    · have := hs.length_le
      omega
    · intro r hr'
      exact orders_perm n (List.range n) hlen r (hs.subset hr')
end
end KB
set_option maxRecDepth 100000
set_option maxHeartbeats 8000000
namespace L2
open PySem PySem.Spec PyProof.Rows
theorem flat_intsV (ys : List Int) : (ys.map V.int).all flatV = true := by
  rw [List.all_map]
  exact List.all_eq_true.mpr fun _ _ => rfl
section
variable {X : Cx}
def rTupIxI (K : PySem.W.Frag) : V → List V → Hp → VK → Prop := fun x xs H Q => ∃ p, ∃ ys : List Int, ∃ z j, x = .ref p ∧ xs = [.int z] ∧ SqT K H p (ys.map V.int) ∧ ys[j]? = some z ∧ (∀ m, m < j → ys[m]? ≠ some z) ∧ Q (.int (j : Nat)) H
/-- t.index(x), the first place, of a tuple of ints -/
theorem mt_tup_indexI : MtR X "tuple.index" (rTupIxI X.K) := by
  intro pins s σ H x xs v us Q I rx rs h
  obtain ⟨p, ys, z, j, rfl, rfl, hq, hy, hno, q⟩ := h
  cases rx
  obtain ⟨u, rfl, t, rfl⟩ := vals1 rs
  obtain ⟨its, r, pl, hz⟩ := I.tuple hq
  obtain ⟨⟨cls, dd, dt, sl⟩, ho, hc, n, hd⟩ := pl
  simp only at hc hd
  subst hc
  subst hd
  have hl : its.toArray.size = ys.length := by rw [List.size_toArray, ← r.length, List.length_map]
  have hj : j < its.toArray.size := by rw [hl]; exact (List.getElem?_eq_some_iff.mp hy).1
  have at' : ∀ (m : Nat) (hm : m < its.toArray.size), ∃ y t', ys[m]? = some y ∧ its.toArray[m] = Value.int y t' := fun m hm => by
    have hm' : m < ys.length := by rw [← hl]; exact hm
    obtain ⟨w, hw, t', hw'⟩ := r.get (i := m) (x := .int ys[m]) (by simp [hm'])
    refine ⟨ys[m], t', List.getElem?_eq_getElem hm', ?_⟩
    have e := (List.getElem?_eq_some_iff.mp hw).2
    rw [← hw', ← e]
    simp
  refine call_meets PySem.F.slot_tuple_index ⟨_, ho, rfl⟩ PySem.F.entry_tuple_index (PySem.F.args_tuple_index_2 _ _) (TI.tuple_indexAt p its.toArray n dd sl (.int z t) (eqU (.int z)) j hj ?_ ?_)
    ⟨ho, fun w hw => mem_eqAt (x := .int z) ⟨t, rfl⟩ rfl r (flat_intsV ys) w (by simpa using hw), ⟨.int (j : Nat), H, I.tok _, ⟨_, rfl⟩, q⟩⟩
  · obtain ⟨y, t', h1, h2⟩ := at' j hj
    rw [hy] at h1
    cases h1
    rw [h2]
    show (z == z) = true
    exact beq_self_eq_true z
  · intro m hm hmj
    obtain ⟨y, t', h1, h2⟩ := at' m hm
    rw [h2]
    show (y == z) = false
    exact beq_eq_false_iff_ne.mpr fun e => hno m hmj (e ▸ h1)
end
end L2
set_option maxRecDepth 100000
set_option maxHeartbeats 8000000
namespace L2
open PySem PySem.Spec PyProof.Rows
section
variable {X : Cx}
/-- the call of a method of a tuple whose object is known -/
def tBMF (r : V → List V → Hp → VK → Prop) (to : TE) (t : TA) : TE := fun σ H Q => to σ H fun x H1 => KB.Fz H1 x ∧ t σ H1 fun xs H2 => r x xs H2 Q
theorem fz_is {pins : List (Addr × Obj)} {σ : L2.St} {H : Hp} {s : Shared} {x : V} {v : Value} (I : Inv X pins σ H s) (r : RelV x v) (hz : KB.Fz H x) :
    s.TypeIs v "tuple" ∧ ∀ a, v = .ref a → ∃ ob, s.heap.get? a = some ob ∧ ob.dict = none := by
  obtain ⟨p, o, xs, rfl, h, hd⟩ := hz
  cases r
  obtain ⟨e, q⟩ := I.hok p _ h
  obtain ⟨its, rv, pl, z⟩ := I.tuple (KB.sqT_rd (KB.TP.fz h hd))
  obtain ⟨ob, ho, hc, _⟩ := pl
  refine ⟨⟨ob, ho, hc⟩, fun a e2 => ?_⟩
  cases e2
  exact ⟨o, e, hd⟩
theorem pe_bmF {o e : Expr} {es : List Expr} {to : TE} {t : TA} {name : Str} {apos cpos : Pos} {id : String} {r : V → List V → Hp → VK → Prop} (pa : PlainAttrs "tuple") (slot : Slot "tuple" name id) (hty : typeOf (.builtin id) = pure (.type "method_descriptor")) (hm : MtR X id r) (ho : PE X o to) (ha : PA X (e :: es) t)
    (hbase : attributeBase o name X.env (eval o X.env) = eval o X.env := by rfl)
    (hfew : ((backTo cpos (starEach (e :: es) X.env)).all (fun x => !x.1) && (backToKw cpos (keywordEach [] X.env)).all (fun x => x.1.isSome)
      && decide ((e :: es).length + ([] : List Keyword).length + (if ([] : List Keyword).isEmpty then 0 else 1) < 30)) = true := by rfl)
    (hline : (apos.endLine == cpos.line) = true := by rfl) (hs : starEach (e :: es) X.env = (false, eval e X.env) :: starEach es X.env := by rfl) (hplain : (backTo cpos (starEach es X.env)).any (·.1) = false := by rfl) :
    PE X (.Call (.Attribute o name apos) (e :: es) [] cpos) (tBMF r to t) := by
  refine ⟨fun pins s σ H Q I h => ?_⟩
  refine wpAny_Call_method_late hbase hfew hline rfl (thn (ho.run pins s σ H _ I h) fun v s1 ⟨x, H1, I1, r1, ty, q1⟩ => ?_)
  obtain ⟨h1, h2⟩ := fz_is I1 r1 ty
  refine ⟨"tuple", id, pa, slot, hty, h1, h2, ?_⟩
  have hA := ha.run cpos pins s1 σ H1 _ I1 q1
  rw [hs] at hA ⊢
  refine Calls.callWith_builtin (by show (false || (backTo cpos (starEach es X.env)).any (·.1)) = false; rw [hplain] <;> rfl) (Calls.evalArgs_plain ?_)
  exact thn hA fun us s2 ⟨vs, H2, I2, r2, q2⟩ => hm pins s2 σ H2 x vs v us Q I2 r1 r2 q2
end
end L2
namespace KB
open PySem PySem.Spec PyProof.Rows L2
/-! ### answers that are read at a place, or a place -/
abbrev s_matching : Stmt := top 15
abbrev s_tree : Stmt := top 17
abbrev s_cycle : Stmt := top 14
abbrev s_perm : Stmt := top 16
def spIx : Sp := fun vs H Q _ => ∃ (x v w : V) (z : Str) (ds rest : List PyData) (i : Nat) (d : PyData), vs = [x, v, .str z, w] ∧ Dat H v (.tuple ds) ∧ Dat H w (.tuple (.int (i : Nat) :: rest)) ∧ ds[i]? = some d ∧ ∀ u H', Same H H' → Dat H' u d → Q u H'
/-- at i, or the place of i -/
def ansN (z0 : Str) (r : List Nat) (z : Str) (i : Nat) : Nat := if z = z0 then r.getD i 0 else r.idxOf i
def spIxOf (z0 : Str) : Sp := fun vs H Q _ => ∃ (x v w : V) (z : Str) (r : List Nat) (rest : List PyData) (i : Nat), vs = [x, v, .str z, w] ∧ z.length ≤ 1000 ∧ Dat H v (rowD r) ∧ Dat H w (.tuple (.int (i : Nat) :: rest)) ∧ i < r.length ∧ i ∈ r ∧ ∀ u H', Same H H' → Dat H' u (.int (ansN z0 r z i : Nat)) → Q u H'
theorem fz_dat {H : Hp} {v : V} {ds : List PyData} (h : Dat H v (.tuple ds)) : Fz H v := by
  obtain ⟨a, xs, rfl, ha, hx⟩ := dat_tup h
  obtain ⟨o, e, n⟩ := ha.rd
  exact ⟨a, o, xs, rfl, e, n⟩
theorem idx_first {r : List Nat} {i : Nat} (h : i ∈ r) : (r.map fun (x : Nat) => (x : Int))[r.idxOf i]? = some (i : Int) ∧ ∀ m, m < r.idxOf i → (r.map fun (x : Nat) => (x : Int))[m]? ≠ some (i : Int) := by
  have hl := List.idxOf_lt_length_of_mem h
  refine ⟨?_, fun m hm e => ?_⟩
  · rw [List.getElem?_map, List.getElem?_eq_getElem hl, List.getElem_idxOf hl]
    rfl
  · rw [List.getElem?_map] at e
    obtain ⟨y, hy, e2⟩ := Option.map_eq_some_iff.mp e
    have hml : m < r.length := by omega
    rw [List.getElem?_eq_getElem hml] at hy
    have e3 := Option.some.inj hy
    have e4 : y = i := by omega
    have h9 : r.idxOf i ≤ m := by
      have h7 : ∀ (l : List Nat) (k : Nat), l[k]? = some i → l.idxOf i ≤ k := fun l => by
        induction l with
        | nil => intro k h; cases h
        | cons c l ih =>
          intro k h
          rw [List.idxOf_cons]
          cases k with
          | zero =>
            have : c = i := by simpa using h
            subst this
            simp
          | succ k =>
            have := ih k (by simpa using h)
            cases (c == i) <;> simp <;> omega
      exact h7 r m (by rw [List.getElem?_eq_getElem hml, e3, e4])
    omega
section
variable {P : Program} {w : World} {K : PySem.W.Frag} {mg : Str → Option Value} {base : Heap}
abbrev PN : List Str := ["part", "item", "word", "arguments"]
theorem sc_matching : FnScope PN PN (defScope s_matching) := ⟨rfl, rfl, rfl, by decide +kernel, rfl, by decide +kernel, by decide +kernel⟩
theorem sc_tree : FnScope PN PN (defScope s_tree) := ⟨rfl, rfl, rfl, by decide +kernel, rfl, by decide +kernel, by decide +kernel⟩
theorem sc_cycle : FnScope PN PN (defScope s_cycle) := ⟨rfl, rfl, rfl, by decide +kernel, rfl, by decide +kernel, by decide +kernel⟩
theorem sc_perm : FnScope PN PN (defScope s_perm) := ⟨rfl, rfl, rfl, by decide +kernel, rfl, by decide +kernel, by decide +kernel⟩
theorem env_ix {H : Hp} {x v wv : V} {z : Str} {ds rest : List PyData} {i : Nat} (hv : Dat H v (.tuple ds)) (hw : Dat H wv (.tuple (.int (i : Nat) :: rest))) (hz : z.length ≤ 1000) : EnvOk [(1, PyData.tuple ds), (3, .tuple (.int (i : Nat) :: rest)), (2, .str z)] [some x, some v, some (.str z), some wv] H := fun p hp => by
  simp only [List.mem_cons, List.not_mem_nil, or_false] at hp
  rcases hp with rfl | rfl | rfl
  · exact ⟨_, rfl, hv⟩
  · exact ⟨_, rfl, hw⟩
  · exact ⟨_, rfl, .str _ hz⟩
theorem mk_ix13 {ds rest : List PyData} {i : Nat} {d : PyData} {z : Str} (hd : ds[i]? = some d) : Mk [(1, PyData.tuple ds), (3, .tuple (.int (i : Nat) :: rest)), (2, .str z)] (tOp (rIxT K) (tVar 1) (tOp (rIxT K) (tVar 3) (tC (.int 0)))) d :=
  mk_ixTn (K := K) (mk_var List.mem_cons_self) (mk_ixT (K := K) (j := 0) (mk_var (List.mem_cons_of_mem _ List.mem_cons_self)) rfl rfl) hd
theorem ok_matching {f : Addr} {fd : FuncData} (F : Fun K "describe_matching" "describe_matching" s_matching f fd) : FnOk P w K mg base CX0 1 f fd PN spIx := by
  refine F.ok sc_matching (fun vs H Q E h => ?_) (fun cdv A outer s H vs Q E hr h => ?_)
  · obtain ⟨x, v, w', z, ds, rest, i, d, rfl, _⟩ := h
    rfl
  · obtain ⟨x, v, w', z, ds, rest, i, d, rfl, hv, hw, hd, q⟩ := h
    refine ⟨_, (pss_one (ps_ret (pe_ix ix_tup (pv 1) (pe_ix ix_tup (pv 3) pe_int (fun _ _ => rfl)) (fun _ _ => rfl)))), ?_⟩
    have E0 : EnvOk [(1, PyData.tuple ds), (3, .tuple (.int (i : Nat) :: rest)), (2, .str "")] [some x, some v, some (.str ""), some w'] H := env_ix hv hw (by decide)
    obtain ⟨a, xs, rfl, ha, hx⟩ := dat_tup hv
    obtain ⟨b, ys, rfl, hb, hy⟩ := dat_tup hw
    obtain ⟨y, hy1, dy⟩ := hx.at hd
    cases hy with
    | cons c t =>
      cases c
      exact ⟨_, rfl, _, rfl, b, _, _, _, rfl, rfl, sqT_rd hb, atI_nat (j := 0) rfl, a, xs, _, y, rfl, rfl, sqT_rd ha, atI_nat hy1, q _ H (Same.refl H) dy⟩
theorem ok_tree {f : Addr} {fd : FuncData} (F : Fun K "describe_tree" "describe_tree" s_tree f fd) : FnOk P w K mg base CX0 1 f fd PN spIx := by
  refine F.ok sc_tree (fun vs H Q E h => ?_) (fun cdv A outer s H vs Q E hr h => ?_)
  · obtain ⟨x, v, w', z, ds, rest, i, d, rfl, _⟩ := h
    rfl
  · obtain ⟨x, v, w', z, ds, rest, i, d, rfl, hv, hw, hd, q⟩ := h
    refine ⟨_, (pss_one (ps_ret (pe_ix ix_tup (pv 1) (pe_ix ix_tup (pv 3) pe_int (fun _ _ => rfl)) (fun _ _ => rfl)))), ?_⟩
    obtain ⟨a, xs, rfl, ha, hx⟩ := dat_tup hv
    obtain ⟨b, ys, rfl, hb, hy⟩ := dat_tup hw
    obtain ⟨y, hy1, dy⟩ := hx.at hd
    cases hy with
    | cons c t =>
      cases c
      exact ⟨_, rfl, _, rfl, b, _, _, _, rfl, rfl, sqT_rd hb, atI_nat (j := 0) rfl, a, xs, _, y, rfl, rfl, sqT_rd ha, atI_nat hy1, q _ H (Same.refl H) dy⟩
theorem ok_cycle {f : Addr} {fd : FuncData} (F : Fun K "describe_cycle" "describe_cycle" s_cycle f fd) : FnOk P w K mg base CX0 1 f fd PN (spIxOf "successor") := by
  refine F.ok sc_cycle (fun vs H Q E h => ?_) (fun cdv A outer s H vs Q E hr h => ?_)
  · obtain ⟨x, v, w', z, r, rest, i, rfl, _⟩ := h
    rfl
  · obtain ⟨x, v, w', z, r, rest, i, rfl, hz, hv, hw, hi, hm, q⟩ := h
    have hfz := fz_dat hv
    refine ⟨_, (pss_cons (ps_if (pt_cmpR op_eq (pv 2) pe_str (nomark _))
        (pss_one (ps_ret (pe_ix ix_tup (pv 1) (pe_ix ix_tup (pv 3) pe_int (fun _ _ => rfl)) (fun _ _ => rfl))))
        pss_nil)
      (pss_one (ps_ret (pe_bmF PySem.F.plainAttrs_tuple PySem.F.slot_tuple_index PySem.F.type_tuple_index mt_tup_indexI (pv 1) (pa_cons (pe_ix ix_tup (pv 3) pe_int (fun _ _ => rfl)) pa_nil))))), ?_⟩
    obtain ⟨a, xs, rfl, ha, hx⟩ := dat_tup hv
    obtain ⟨b, ys, rfl, hb, hy⟩ := dat_tup hw
    obtain rfl := dat_intsV (r := r) hx
    have hix : (r.map fun (x : Nat) => V.int (x : Int))[i]? = some (.int ((r.getD i 0 : Nat) : Int)) := by
      rw [List.getElem?_map, List.getElem?_eq_getElem hi, List.getD_eq_getElem?_getD, List.getElem?_eq_getElem hi]
      rfl
    cases hy with
    | cons c t =>
      cases c
      refine ⟨_, rfl, rfl, _, rfl, ?_⟩
      by_cases e : z = "successor"
      · refine if_t (decide_eq_true (by rw [e])) ?_
        refine ⟨_, rfl, _, rfl, b, _, _, _, rfl, rfl, sqT_rd hb, atI_nat (j := 0) rfl, a, _, _, _, rfl, rfl, sqT_rd ha, atI_nat hix, q _ H (Same.refl H) ?_⟩
        rw [show ansN "successor" r z i = r.getD i 0 from if_pos e]
        exact .int _
      · refine if_f (decide_eq_false fun y => e (V.str.inj y)) ?_
        obtain ⟨f1, f2⟩ := idx_first hm
        refine ⟨_, rfl, hfz, _, rfl, b, _, _, _, rfl, rfl, sqT_rd hb, atI_nat (j := 0) rfl, a, r.map fun (x : Nat) => (x : Int), _, _, rfl, rfl, ?_, f1, f2, q _ H (Same.refl H) ?_⟩
        · rw [List.map_map]
          exact sqT_rd ha
        · rw [show ansN "successor" r z i = r.idxOf i from if_neg e]
          exact .int _
theorem ok_perm {f : Addr} {fd : FuncData} (F : Fun K "describe_permutation" "describe_permutation" s_perm f fd) : FnOk P w K mg base CX0 1 f fd PN (spIxOf "image") := by
  refine F.ok sc_perm (fun vs H Q E h => ?_) (fun cdv A outer s H vs Q E hr h => ?_)
  · obtain ⟨x, v, w', z, r, rest, i, rfl, _⟩ := h
    rfl
  · obtain ⟨x, v, w', z, r, rest, i, rfl, hz, hv, hw, hi, hm, q⟩ := h
    have hfz := fz_dat hv
    refine ⟨_, (pss_cons (ps_if (pt_cmpR op_eq (pv 2) pe_str (nomark _))
        (pss_one (ps_ret (pe_ix ix_tup (pv 1) (pe_ix ix_tup (pv 3) pe_int (fun _ _ => rfl)) (fun _ _ => rfl))))
        pss_nil)
      (pss_one (ps_ret (pe_bmF PySem.F.plainAttrs_tuple PySem.F.slot_tuple_index PySem.F.type_tuple_index mt_tup_indexI (pv 1) (pa_cons (pe_ix ix_tup (pv 3) pe_int (fun _ _ => rfl)) pa_nil))))), ?_⟩
    obtain ⟨a, xs, rfl, ha, hx⟩ := dat_tup hv
    obtain ⟨b, ys, rfl, hb, hy⟩ := dat_tup hw
    obtain rfl := dat_intsV (r := r) hx
    have hix : (r.map fun (x : Nat) => V.int (x : Int))[i]? = some (.int ((r.getD i 0 : Nat) : Int)) := by
      rw [List.getElem?_map, List.getElem?_eq_getElem hi, List.getD_eq_getElem?_getD, List.getElem?_eq_getElem hi]
      rfl
    cases hy with
    | cons c t =>
      cases c
      refine ⟨_, rfl, rfl, _, rfl, ?_⟩
      by_cases e : z = "image"
      · refine if_t (decide_eq_true (by rw [e])) ?_
        refine ⟨_, rfl, _, rfl, b, _, _, _, rfl, rfl, sqT_rd hb, atI_nat (j := 0) rfl, a, _, _, _, rfl, rfl, sqT_rd ha, atI_nat hix, q _ H (Same.refl H) ?_⟩
        rw [show ansN "image" r z i = r.getD i 0 from if_pos e]
        exact .int _
      · refine if_f (decide_eq_false fun y => e (V.str.inj y)) ?_
        obtain ⟨f1, f2⟩ := idx_first hm
        refine ⟨_, rfl, hfz, _, rfl, b, _, _, _, rfl, rfl, sqT_rd hb, atI_nat (j := 0) rfl, a, r.map fun (x : Nat) => (x : Int), _, _, rfl, rfl, ?_, f1, f2, q _ H (Same.refl H) ?_⟩
        · rw [List.map_map]
          exact sqT_rd ha
        · rw [show ansN "image" r z i = r.idxOf i from if_neg e]
          exact .int _
end
end KB
set_option maxRecDepth 100000
set_option maxHeartbeats 8000000
namespace KB
open PySem PySem.Spec PyProof.Rows L2
/-! ### those of a tuple that pass a test -/
theorem filter_snoc {α : Type} {p : α → Bool} {rs : List α} {j : Nat} {r : α} (h : rs[j]? = some r) : (rs.take (j + 1)).filter p = (rs.take j).filter p ++ (if p r = true then [r] else []) := by
  rw [take_sub h, List.filter_append]
  by_cases hp : p r = true
  · rw [if_pos hp, List.filter_cons_of_pos hp]
    rfl
  · rw [if_neg hp, List.filter_cons_of_neg hp]
    rfl
theorem mkf_tupT {α : Type} {g : α → PyData} {p : α → Bool} {K : PySem.W.Frag} {N i : Nat} {G : List (Nat × PyData)} {t : TE} {tt : TT} {rs : List α} (h : Mk G t (.tuple (rs.map g))) (hn : rs.length ≤ 50000) (no : ∀ r ∈ rs, noL (g r) = true) (hG : G.all (fun p => p.1 != i) = true) (hi : i < N)
    (ht : ∀ r ∈ rs, MkT ((i, g r) :: G) tt (p r)) : MkF N G (tLc (iTup K t) (gName i) tt (tVar i) [i]) ((rs.filter p).map g) := fun σ H Q hN E q => h σ H _ E fun v H1 S1 d1 => by
  have hG := ne_of hG
  obtain ⟨a, xs, rfl, ha, hx⟩ := dat_tup d1
  have hxl := hx.len
  rw [List.length_map] at hxl
  have E1 := (E.same S1).none hG
  refine ⟨a, rfl, ⟨_, sqT_rd ha⟩, fun D nD => lc_tup (K := K) (xs := xs) (fun j Hz => Gr H1 D (((rs.take j).filter p).map g) Hz) (by rw [List.take_zero]; exact Gr.start nD) (fun j Hz _ gr => sqT_rd (upR ha gr.2.1)) ?_ ?_⟩
  · rintro j y Hz hy gr
    obtain ⟨d, hd, dy⟩ := hx.get hy
    rw [List.getElem?_map] at hd
    obtain ⟨r, hr, rfl⟩ := Option.map_eq_some_iff.mp hd
    have hm := List.mem_of_getElem? hr
    refine ⟨wipe_one, ?_⟩
    have E2 := (E1.same gr.2.1).put hG (by rw [List.length_set, hN]; exact hi) (dy.same gr.2.1)
    refine ht r hm _ Hz _ E2 fun H2 S2 => ?_
    have g2 := gr.same S2
    rw [filter_snoc hr, List.map_append]
    by_cases hp : p r = true
    · rw [if_pos hp, if_pos hp]
      refine ⟨y, List.getElem?_set_self (by show i < (List.set σ i none).length; rw [List.length_set, hN]; exact hi), ?_⟩
      obtain ⟨zs, hL, hzl, _, g'⟩ := g2.add (Same.refl _) (.cons (dy.same g2.2.1) .nil) (by show noLs [g r] = true; simp [noLs, no r hm])
      have hfl := List.length_filter_le p (rs.take j)
      rw [List.length_map] at hzl
      rw [List.length_take] at hfl
      exact ⟨zs, hL, by rw [sizeLine_eq]; omega, g'⟩
    · rw [if_neg hp, if_neg hp, List.map_nil, List.append_nil]
      exact g2
  · rintro Hz gr
    rw [hxl, List.take_length] at gr
    obtain ⟨zs, H0, n0, S0, S2, e, d⟩ := gr_out gr
    exact q D zs H0 Hz n0 (S1.trans S0) S2 e d
theorem mkn_lenL {K : PySem.W.Frag} {N : Nat} {G : List (Nat × PyData)} {t : TE} {ds : List PyData} {n : Nat} (h : MkN N G t (.list ds)) (e : ds.length = n) : MkN N G (tCB (rLenS K) (tCons t tNil)) (.int ((n : Nat) : Int)) := fun σ H Q hN E q => h σ H _ hN E fun v H1 S1 d1 => by
  obtain ⟨a, xs, rfl, ha, hx⟩ := dat_lst d1
  refine ⟨a, xs, rfl, .inl (SqL.of ha), ?_⟩
  rw [hx.len, e]
  exact q _ H1 S1 (.int _)
theorem in_ints (i : Nat) : ∀ r : List Nat, inV (.int (i : Int)) (r.map fun (x : Nat) => V.int (x : Int)) = decide (i ∈ r)
  | [] => by simp [inV]
  | a :: r => by
    have ih := in_ints i r
    unfold inV at ih ⊢
    rw [List.map_cons, List.any_cons, ih]
    by_cases h : a = i
    · subst h
      simp [eqV]
    · have h2 : ¬ ((a : Int) = (i : Int)) := fun e => h (by omega)
      have h3 : ¬ i = a := fun e => h e.symm
      simp [eqV, h2, h3]
theorem flat_nats (r : List Nat) : (r.map fun (x : Nat) => V.int (x : Int)).all flatV = true := by
  rw [List.all_map]
  exact List.all_eq_true.mpr fun _ _ => rfl
/-- i in a tuple of ints -/
theorem mk_inI {K : PySem.W.Frag} {G : List (Nat × PyData)} {t u : TE} {i : Nat} {r : List Nat} (h : Mk G t (.int ((i : Nat) : Int))) (h2 : Mk G u (rowD r)) : Mk G (tOp (rIn K false) t u) (.bool (decide (i ∈ r))) := fun σ H Q E q => h σ H _ E fun v H1 S1 d1 => h2 σ H1 _ (E.same S1) fun w H2 S2 d2 => by
  obtain rfl := dat_isInt d1
  obtain ⟨a, xs, rfl, ha, hx⟩ := dat_tup d2
  obtain rfl := dat_intsV (r := r) hx
  refine ⟨a, _, rfl, .inr (sqT_rd ha), rfl, flat_nats r, ?_⟩
  rw [if_neg Bool.false_ne_true, in_ints]
  exact q _ H2 (S1.trans S2) (.bl _)
/-! ### describe_subset -/
def ansS (r : List Nat) (z : Str) (i : Nat) : PyData := if z = "contains" then .bool (decide (i ∈ r)) else if z = "rank" then .int ((r.filter fun x => decide (x < i)).length : Nat) else .int (r.getD i 0 : Nat)
def spDSub : Sp := fun vs H Q _ => ∃ (x v w : V) (z : Str) (r : List Nat) (rest : List PyData) (i : Nat), vs = [x, v, .str z, w] ∧ z.length ≤ 1000 ∧ r.length ≤ 50000 ∧ Dat H v (rowD r) ∧ Dat H w (.tuple (.int (i : Nat) :: rest)) ∧ (z ≠ "contains" → z ≠ "rank" → i < r.length) ∧ ∀ u H', Same H H' → Dat H' u (ansS r z i) → Q u H'
abbrev s_dsub : Stmt := top 5
section
variable {P : Program} {w : World} {K : PySem.W.Frag} {mg : Str → Option Value} {base : Heap}
theorem sc_dsub : FnScope ["part", "item", "word", "arguments", "member"] ["part", "item", "word", "arguments"] (defScope s_dsub) := ⟨rfl, rfl, rfl, by decide +kernel, rfl, by decide +kernel, by decide +kernel⟩
theorem ok_dsub {f : Addr} {fd : FuncData} (F : Fun K "describe_subset" "describe_subset" s_dsub f fd) (T : Nm mg) : FnOk P w K mg base CX0 1 f fd ["part", "item", "word", "arguments"] spDSub := by
  refine F.ok sc_dsub (fun vs H Q E h => ?_) (fun cdv A outer s H vs Q E hr h => ?_)
  · obtain ⟨x, v, w', z, r, rest, i, rfl, _⟩ := h
    rfl
  · obtain ⟨x, v, w', z, r, rest, i, rfl, hz, hrl, hv, hw, hi, q⟩ := h
    refine ⟨_, (pss_cons (ps_if (pt_cmpR op_eq (pv 2) pe_str (nomark _))
        (pss_one (ps_ret (pe_cmpR op_in_seq (pe_ix ix_tup (pv 3) pe_int (fun _ _ => rfl)) (pv 1) rfl)))
        pss_nil)
      (pss_cons (ps_if (pt_cmpR op_eq (pv 2) pe_str (nomark _))
        (pss_one (ps_ret (pe_callB cr_lenS (by rfl) T.len PySem.boot_len (pa_cons (pe_lc (own := [("member", 4)]) (g := (gName 4)) (tt := tTest (tOp (rI0 fun i j => .bl (decide (i < j))) (tVar 4) (tOp (rIxT K) (tVar 3) (tC (.int 0))))) (te := tVar 4) rfl sc_dsub.nd (pi_tup (pv 1)) (blkOk_by (N := ["part", "item", "word", "arguments", "member"]) (sc := defScope s_dsub) (by decide +kernel))
          (fun _ _ _ _ _ => (pg_name (i := 4) sc_dsub.nd rfl (Or.inl rfl))) (fun _ _ _ _ _ => pts_one (pt_cmpR op_lt (pv 4) (pe_ix ix_tup (pv 3) pe_int (fun _ _ => rfl)) (nomark _))) (fun _ _ _ _ _ => (pv 4))) pa_nil))))
        pss_nil)
      (pss_one (ps_ret (pe_ix ix_tup (pv 1) (pe_ix ix_tup (pv 3) pe_int (fun _ _ => rfl)) (fun _ _ => rfl)))))), ?_⟩
    have E0 : EnvOk [(1, rowD r), (3, .tuple (.int (i : Nat) :: rest)), (2, .str z)] [some x, some v, some (.str z), some w', none] H := fun p hp => by
      simp only [List.mem_cons, List.not_mem_nil, or_false] at hp
      rcases hp with rfl | rfl | rfl
      · exact ⟨_, rfl, hv⟩
      · exact ⟨_, rfl, hw⟩
      · exact ⟨_, rfl, .str _ hz⟩
    have M0 : Mk [(1, rowD r), (3, .tuple (.int (i : Nat) :: rest)), (2, .str z)] (tOp (rIxT K) (tVar 3) (tC (.int 0))) (.int (i : Nat)) := mk_ixT (K := K) (j := 0) (mk_var (List.mem_cons_of_mem _ List.mem_cons_self)) rfl rfl
    have M2 : Mk [(1, rowD r), (3, .tuple (.int (i : Nat) :: rest)), (2, .str z)] (tVar 2) (.str z) := mk_var (List.mem_cons_of_mem _ (List.mem_cons_of_mem _ List.mem_cons_self))
    have M1 : Mk [(1, rowD r), (3, .tuple (.int (i : Nat) :: rest)), (2, .str z)] (tVar 1) (rowD r) := mk_var List.mem_cons_self
    by_cases e1 : z = "contains"
    · refine sq_if1 (mkt (mk_eqS M2 (mk_str (by decide)) (decide_eq_true (by rw [e1])))) E0 fun H1 S1 => ?_
      refine ret_ofX (mk_inI (K := K) M0 M1 _ H1 _ (E0.same S1) fun u H2 S2 d2 => q u H2 (S1.trans S2) ?_)
      rw [show ansS r z i = .bool (decide (i ∈ r)) from if_pos e1]
      exact d2
    · refine sq_if0 (mkt (mk_eqS M2 (mk_str (by decide)) (decide_eq_false fun y => e1 (V.str.inj y)))) E0 fun H1 S1 => ?_
      by_cases e2 : z = "rank"
      · refine sq_if1 (mkt (mk_eqS M2 (mk_str (by decide)) (decide_eq_true (by rw [e2])))) (E0.same S1) fun H2 S2 => ?_
        have MF := mkf_tupT (K := K) (N := 5) (i := 4) (g := fun (x : Nat) => PyData.int (x : Int)) (p := fun x => decide (x < i)) (rs := r) M1 hrl (fun _ _ => rfl) rfl (by decide) (tt := tTest (tOp (rI0 fun i j => .bl (decide (i < j))) (tVar 4) (tOp (rIxT K) (tVar 3) (tC (.int 0))))) fun y hy => mkt (mk_cmp (mk_var List.mem_cons_self) (mk_ixT (K := K) (j := 0) (d := .int (i : Nat)) (ds := .int (i : Nat) :: rest) (mk_var (List.mem_cons_of_mem _ (List.mem_cons_of_mem _ List.mem_cons_self))) rfl rfl) (congrArg V.bl (decide_eq_decide.mpr (by omega))))
        refine ret_ofX (mkn_lenL (K := K) MF.n (List.length_map ..) _ H2 _ rfl ((E0.same S1).same S2) fun u H3 S3 d3 => q u H3 ((S1.trans S2).trans S3) ?_)
        rw [show ansS r z i = .int ((r.filter fun x => decide (x < i)).length : Nat) from (if_neg e1).trans (if_pos e2)]
        exact d3
      · refine sq_if0 (mkt (mk_eqS M2 (mk_str (by decide)) (decide_eq_false fun y => e2 (V.str.inj y)))) (E0.same S1) fun H2 S2 => ?_
        have hil := hi e1 e2
        refine ret_ofX (mk_ixTn (K := K) (d := .int (r.getD i 0 : Nat)) M1 M0 ?_ _ H2 _ ((E0.same S1).same S2) fun u H3 S3 d3 => q u H3 ((S1.trans S2).trans S3) ?_)
        · rw [List.getElem?_map, List.getElem?_eq_getElem hil, List.getD_eq_getElem?_getD, List.getElem?_eq_getElem hil]
          rfl
        · rw [show ansS r z i = .int (r.getD i 0 : Nat) from (if_neg e1).trans (if_neg e2)]
          exact d3
end
end KB
set_option maxRecDepth 1000000
set_option maxHeartbeats 8000000
namespace KB
open PySem PySem.Spec PyProof.Rows L2
/-! ### enumerate(a tuple) in loops -/
theorem en_new {v : Value} {o : Obj} {H : Heap → Prop} (B : Begins v o H) :
    Meets (Builtin.«enumerate.__new__» ⟨[.type "enumerate", v], []⟩) (fun _ R s => H s.heap ∧
      R (.ok (.ret (.ref (s.heap.push o).objs.size))) { s with heap := (s.heap.push o).push { cls := .type "enumerate", data := .fields #[.none, .bool false, .ref s.heap.objs.size, rawInt 0, .none, .none] } }) :=
  .of_wp fun prog w A R s h => by
    obtain ⟨hp, g, d, tk, os⟩ := s
    obtain ⟨h1, h⟩ := h
    have hsub := sub_enumerate
    have q1 : ∀ {A' : Around} {E : Value → Shared → Prop} {Q : Value → Shared → Prop}, Q (.ref hp.objs.size) ⟨hp.push o, g, d, tk, os⟩ → wpAny (model prog w) A' (pyIter v) Q E ⟨hp, g, d, tk, os⟩ :=
      fun q => B.iter prog w _ _ ⟨hp, g, d, tk, os⟩ _ h1 q
    wp_walk using q1
    refine wpAny_stack_any fun st => wpAny_pure ?_
    split
    · rename_i c _ _ _ _ _
      cases (c == Value.type "enumerate")
      · wp_walk using q1
        exact ⟨_, rfl, h⟩
      · wp_walk using q1
        exact ⟨_, rfl, h⟩
    · wp_walk using q1
      exact ⟨_, rfl, h⟩
section
variable {prog : Program} {w : World} {A : Around} {E : Value → Shared → Prop} {s : Shared}
theorem call_enum_tup {t : Addr} {items : Array Value} {Q : Value → Shared → Prop} (ht : s.heap.IsTuple t items)
    (h : ∀ h', IsEnum h' (s.heap.objs.size + 1) s.heap.objs.size 0 .none → h'.IsTupleIter s.heap.objs.size t 0 → (∀ b o, s.heap.get? b = some o → h'.get? b = some o) → Q (.ref (s.heap.objs.size + 1)) { s with heap := h' }) :
    wpAny (model prog w) A (call (.type "enumerate") [.ref t]) Q E s := by
  have B := begins_tuple t items
  refine callType_new F.called_enumerate (by decide) (F.typeCall_enumerate_1 _) (F.newCall_enumerate_1 _) (fun obj => F.args_object_init_2 obj _) F.entry_enumerate_new (en_new B) ⟨ht, ?_⟩
  have hz : (s.heap.push { cls := .type "tuple_iterator", data := .fields #[.ref t, .int 0 0] }).objs.size = s.heap.objs.size + 1 := Heap.size_push ..
  show _ ∧ _
  rw [hz]
  have he : IsEnum ((s.heap.push { cls := .type "tuple_iterator", data := .fields #[.ref t, .int 0 0] }).push { cls := .type "enumerate", data := .fields #[.none, .bool false, .ref s.heap.objs.size, rawInt 0, .none, .none] }) (s.heap.objs.size + 1) s.heap.objs.size 0 .none := by
    have := Heap.get?_push_size (s.heap.push { cls := .type "tuple_iterator", data := .fields #[.ref t, .int 0 0] }) (o := { cls := .type "enumerate", data := .fields #[.none, .bool false, .ref s.heap.objs.size, rawInt 0, .none, .none] }) rfl
    rw [hz] at this
    exact this
  exact ⟨⟨_, he, rfl⟩, h _ he ⟨_, Heap.get?_push_of_some _ (Heap.get?_push_size _ rfl), rfl, rfl⟩ fun b o x => Heap.get?_push_of_some _ (Heap.get?_push_of_some _ x)⟩
end
/-- the tuple at a, each item in a new pair -/
def IteT (K : PySem.W.Frag) (a : Addr) : It :=
  ⟨fun i H => ∃ (xs : List V) (x : V), SqT K H a xs ∧ xs[i]? = some x, fun i H v H' => ∃ T x, v = .ref T ∧ H T = none ∧ H' = upd H T (.tup [.int (i : Nat), x]) ∧ ∀ xs, SqT K H a xs → xs[i]? = some x, fun i H => ∃ xs : List V, SqT K H a xs ∧ xs.length = i⟩
theorem turn_enumT {P : Program} {w : World} {K : PySem.W.Frag} {elts : List Expr} {kk : Nat} {tpos : Pos} (a e it : Addr) (hae : a ≠ e) (hai : a ≠ it) :
    Turn P w K (.Tuple elts kk tpos) (IteT K a) [e, it] e (fun i h => (∃ old, IsEnum h e it ((i : Nat) : Int) old) ∧ h.IsTupleIter it a i ∧ e ≠ it) where
  mem := by simp
  obj := fun i h st b hb => by
    obtain ⟨⟨old, he⟩, ⟨o, ho, hc, hd⟩, _⟩ := st
    have e' : b = e ∨ b = it := by simpa using hb
    rcases e' with z | z
    · rw [z]; exact ⟨_, he, fun v q => nomatch q⟩
    · rw [z]; exact ⟨o, ho, fun v q => by rw [hd] at q; cases q⟩
  keep := fun i h h' st k => let ⟨⟨old, he⟩, hi, hne⟩ := st; ⟨⟨old, k e (by simp) _ he⟩, hi.at fun o q => k it (by simp) o q, hne⟩
  item := by
    intro X hP hw hK hc i pins s σ H E I hf st hg
    subst hP hw hK
    obtain ⟨⟨old, he⟩, hit, hne⟩ := st
    obtain ⟨xs, x, hq, hx⟩ := hg
    obtain ⟨its, rv, p, hz⟩ := I.tuple hq
    obtain ⟨u, hu, ru⟩ := rv.get hx
    have hel : e < s.heap.objs.size := Heap.lt_size he
    have hil : it < s.heap.objs.size := by obtain ⟨_, q, _⟩ := hit; exact Heap.lt_size q
    have hlt : i < its.toArray.size := by rw [List.size_toArray]; exact (List.getElem?_eq_some_iff.mp hu).1
    refine wpAny_pyNext_enum_itemC (Draws.tuple (prog := X.prog) (w := X.w) (A := X.A.in1) (I.ok.hd hc) it a hai its.toArray) he ⟨hit, p⟩ hlt hne (by simp [hne, Ne.symm hae]) fun y h' tk hy ho hst hT hsz hk => ?_
    obtain rfl : u = y := by
      have hu' : its.toArray[i]? = some u := by simpa using hu
      exact Option.some.inj (hu'.symm.trans hy)
    refine ⟨_, rfl, wpAny_letOwnedTupleGo_enum (s := { s with heap := h', toks := tk + 1 }) ho fun h'' he' sb => ?_⟩
    have hT2 : h''.get? s.heap.objs.size = some { cls := .type "tuple", data := .seq #[.int i tk, u] } := (sb.2 _ (Nat.ne_of_gt hel)).trans hT
    have new : ObjOk X.prog X.w (upd H s.heap.objs.size (.tup [.int (i : Nat), x])) h'' s.heap.objs.size (.tup [.int (i : Nat), x]) :=
      ⟨by show 2 ≤ sizeLine; decide, [.int i tk, u], .cons ⟨_, rfl⟩ (.cons ru .nil), ⟨_, hT2, rfl, _, rfl⟩⟩
    have I1 : Inv X pins σ (upd H s.heap.objs.size (.tup [.int (i : Nat), x])) { s with heap := h'', toks := tk + 1 } :=
      I.turnedNew (ch := [e, it]) (fun b ob hb q => (sb.2 b (fun z => hb (by simp [z]))).trans (hk b ob (fun z => hb (by simp [z])) (fun z => hb (by simp [z])) q)) hf (Nat.le_refl _) new
    refine ⟨.ref s.heap.objs.size, _, I1, rfl, ⟨_, x, rfl, I.hok.fresh (Nat.le_refl _), rfl, fun ys hy => by rw [I.tuple_inj hy hq]; exact hx⟩, ⟨⟨u, ?_⟩, hst.1.at fun o q => (sb.2 it (Ne.symm hne)).trans q, hne⟩, fun b hb => ?_⟩
    · have e1 : ((i + 1 : Nat) : Int) = (i : Int) + 1 := by omega
      rw [e1]; exact he'
    · have hb' : b < s.heap.objs.size := by
        have e' : b = e ∨ b = it := by simpa using hb
        rcases e' with z | z
        · rw [z]; exact hel
        · rw [z]; exact hil
      rw [upd_ne (Nat.ne_of_lt hb')]
      exact (hf b hb).1
  done := by
    intro X hP hw hK hc i pins s σ H E I hf st hg
    subst hP hw hK
    obtain ⟨⟨old, he⟩, hit, hne⟩ := st
    obtain ⟨xs, hq, hx⟩ := hg
    obtain ⟨its, rv, p, hz⟩ := I.tuple hq
    obtain ⟨f0, f1, f2, f3, f4, f5⟩ := hf it (by simp)
    have hl := rv.length
    have hi : i = its.toArray.size := by
      rw [List.size_toArray]
      omega
    subst hi
    exact wpAny_pyNext_enum_endD (Draws.tuple (prog := X.prog) (w := X.w) (A := X.A.in1) (I.ok.hd hc) it a hai its.toArray) he ⟨hit, p⟩ fun h' eb => ⟨rfl, I.turned (t' := s.toks) (fun b o hb q => eb b o hb q) f0 f1 f3 f4 f5⟩
  self := fun A i s Q E st h => let ⟨⟨_, he⟩, _⟩ := st; wpAny_pyIter_enum he h
def iEnumT (K : PySem.W.Frag) (ta : TA) : TI := fun σ H R => ta σ H fun vs H1 => ∃ a xs, vs = [.ref a] ∧ SqT K H1 a xs ∧ R (IteT K a) H1
theorem pi_enumT {X : Cx} {e : Expr} {ta : TA} {p pos tpos : Pos} {elts : List Expr} {kk : Nat} (hg : Gl X "enumerate") (hm : X.mg "enumerate" = none) (ha : PA X [e] ta) (hs : starEach [e] X.env = [(false, eval e X.env)] := by rfl) :
    PI X (.Tuple elts kk tpos) (.Call (.Name "enumerate" p) [e] [] pos) (iEnumT X.K ta) := by
  refine ⟨fun pins s σ H R I h => ?_⟩
  refine Call_ (ld_blt I hg hm boot_enumerate (PyProof.Rows.callWith_type1 (thn (ha.run pos pins s σ H _ I h) fun us s1 ⟨vs, H1, I1, r1, q1⟩ => ?_) hs rfl))
  obtain ⟨a, xs, ex, hq, q⟩ := q1
  subst ex
  cases r1 with
  | cons r rr =>
    cases rr
    cases r
    obtain ⟨its, rv, p', hz⟩ := I1.tuple hq
    have la : a < s1.heap.objs.size := by
      obtain ⟨o, ho, _⟩ := p'
      exact Heap.lt_size ho
    refine call_enum_tup p' fun h' he hit hk => wpAny_pyIter_enum he ?_
    have I2 : Inv X pins σ H1 { s1 with heap := h' } := I1.kept (t' := s1.toks) hk
    refine ⟨s1.heap.objs.size + 1, [s1.heap.objs.size + 1, s1.heap.objs.size], _, _, H1, rfl, I2, turn_enumT a (s1.heap.objs.size + 1) s1.heap.objs.size (Nat.ne_of_lt (Nat.lt_succ_of_lt la)) (Nat.ne_of_lt la), ⟨⟨.none, he⟩, hit, Nat.succ_ne_self _⟩, fun b hb => ?_, q⟩
    have e' : b = s1.heap.objs.size + 1 ∨ b = s1.heap.objs.size := by simpa using hb
    have hle : s1.heap.objs.size ≤ b := by
      rcases e' with z | z
      · rw [z]; exact Nat.le_add_right _ _
      · rw [z]; exact Nat.le_refl _
    exact I1.fpOk hle (I1.hok.fresh hle)
theorem walk_enumT {K : PySem.W.Frag} {a : Addr} {xs : List V} : Walk (IteT K a) xs.length (fun H => SqT K H a xs) (YPair (fun i => some (.int (i : Nat))) (fun i => xs[i]?)) := by
  refine ⟨fun i _ hi q => ⟨xs, xs[i], q, by simp [hi]⟩, fun _ q => ⟨xs, q, rfl⟩, fun i H v H' _ q y => ?_⟩
  obtain ⟨T, x, h1, h2, h3, h4⟩ := y
  exact ⟨T, .int (i : Nat), x, h1, h2, h3, rfl, h4 xs q⟩
end KB
set_option maxRecDepth 100000
set_option maxHeartbeats 8000000
namespace KB
open PySem PySem.Spec PyProof.Rows L2
/-! ### places of a letter in a row -/
def strsD (l : List Str) : List PyData := l.map PyData.str
def placesM (l : List Str) (z : Str) : List Nat := (List.range l.length).filter fun i => decide (l[i]? = some z)
theorem ints_noL (l : List Nat) : noLs (intsD l) = true := noLs_iff.mpr fun d hd => by
  obtain ⟨k, _, rfl⟩ := List.mem_map.mp hd
  rfl
abbrev s_places : Stmt := top 8
def spPlaces : Sp := fun vs H Q _ => ∃ (v : V) (l : List Str) (z : Str), vs = [v, .str z] ∧ Dat H v (.tuple (strsD l)) ∧ l.length ≤ 50000 ∧ Fresh H Q (fun ds => ds = intsD (placesM l z))
section
variable {P : Program} {w : World} {K : PySem.W.Frag} {mg : Str → Option Value} {base : Heap}
theorem sc_places : FnScope ["row", "wanted", "place", "item"] ["row", "wanted"] (defScope s_places) := ⟨rfl, rfl, rfl, by decide +kernel, rfl, by decide +kernel, by decide +kernel⟩
theorem ok_places {f : Addr} {fd : FuncData} (F : Fun K "places_of" "places_of" s_places f fd) (T : Nm mg) : FnOk P w K mg base CX0 1 f fd ["row", "wanted"] spPlaces := by
  refine F.ok sc_places (fun vs H Q E h => ?_) (fun cdv A outer s H vs Q E hr h => ?_)
  · obtain ⟨v, l, z, rfl, _⟩ := h
    rfl
  · obtain ⟨v, l, z, rfl, hv, hl, q⟩ := h
    refine ⟨_, (pss_one (ps_ret (pe_lc (own := [("place", 2), ("item", 3)]) (g := (gTup K 2 (gCons (gName 2) (gCons (gName 3) gNil)))) (tt := tTest (tOp rEq (tVar 3) (tVar 1))) (te := tVar 2) rfl sc_places.nd (pi_enumT (by rfl) T.enumerate (pa_cons (pv 0) pa_nil)) (blkOk_by (N := ["row", "wanted", "place", "item"]) (sc := defScope s_places) (by decide +kernel))
          (fun _ _ _ _ _ => (pg_tup rfl (pgs_cons (pg_name (i := 2) sc_places.nd rfl (Or.inl rfl)) (pgs_cons (pg_name (i := 3) sc_places.nd rfl (Or.inl rfl)) pgs_nil)))) (fun _ _ _ _ _ => pts_one (pt_cmpR op_eq (pv 3) (pv 1) (nomark _))) (fun _ _ _ _ _ => (pv 2))))), ?_⟩
    obtain ⟨a, xs, rfl, ha, hx⟩ := dat_tup hv
    have hxs : xs = l.map V.str := dat_strs hx
    subst hxs
    refine ⟨_, rfl, a, _, rfl, sqT_rd ha, fun D nD => lc_it (walk_enumT (K := K) (a := a) (xs := l.map V.str)) (fun j Hz => Gr H D (intsD ((List.range j).filter fun i => decide (l[i]? = some z))) Hz) (Gr.start nD) (fun j Hz _ g => sqT_rd (upR ha g.2.1)) ?_ ?_⟩
    · rintro j x Hz Hy hj g ⟨T0, x0, y0, rfl, nT, rfl, e1, e2⟩
      cases e1
      replace e2 : (l.map V.str)[j]? = some y0 := e2
      rw [List.getElem?_map] at e2
      obtain ⟨c, hc, rfl⟩ := Option.map_eq_some_iff.mp e2
      have g1 := g.same (same_new (o := HO.tup [.int (j : Nat), .str c]) nT)
      refine ⟨T0, _, rfl, SqT.of upd_same, rfl, _, _, rfl, _, _, rfl, rfl, rfl, _, rfl, _, rfl, rfl, _, rfl, ?_⟩
      have hfl := List.length_filter_le (fun i => decide (l[i]? = some z)) (List.range j)
      rw [List.length_range] at hfl
      rw [List.length_map] at hj
      have es : (List.range (j + 1)).filter (fun i => decide (l[i]? = some z)) = (List.range j).filter (fun i => decide (l[i]? = some z)) ++ (if c = z then [j] else []) := by
        rw [List.range_succ, List.filter_append]
        by_cases h : c = z
        · rw [if_pos h, List.filter_cons_of_pos (by rw [hc, h]; simp)]
          rfl
        · rw [if_neg h, List.filter_cons_of_neg (by rw [hc]; simpa using h)]
          rfl
      rw [es]
      by_cases h : c = z
      · rw [if_pos h]
        refine if_t (decide_eq_true (by rw [h])) ?_
        obtain ⟨zs, hL, hzl, _, g'⟩ := g1.add (Same.refl _) (.cons (.int ((j : Nat) : Int)) .nil) (by rfl)
        unfold intsD at hzl
        rw [List.length_map] at hzl
        refine ⟨_, rfl, zs, hL, by rw [sizeLine_eq]; omega, ?_⟩
        unfold intsD at g' ⊢
        rw [List.map_append]
        exact g'
      · rw [if_neg h, List.append_nil]
        exact if_f (decide_eq_false fun y => h (V.str.inj y)) g1
    · rintro Hz g
      rw [List.length_map] at g
      obtain ⟨zs, H0, n0, S0, S2, e, d⟩ := gr_out g
      exact q D zs _ Hz (none_back S0 n0) (S0.trans S2) e (d.same S2) rfl
end
end KB
set_option maxRecDepth 100000
set_option maxHeartbeats 8000000
namespace KB
open PySem PySem.Spec PyProof.Rows L2
/-! ### how often each letter stands in a row -/
abbrev s_count : Stmt := top 9
def cntsM (ls row : List Str) : List Nat := ls.map fun z => (placesM row z).length
def cntF (row : List Str) : PyData → PyData
  | .str z => .int ((placesM row z).length : Nat)
  | _ => .none
def spCount : Sp := fun vs H Q _ => ∃ (v x : V) (ls row : List Str), vs = [v, x] ∧ Dat H v (.list (strsD ls)) ∧ Dat H x (.tuple (strsD row)) ∧ ls.length ≤ 1000 ∧ row.length ≤ 1000 ∧ ∀ u H', Same H H' → Dat H' u (.tuple (intsD (cntsM ls row))) → Q u H'
section
variable {P : Program} {w : World} {K : PySem.W.Frag} {mg : Str → Option Value} {base : Heap}
theorem sc_count : FnScope ["letters", "row", "letter"] ["letters", "row"] (defScope s_count) := ⟨rfl, rfl, rfl, by decide +kernel, rfl, by decide +kernel, by decide +kernel⟩
theorem ok_count {f fP : Addr} {fd fdP : FuncData} (F : Fun K "count_each" "count_each" s_count f fd) (T : Nm mg) (D_places : DefOk K mg "places_of" s_places ["row", "wanted"] fP fdP) : FnOk P w K mg base CX0 2 f fd ["letters", "row"] spCount := by
  have G_places : FnOk P w K mg base CX0 1 fP fdP ["row", "wanted"] spPlaces := ok_places D_places.F T
  refine F.ok sc_count (fun vs H Q E h => ?_) (fun cdv A outer s H vs Q E hr h => ?_)
  · obtain ⟨v, x, ls, row, rfl, _⟩ := h
    rfl
  · obtain ⟨v, x, ls, row, rfl, hv, hx, hl, hrl, q⟩ := h
    refine ⟨_, (pss_one (ps_ret (pe_callTy call_tupF (by rfl) T.tuple (by decide +kernel) (pa_cons (pe_lc (own := [("letter", 2)]) (g := (gName 2)) (tt := tYes) (te := tCB (rLenS K) (tCons (tCall spPlaces [] L2.E0 (tCons (tVar 1) (tCons (tVar 2) tNil))) tNil)) rfl sc_count.nd (pi_list (pv 0)) (blkOk_by (N := ["letters", "row", "letter"]) (sc := defScope s_count) (by decide +kernel))
          (fun _ _ _ _ _ => (pg_name (i := 2) sc_count.nd rfl (Or.inl rfl))) (fun _ _ _ _ _ => pts_nil) (fun _ _ _ _ _ => (pe_callB cr_lenS (by rfl) T.len PySem.boot_len (pa_cons (pe_call G_places hr rfl D_places.g D_places.F.kp D_places.b .nil pass0 (pa_cons (pv 1) (pa_cons (pv 2) pa_nil))) pa_nil)))) pa_nil)))), ?_⟩
    have E0 : EnvOk [(0, PyData.list (strsD ls)), (1, .tuple (strsD row))] [some v, some x, none] H := fun p hp => by
      simp only [List.mem_cons, List.not_mem_nil, or_false] at hp
      rcases hp with rfl | rfl
      · exact ⟨_, rfl, hv⟩
      · exact ⟨_, rfl, hx⟩
    have MF := mkf_list (K := K) (N := 3) (i := 2) (G := [(0, PyData.list (strsD ls)), (1, .tuple (strsD row))]) (ds := strsD ls) (f := cntF row) (t := tVar 0) (te := tCB (rLenS K) (tCons (tCall spPlaces [] L2.E0 (tCons (tVar 1) (tCons (tVar 2) tNil))) tNil)) (mk_var List.mem_cons_self) (by unfold strsD; rw [List.length_map]; omega) rfl (by decide) (fun d hd => by
      obtain ⟨z, hz, rfl⟩ := List.mem_map.mp hd
      intro σ2 H2 Q2 E2 k2
      obtain ⟨y, hy, dy⟩ := E2 (1, .tuple (strsD row)) (by simp)
      obtain ⟨u, hu, du⟩ := E2 (2, .str z) List.mem_cons_self
      obtain rfl := dat_strV du
      refine ⟨y, hy, _, hu, y, row, z, rfl, dy, by omega, fun L zs ds H3 n3 S3 e3 d3 h3 => ⟨L, zs, rfl, .inl (SqL.of e3), ?_⟩⟩
      rw [d3.len, h3]
      unfold intsD
      rw [List.length_map]
      exact k2 _ H3 S3 (.int _)) (fun d hd => by
      obtain ⟨z, hz, rfl⟩ := List.mem_map.mp hd
      rfl)
    refine ret_ofX (mkn_tupL (K := K) MF.n _ H _ rfl E0 fun u H' S d => q u H' S ?_)
    have e : (strsD ls).map (cntF row) = intsD (cntsM ls row) := by
      unfold strsD intsD cntsM
      rw [List.map_map, List.map_map]
      rfl
    rw [← e]
    exact d
end
end KB
set_option maxRecDepth 100000
set_option maxHeartbeats 8000000
namespace KB
open PySem PySem.Spec PyProof.Rows L2
/-! ### loops over pairs, over enumerate(a tuple): another list grows -/
section
variable {N : Nat} {G : List (Nat × PyData)} {Hi : Hp} {i k : Nat} {d : PyData} {ds es : List PyData} {σ : L2.St} {H : Hp} {te : TE} {D : Ends} {R : TS}
/-- for a, b in (a list that is known, of pairs): another list grows -/
theorem for_lstP {α : Type} {g1 g2 : α → PyData} {K : PySem.W.Frag} {a b c : Nat} {tb : TS} {rs : List α} {fF : α → List PyData} (S : ST Hi G k ds σ H) (hN : σ.length = N) (hc : (c, .list (rs.map fun r => .tuple [g1 r, g2 r])) ∈ G) (no1 : ∀ r ∈ rs, noL (g1 r) = true) (no2 : ∀ r ∈ rs, noL (g2 r) = true)
    (hG : G.all (fun p => p.1 != a) = true) (hG2 : G.all (fun p => p.1 != b) = true) (hab : a ≠ b) (hak : a ≠ k) (hbk : b ≠ k) (haN : a < N) (hbN : b < N)
    (body : ∀ (j : Nat) (r : α) (Hb : Hp) (acc : List PyData) (σ' : L2.St) (H' : Hp) (D' : Ends), rs[j]? = some r → σ'.length = N → acc = ds ++ (rs.take j).flatMap fF → ST Hb ((b, g2 r) :: (a, g1 r) :: G) k acc σ' H' → (∀ σ2 H2, σ2.length = N → ST Hb ((b, g2 r) :: (a, g1 r) :: G) k (acc ++ fF r) σ2 H2 → D'.nx σ2 H2) → tb D' σ' H')
    (kk : ∀ (σ' : L2.St) (H' : Hp), σ'.length = N → ST Hi G k (ds ++ rs.flatMap fF) σ' H' → D.nx σ' H') : tFor (iList K (tVar c)) (gTup K 2 (gCons (gName a) (gCons (gName b) gNil))) tb D σ H := by
  have hG := ne_of hG
  have hG2 := ne_of hG2
  obtain ⟨L, zs, H0, h1, h2, h3, h4, h5, h6, h7⟩ := S
  obtain ⟨v, hv, dv⟩ := h7 _ hc
  obtain ⟨a0, xs, rfl, ha, hx⟩ := dat_lst dv
  have hxl := hx.len
  rw [List.length_map] at hxl
  have SB : ST H0 G k ds σ H := ⟨L, zs, H0, h1, h2, h3, Same.refl _, h5, h6, h7⟩
  refine ⟨_, hv, a0, rfl, ⟨_, SqL.of (h5 _ _ ha)⟩, for_list (K := K) (xs := xs) (fun j σ' H' => σ'.length = N ∧ ST H0 G k (ds ++ (rs.take j).flatMap fF) σ' H') ⟨hN, by rw [List.take_zero, List.flatMap_nil, List.append_nil]; exact SB⟩ (fun j σ' H' _ g => SqL.of (g.2.same _ _ ha)) ?_ ?_⟩
  · rintro j y σ' H' hy ⟨hN', g0⟩
    obtain ⟨p, hp, dy⟩ := hx.get hy
    rw [List.getElem?_map] at hp
    obtain ⟨r, hr, rfl⟩ := Option.map_eq_some_iff.mp hp
    have hm := List.mem_of_getElem? hr
    obtain ⟨b0, ys, rfl, hb, hys⟩ := dat_tup dy
    obtain ⟨y0, y1, rfl, c0, c1⟩ := dat_two hys
    refine ⟨b0, _, rfl, sqT_rd (upR hb g0.same), rfl, y0, _, rfl, y1, _, rfl, rfl, ?_⟩
    have q1 := st_set g0 (Same.refl H') (c0.same g0.same) (no1 r hm) hG hak (by rw [hN']; exact haN)
    have hk1 : ∀ p0 ∈ (a, g1 r) :: G, p0.1 ≠ b := fun p0 h0 => by
      rcases List.mem_cons.mp h0 with rfl | h0
      · exact hab
      · exact hG2 p0 h0
    have q2 := st_set q1 (Same.refl H') (c1.same g0.same) (no2 r hm) hk1 hbk (by rw [List.length_set, hN']; exact hbN)
    refine body j r H0 _ _ H' _ hr (by rw [List.length_set, List.length_set, hN']) rfl q2 fun σ2 H2 hN2 g3 => ⟨hN2, ?_⟩
    rw [flat_succ hr, ← List.append_assoc]
    exact g3.weak fun q hq => List.mem_cons_of_mem _ (List.mem_cons_of_mem _ hq)
  · rintro σ' H' ⟨hN', g⟩
    rw [hxl, List.take_length] at g
    exact kk σ' H' hN' (g.base h4)
/-- for a, b in enumerate(a tuple of ints): another list grows -/
theorem for_enumM {K : PySem.W.Frag} {a b c : Nat} {tb : TS} {r : List Nat} {fF : Nat → List PyData} (S : ST Hi G k ds σ H) (hN : σ.length = N) (hc : (c, rowD r) ∈ G)
    (hG : G.all (fun p => p.1 != a) = true) (hG2 : G.all (fun p => p.1 != b) = true) (hab : a ≠ b) (hak : a ≠ k) (hbk : b ≠ k) (haN : a < N) (hbN : b < N)
    (body : ∀ (j x : Nat) (Hb : Hp) (acc : List PyData) (σ' : L2.St) (H' : Hp) (D' : Ends), r[j]? = some x → σ'.length = N → acc = ds ++ (List.range j).flatMap fF → ST Hb ((b, .int (x : Nat)) :: (a, .int (j : Nat)) :: G) k acc σ' H' → (∀ σ2 H2, σ2.length = N → ST Hb ((b, .int (x : Nat)) :: (a, .int (j : Nat)) :: G) k (acc ++ fF j) σ2 H2 → D'.nx σ2 H2) → tb D' σ' H')
    (kk : ∀ (σ' : L2.St) (H' : Hp), σ'.length = N → ST Hi G k (ds ++ (List.range r.length).flatMap fF) σ' H' → D.nx σ' H') : tFor (iEnumT K (tCons (tVar c) tNil)) (gTup K 2 (gCons (gName a) (gCons (gName b) gNil))) tb D σ H := by
  have hG := ne_of hG
  have hG2 := ne_of hG2
  obtain ⟨L, zs, H0, h1, h2, h3, h4, h5, h6, h7⟩ := S
  obtain ⟨v, hv, dv⟩ := h7 _ hc
  obtain ⟨a0, xs, rfl, ha, hx⟩ := dat_tup dv
  obtain rfl := dat_intsV (r := r) hx
  have SB : ST H0 G k ds σ H := ⟨L, zs, H0, h1, h2, h3, Same.refl _, h5, h6, h7⟩
  refine ⟨_, hv, a0, _, rfl, sqT_rd (upR ha h5), for_it (walk_enumT (K := K) (a := a0) (xs := r.map fun (x : Nat) => V.int (x : Int))) (fun j σ' H' => σ'.length = N ∧ ST H0 G k (ds ++ (List.range j).flatMap fF) σ' H') ⟨hN, by rw [List.range_zero, List.flatMap_nil, List.append_nil]; exact SB⟩ (fun j σ' H' _ g => sqT_rd (upR ha g.2.same)) ?_ ?_⟩
  · rintro j x σ' H' H'' hj ⟨hN', g0⟩ ⟨T0, x0, y0, rfl, nT, rfl, e1, e2⟩
    cases e1
    replace e2 : (r.map fun (x : Nat) => V.int (x : Int))[j]? = some y0 := e2
    rw [List.getElem?_map] at e2
    obtain ⟨c0, hc0, rfl⟩ := Option.map_eq_some_iff.mp e2
    refine ⟨T0, _, rfl, SqT.of upd_same, rfl, _, _, rfl, _, _, rfl, rfl, ?_⟩
    have q1 := st_set g0 (same_new (o := HO.tup [.int (j : Nat), .int (c0 : Nat)]) nT) (.int ((j : Nat) : Int)) rfl hG hak (by rw [hN']; exact haN)
    have hk1 : ∀ p0 ∈ (a, PyData.int (j : Nat)) :: G, p0.1 ≠ b := fun p0 h0 => by
      rcases List.mem_cons.mp h0 with rfl | h0
      · exact hab
      · exact hG2 p0 h0
    have q2 := st_set q1 (Same.refl _) (.int ((c0 : Nat) : Int)) rfl hk1 hbk (by rw [List.length_set, hN']; exact hbN)
    refine body j c0 H0 _ _ _ _ hc0 (by rw [List.length_set, List.length_set, hN']) rfl q2 fun σ2 H2 hN2 g3 => ⟨hN2, ?_⟩
    rw [List.range_succ, List.flatMap_append, ← List.append_assoc]
    have g4 := g3.weak (G' := G) fun q hq => List.mem_cons_of_mem _ (List.mem_cons_of_mem _ hq)
    simpa using g4
  · rintro σ' H' ⟨hN', g⟩
    rw [List.length_map] at g
    exact kk σ' H' hN' (g.base h4)
end
section
variable {N : Nat} {G : List (Nat × PyData)} {t u te : TE}
/-- over a list of pairs -/
theorem mkf_pairsL {α : Type} {g1 g2 f : α → PyData} {K : PySem.W.Frag} {i k : Nat} {ps : List α} (h : MkN N G t (.list (ps.map fun p => .tuple [g1 p, g2 p]))) (hn : ps.length ≤ 50000) (hG : G.all (fun p => p.1 != i) = true) (hG2 : G.all (fun p => p.1 != k) = true) (hik : i ≠ k) (hi : i < N) (hk : k < N)
    (he : ∀ p ∈ ps, Mk ((k, g2 p) :: (i, g1 p) :: G) te (f p)) (hf : ∀ p ∈ ps, noL (f p) = true) :
    MkF N G (tLc (iList K t) (gTup K 2 (gCons (gName i) (gCons (gName k) gNil))) tYes te [i, k]) (ps.map f) := fun σ H Q hN E q => h σ H _ hN E fun v H1 S1 d1 => by
  have hG := ne_of hG
  have hG2 := ne_of hG2
  obtain ⟨a, xs, rfl, ha, hx⟩ := dat_lst d1
  have hxl := hx.len
  rw [List.length_map] at hxl
  have E1 := ((E.same S1).none hG2).none hG
  refine ⟨a, rfl, ⟨_, SqL.of ha⟩, fun D nD => lc_list (K := K) (xs := xs) (fun j Hz => Gr H1 D ((ps.take j).map f) Hz) (by rw [List.take_zero]; exact Gr.start nD) (fun j Hz _ g => SqL.of (g.2.1 _ _ ha)) ?_ ?_⟩
  · rintro j y Hz hy g
    obtain ⟨d, hd, dy⟩ := hx.get hy
    rw [List.getElem?_map] at hd
    obtain ⟨p, hp, rfl⟩ := Option.map_eq_some_iff.mp hd
    have hm := List.mem_of_getElem? hp
    obtain ⟨b, ys, rfl, hb, hys⟩ := dat_tup (dy.same g.2.1)
    obtain ⟨y0, y1, rfl, c0, c1⟩ := dat_two hys
    refine ⟨b, _, rfl, sqT_rd hb, rfl, y0, _, rfl, y1, _, rfl, rfl, ?_, ?_⟩
    · show ((((((σ.set k none).set i none).set i (some y0)).set k (some y1)).set k none).set i none) = (σ.set k none).set i none
      rw [List.set_set, List.set_set, List.set_comm _ _ hik]
      simp only [List.set_set]
    · dsimp only [tYes]
      have hk1 : ∀ p0 ∈ (i, g1 p) :: G, p0.1 ≠ k := fun p0 h0 => by
        rcases List.mem_cons.mp h0 with rfl | h0
        · exact hik
        · exact hG2 p0 h0
      refine if_t rfl (he p hm _ Hz _ (((E1.same g.2.1).put hG (by rw [List.length_set, List.length_set, hN]; exact hi) c0).put hk1 (by rw [List.length_set, List.length_set, List.length_set, hN]; exact hk) c1) fun v4 H4 S4 d4 => ?_)
      obtain ⟨zs, hL, hzl, _, g'⟩ := g.add S4 (.cons d4 .nil) (by show noLs [f p] = true; simp [noLs, hf p hm])
      rw [List.length_map, List.length_take] at hzl
      refine ⟨zs, hL, by rw [sizeLine_eq]; omega, ?_⟩
      rw [take_map_succ hp]
      exact g'
  · rintro Hz g
    rw [hxl, List.take_length] at g
    obtain ⟨zs, H0, n0, S0, S2, e, d⟩ := gr_out g
    exact q D zs H0 Hz n0 (S1.trans S0) S2 e d
end
/-- readings of several, told for slots of this length -/
def MksN (N : Nat) (G : List (Nat × PyData)) (t : TA) (ds : List PyData) : Prop := ∀ (σ : L2.St) (H : Hp) (Q : List V → Hp → Prop), σ.length = N → EnvOk G σ H → (∀ (vs : List V) (H' : Hp), Same H H' → DatAll H' vs ds → Q vs H') → t σ H Q
theorem Mks.n {N : Nat} {G : List (Nat × PyData)} {t : TA} {ds : List PyData} (h : Mks G t ds) : MksN N G t ds := fun σ H Q _ E q => h σ H Q E q
theorem mksn_nil {N : Nat} {G : List (Nat × PyData)} : MksN N G tNil [] := mks_nil.n
theorem mksn_cons {N : Nat} {G : List (Nat × PyData)} {t : TE} {u : TA} {d : PyData} {ds : List PyData} (h : MkN N G t d) (hs : MksN N G u ds) : MksN N G (tCons t u) (d :: ds) := fun σ H Q hN E q =>
  h σ H _ hN E fun v H1 S1 d1 => hs σ H1 _ hN (E.same S1) fun vs H2 S2 d2 => q _ H2 (S1.trans S2) (.cons (d1.same S2) d2)
theorem mkn_tup {N : Nat} {G : List (Nat × PyData)} {u : TA} {ds : List PyData} (hs : MksN N G u ds) (hl : ds.length ≤ 1000) : MkN N G (tTupF u) (.tuple ds) := fun σ H Q hN E q =>
  hs σ H _ hN E fun vs H1 S1 d1 => ⟨by rw [d1.len, sizeLine_eq]; omega, fun p o np no => q _ _ (S1.trans (same_new np)) (.tup (TP.fz upd_same no) (d1.same (same_new np)))⟩
section
variable {N : Nat} {G : List (Nat × PyData)} {i : Nat} {ds : List PyData} {σ : L2.St} {H : Hp} {D : Ends} {R : TS}
theorem sq_newN {u : TA} (M : MksN N G u ds) (hN : σ.length = N) (E : EnvOk G σ H) (hl : ds.length ≤ 1000) (hn : ∀ p ∈ G, p.1 ≠ i) (hi : i < N)
    (kk : ∀ (p : Addr) (H' : Hp), ST H G i ds (σ.set i (some (.ref p))) H' → R D (σ.set i (some (.ref p))) H') : tSeq (tAsg (tLst u) (gName i)) R D σ H :=
  M σ H (fun vs H1 => vs.length ≤ sizeLine ∧ ∀ p, H1 p = none → R D (σ.set i (some (.ref p))) (upd H1 p (.lst vs))) hN E fun vs H1 S1 d1 => ⟨by rw [d1.len, sizeLine_eq]; omega, fun p np => kk p _ ⟨p, vs, H1, List.getElem?_set_self (by rw [hN]; exact hi), upd_same, np, S1, same_new np, d1, (E.same S1).set hn⟩⟩
end
/-! ### words -/
def srowD (r : List Str) : PyData := .tuple (strsD r)
theorem srowD_noL (r : List Str) : noL (srowD r) = true := strs_noL r
abbrev WS := List Str × List Nat
def gW (s : WS) : PyData := .tuple [srowD s.1, rowD s.2]
def stepW (cs : Cn) (s : WS) (k : Nat) : List WS := if 0 < s.2.getD k 0 then [(s.1 ++ [(cs.getD k ("", 0)).1], (s.2.take k ++ [s.2.getD k 0 - 1]) ++ s.2.drop (k + 1))] else []
def layW (cs : Cn) (s : WS) : List WS := (List.range s.2.length).flatMap (stepW cs s)
def wordsM (cs : Cn) : Nat → List WS
  | 0 => [([], cs.map (·.2))]
  | j + 1 => (wordsM cs j).flatMap (layW cs)
theorem places_snoc (r : List Str) (z' z : Str) : (placesM (r ++ [z']) z).length = (placesM r z).length + (if z' = z then 1 else 0) := by
  unfold placesM
  rw [List.length_append, List.length_cons, List.length_nil, Nat.zero_add, List.range_succ, List.filter_append, List.length_append]
  have e1 : (List.range r.length).filter (fun i => decide ((r ++ [z'])[i]? = some z)) = (List.range r.length).filter (fun i => decide (r[i]? = some z)) := by
    refine List.filter_congr fun i hi => ?_
    rw [List.getElem?_append_left (List.mem_range.mp hi)]
  rw [e1]
  congr 1
  have e2 : (r ++ [z'])[r.length]? = some z' := by simp
  by_cases h : z' = z
  · rw [if_pos h, List.filter_cons_of_pos (by rw [e2, h]; simp)]
    rfl
  · rw [if_neg h, List.filter_cons_of_neg (by rw [e2]; simpa using h)]
    rfl
structure WInv (cs : Cn) (j : Nat) (s : WS) : Prop where
  row : s.1.length = j
  len : s.2.length = cs.length
  sum : s.2.sum + j = totN cs
  cnt : ∀ (k : Nat) (c : Str × Nat), cs[k]? = some c → (placesM s.1 c.1).length + s.2.getD k 0 = c.2
  nm : ∀ z ∈ s.1, ∃ c ∈ cs, c.1 = z
theorem sum_cut (l : List Nat) : ∀ (k : Nat), 0 < l.getD k 0 → ((l.take k ++ [l.getD k 0 - 1]) ++ l.drop (k + 1)).sum + 1 = l.sum := by
  induction l with
  | nil => intro k h; simp at h
  | cons a l ih =>
    intro k h
    cases k with
    | zero =>
      have h : 0 < a := h
      show (a - 1 + l.sum) + 1 = a + l.sum
      omega
    | succ k =>
      have e := ih k (by simpa using h)
      show (a + ((l.take k ++ [l.getD k 0 - 1]) ++ l.drop (k + 1)).sum) + 1 = a + l.sum
      omega
theorem get_cut (l : List Nat) (k m : Nat) (hk : k < l.length) : ((l.take k ++ [l.getD k 0 - 1]) ++ l.drop (k + 1)).getD m 0 = if m = k then l.getD k 0 - 1 else l.getD m 0 := by
  have hl : (l.take k).length = k := by rw [List.length_take]; omega
  rw [List.append_assoc]
  by_cases h1 : m < k
  · rw [if_neg (by omega), List.getD_eq_getElem?_getD, List.getElem?_append_left (by omega), List.getElem?_take_of_lt h1, ← List.getD_eq_getElem?_getD]
  · rw [List.getD_eq_getElem?_getD, List.getElem?_append_right (by omega), hl]
    by_cases h2 : m = k
    · rw [if_pos h2, h2, Nat.sub_self]
      rfl
    · obtain ⟨d, hd⟩ : ∃ d, m - k = d + 1 := ⟨m - k - 1, by omega⟩
      rw [if_neg h2, hd]
      show (l.drop (k + 1))[d]?.getD 0 = _
      rw [List.getElem?_drop, show k + 1 + d = m by omega, ← List.getD_eq_getElem?_getD]
theorem wstep {cs : Cn} {j : Nat} {s : WS} (nd : (cs.map (·.1)).Nodup) (I : WInv cs j s) : ∀ s' ∈ layW cs s, WInv cs (j + 1) s' := fun s' h => by
  unfold layW at h
  obtain ⟨k, hk, h⟩ := List.mem_flatMap.mp h
  have hk := List.mem_range.mp hk
  unfold stepW at h
  by_cases hp : 0 < s.2.getD k 0
  · rw [if_pos hp, List.mem_singleton] at h
    subst h
    have hkc : k < cs.length := by rw [← I.len]; exact hk
    have ek : cs.getD k ("", 0) = cs[k] := by rw [List.getD_eq_getElem?_getD, List.getElem?_eq_getElem hkc]; rfl
    refine ⟨by rw [List.length_append, I.row]; rfl, ?_, ?_, fun m c hc => ?_, fun z hz => ?_⟩
    · show ((s.2.take k ++ [s.2.getD k 0 - 1]) ++ s.2.drop (k + 1)).length = _
      rw [List.length_append, List.length_append, List.length_take, List.length_drop, ← I.len]
      simp only [List.length_cons, List.length_nil]
      omega
    · have := sum_cut s.2 k hp
      have h2 := I.sum
      show ((s.2.take k ++ [s.2.getD k 0 - 1]) ++ s.2.drop (k + 1)).sum + (j + 1) = _
      omega
    · show (placesM (s.1 ++ [(cs.getD k ("", 0)).1]) c.1).length + ((s.2.take k ++ [s.2.getD k 0 - 1]) ++ s.2.drop (k + 1)).getD m 0 = c.2
      have h1 := I.cnt m c hc
      rw [places_snoc, get_cut s.2 k m hk, ek]
      have hml := (List.getElem?_eq_some_iff.mp hc).1
      have hmc := (List.getElem?_eq_some_iff.mp hc).2
      by_cases e : m = k
      · subst e
        rw [if_pos (by rw [hmc]), if_pos rfl]
        omega
      · rw [if_neg e, if_neg (fun e2 => e ?_)]
        · omega
        · have n1 := List.pairwise_iff_getElem.mp nd
          rcases Nat.lt_trichotomy m k with h | h | h
          · exact absurd (by rw [List.getElem_map, List.getElem_map, hmc, e2]) (n1 m k (by rw [List.length_map]; exact hml) (by rw [List.length_map]; exact hkc) h)
          · exact h
          · exact absurd (by rw [List.getElem_map, List.getElem_map, hmc, e2]) (n1 k m (by rw [List.length_map]; exact hkc) (by rw [List.length_map]; exact hml) h)
    · rcases List.mem_append.mp hz with h | h
      · exact I.nm z h
      · rw [List.mem_singleton] at h
        exact ⟨cs[k], List.getElem_mem hkc, by rw [h, ek]⟩
  · rw [if_neg hp] at h
    cases h
theorem words_inv {cs : Cn} (nd : (cs.map (·.1)).Nodup) : ∀ j, ∀ s ∈ wordsM cs j, WInv cs j s
  | 0, s, h => by
    rw [wordsM, List.mem_singleton] at h
    subst h
    refine ⟨rfl, by rw [List.length_map], rfl, fun k c hc => ?_, fun z hz => by cases hz⟩
    show 0 + (cs.map (·.2)).getD k 0 = c.2
    rw [List.getD_eq_getElem?_getD, List.getElem?_map, hc]
    exact Nat.zero_add _
  | j + 1, s, h => by
    rw [wordsM] at h
    obtain ⟨x, hx, hs⟩ := List.mem_flatMap.mp h
    exact wstep nd (words_inv nd j x hx) s hs
theorem stepW_len (cs : Cn) (s : WS) (k : Nat) : (stepW cs s k).length ≤ 1 := by
  unfold stepW
  split
  · exact Nat.le_refl _
  · exact Nat.zero_le _
theorem layW_len (cs : Cn) (s : WS) : (layW cs s).length ≤ s.2.length := by
  unfold layW
  have := flat_bound (f := stepW cs s) (m := 1) (List.range s.2.length) fun x _ => stepW_len cs s x
  rw [List.length_range] at this
  omega
theorem wordsM_len {cs : Cn} (nd : (cs.map (·.1)).Nodup) (h3 : cs.length ≤ 3) : ∀ j, (wordsM cs j).length ≤ 3 ^ j
  | 0 => Nat.le_refl _
  | j + 1 => by
    have a := wordsM_len nd h3 j
    have b := flat_bound (f := layW cs) (m := 3) (wordsM cs j) fun s hs => Nat.le_trans (layW_len cs s) (by rw [(words_inv nd j s hs).len]; exact h3)
    rw [wordsM, Nat.pow_succ]
    omega
/-- a word with these counts -/
structure WOk (cs : Cn) (r : List Str) : Prop where
  row : r.length = totN cs
  cnt : ∀ c ∈ cs, (placesM r c.1).length = c.2
  nm : ∀ z ∈ r, ∃ c ∈ cs, c.1 = z
theorem sum_zero : ∀ (l : List Nat), l.sum = 0 → ∀ k, l.getD k 0 = 0
  | [], _, k => by simp
  | a :: l, h, k => by
    have h : a + l.sum = 0 := h
    cases k with
    | zero => show a = 0; omega
    | succ k => exact sum_zero l (by omega) k
theorem WInv.ok {cs : Cn} {s : WS} (I : WInv cs (totN cs) s) : WOk cs s.1 := by
  refine ⟨I.row, fun c hc => ?_, I.nm⟩
  obtain ⟨k, hk⟩ := List.mem_iff_getElem?.mp hc
  have h1 := I.cnt k c hk
  have h2 := sum_zero s.2 (by have := I.sum; omega) k
  omega
end KB
set_option maxRecDepth 100000
set_option maxHeartbeats 8000000
namespace KB
open PySem PySem.Spec PyProof.Rows L2
abbrev s_words : Stmt := top 27
def okWords (cs : Cn) (ds : List PyData) : Prop := ∃ rs : List (List Str), ds = rs.map srowD ∧ rs.length ≤ 3125 ∧ ∀ r ∈ rs, WOk cs r
def spWordsL : Sp := fun vs H Q _ => ∃ (v : V) (cs : Cn), vs = [v] ∧ Dat H v (cntsD cs) ∧ CnOk cs 5 ∧ Fresh H Q (okWords cs)
theorem gW_noL (s : WS) : noL (gW s) = true := by
  show (noL (srowD s.1) && (noL (rowD s.2) && true)) = true
  rw [srowD_noL, rowD_noL]
  rfl
theorem gWs_noL (l : List WS) : noLs (l.map gW) = true := noLs_iff.mpr fun d hd => by
  obtain ⟨k, _, rfl⟩ := List.mem_map.mp hd
  exact gW_noL k
theorem flat_rng_le {α : Type} (f : Nat → List α) {j n : Nat} (h : j ≤ n) : ((List.range j).flatMap f).length ≤ ((List.range n).flatMap f).length := by
  have e : List.range j = (List.range n).take j := by rw [List.take_range, Nat.min_eq_left h]
  rw [e]
  exact flat_le _ _
abbrev teWd (K : PySem.W.Frag) : TE := tTupF (tCons (tOp (rCatF K) (tVar 4) (tTupF (tCons (tOp (rIxT K) (tOp (rIxT K) (tVar 0) (tVar 6)) (tC (.int 0))) tNil))) (tCons (tOp (rCatF K) (tOp (rCatF K) (tSl (rSlF K) (tVar 5) tNoPart (tPart (tVar 6))) (tTupF (tCons (tOp (rI0 fun i j => .int (i - j)) (tVar 7) (tC (.int 1))) tNil))) (tSl (rSlF K) (tVar 5) (tPart (tOp (rI0 fun i j => .int (i + j)) (tVar 6) (tC (.int 1)))) tNoPart)) tNil))
theorem mk_wd {K : PySem.W.Frag} {G : List (Nat × PyData)} {cs : Cn} {s : WS} {k : Nat} (M0 : Mk G (tVar 0) (cntsD cs)) (M4 : Mk G (tVar 4) (srowD s.1)) (M5 : Mk G (tVar 5) (rowD s.2)) (M6 : Mk G (tVar 6) (.int (k : Nat))) (M7 : Mk G (tVar 7) (.int (s.2.getD k 0 : Nat))) (hk : k < cs.length) (hp : 0 < s.2.getD k 0) (h1 : s.1.length ≤ 1000) (h2 : s.2.length ≤ 1000) :
    Mk G (teWd K) (gW (s.1 ++ [(cs.getD k ("", 0)).1], (s.2.take k ++ [s.2.getD k 0 - 1]) ++ s.2.drop (k + 1))) := by
  have ek : cs.getD k ("", 0) = cs[k] := by rw [List.getD_eq_getElem?_getD, List.getElem?_eq_getElem hk]; rfl
  have e1 : srowD (s.1 ++ [cs[k].1]) = .tuple (strsD s.1 ++ [.str cs[k].1]) := by
    unfold srowD strsD
    rw [List.map_append]
    rfl
  have e2 : rowD ((s.2.take k ++ [s.2.getD k 0 - 1]) ++ s.2.drop (k + 1)) = .tuple (((intsD s.2).take k ++ [.int ((s.2.getD k 0 - 1 : Nat) : Int)]) ++ (intsD s.2).drop (k + 1)) := by
    unfold rowD intsD
    rw [List.map_append, List.map_append, List.map_take, List.map_drop]
    rfl
  have l1 : (strsD s.1).length = s.1.length := List.length_map ..
  have l2 : (intsD s.2).length = s.2.length := List.length_map ..
  unfold gW
  rw [ek, e1, e2]
  refine mks_tup2 (mk_catA M4 (mk_tup (mks_cons ?_ mks_nil) (by show 1 ≤ 1000; decide)) (by rw [l1]; show _ + 1 ≤ _; omega)) (mk_catA (mk_catA (mk_slToA M5 M6) (mk_tup (mks_cons ?_ mks_nil) (by show 1 ≤ 1000; decide)) ?_) (mk_slFromA M5 (mk_addN M6 (mk_int (i := 1)) rfl)) ?_)
  · exact mk_ixT (K := K) (j := 0) (ds := [.str cs[k].1, .int (cs[k].2 : Nat)]) (mk_ixTn (K := K) (j := k) M0 M6 (by rw [List.getElem?_map, List.getElem?_eq_getElem hk]; rfl)) rfl rfl
  · exact mk_subN (y := 1) M7 mk_int (by omega)
  · rw [List.length_take, l2]
    show _ + 1 ≤ _
    omega
  · simp only [List.length_append, List.length_take, List.length_drop, l2, List.length_cons, List.length_nil]
    omega
section
variable {P : Program} {w : World} {K : PySem.W.Frag} {mg : Str → Option Value} {base : Heap}
abbrev NW : List Str := ["_law_counts_here", "_law_found", "_law_turn", "_law_longer", "_law_row", "_law_left", "_law_k", "_law_often", "_law_letter"]
theorem sc_words : FnScope NW ["_law_counts_here"] (defScope s_words) := ⟨rfl, rfl, rfl, by decide +kernel, rfl, by decide +kernel, by decide +kernel⟩
theorem okl_words {f : Addr} {fd : FuncData} (F : Fun K "_law_words" "_law_words" s_words f fd) (T : Nm mg) : FnOk P w K mg base CX0 1 f fd ["_law_counts_here"] spWordsL := by
  refine F.ok sc_words (fun vs H Q E h => ?_) (fun cdv A outer s H vs Q E hr h => ?_)
  · obtain ⟨v, cs, rfl, _⟩ := h
    rfl
  · obtain ⟨v, cs, rfl, hv, hc, q⟩ := h
    refine ⟨_, (pss_cons (ps_set (i := 1) sc_words.nd rfl (Or.inl rfl) (pe_lst (pa_cons (pe_tupF (pa_cons (pe_tupF pa_nil) (pa_cons (pe_callTy call_tupF (by rfl) T.tuple (by decide +kernel) (pa_cons (pe_lc (own := [("_law_letter", 8), ("_law_often", 7)]) (g := (gTup K 2 (gCons (gName 8) (gCons (gName 7) gNil)))) (tt := tYes) rfl sc_words.nd (pi_tup (pv 0)) (blkOk_by (N := NW) (sc := defScope s_words) (by decide +kernel))
          (fun _ _ _ _ _ => (pg_tup rfl (pgs_cons (pg_name (i := 8) sc_words.nd rfl (Or.inl rfl)) (pgs_cons (pg_name (i := 7) sc_words.nd rfl (Or.inl rfl)) pgs_nil)))) (fun _ _ _ _ _ => pts_nil) (fun _ _ _ _ _ => (pv 7))) pa_nil)) pa_nil))) pa_nil)))
      (pss_cons (ps_for PassesOwn.never rfl (pi_range1 rfl T.range (pa_cons (pe_callB (cr_sum rfl) (by rfl) T.sum boot_sum (pa_cons (pe_lc (own := [("_law_letter", 8), ("_law_often", 7)]) (g := (gTup K 2 (gCons (gName 8) (gCons (gName 7) gNil)))) (tt := tYes) rfl sc_words.nd (pi_tup (pv 0)) (blkOk_by (N := NW) (sc := defScope s_words) (by decide +kernel))
          (fun _ _ _ _ _ => (pg_tup rfl (pgs_cons (pg_name (i := 8) sc_words.nd rfl (Or.inl rfl)) (pgs_cons (pg_name (i := 7) sc_words.nd rfl (Or.inl rfl)) pgs_nil)))) (fun _ _ _ _ _ => pts_nil) (fun _ _ _ _ _ => (pv 7))) pa_nil)) pa_nil)) (pg_name (i := 2) sc_words.nd rfl (Or.inl rfl))
        (pss_cons (ps_set (i := 3) sc_words.nd rfl (Or.inl rfl) (pe_lst pa_nil))
        (pss_cons (ps_for PassesOwn.never rfl (pi_list (pv 1)) (pg_tup rfl (pgs_cons (pg_name (i := 4) sc_words.nd rfl (Or.inl rfl)) (pgs_cons (pg_name (i := 5) sc_words.nd rfl (Or.inl rfl)) pgs_nil)))
          (pss_one (ps_for PassesOwn.never rfl (pi_enumT (by rfl) T.enumerate (pa_cons (pv 5) pa_nil)) (pg_tup rfl (pgs_cons (pg_name (i := 6) sc_words.nd rfl (Or.inl rfl)) (pgs_cons (pg_name (i := 7) sc_words.nd rfl (Or.inl rfl)) pgs_nil)))
            (pss_one (ps_if (pt_cmpR op_gt (pv 7) pe_int (nomark _))
              (pss_one (ps_expr (pe_bm PySem.F.plainAttrs_list PySem.F.slot_list_append PySem.F.type_list_append mt_append (pv 3) (pa_cons (pe_tupF (pa_cons (pe_op op_catF (pv 4) (pe_tupF (pa_cons (pe_ix ix_tup (pe_ix ix_tup (pv 0) (pv 6) (fun _ _ => rfl)) pe_int (fun _ _ => rfl)) pa_nil))) (pa_cons (pe_op op_catF (pe_op op_catF (pe_slice sl_tupF (pv 5) po_none (po_some (pv 6))) (pe_tupF (pa_cons (pe_op op_sub (pv 7) pe_int) pa_nil))) (pe_slice sl_tupF (pv 5) (po_some (pe_op op_add (pv 6) pe_int)) po_none)) pa_nil))) pa_nil))))
              pss_nil)))))
        (pss_one (ps_set (i := 1) sc_words.nd rfl (Or.inl rfl) (pv 3))))))
      (pss_one (ps_ret (pe_lc (own := [("_law_row", 4), ("_law_left", 5)]) (g := (gTup K 2 (gCons (gName 4) (gCons (gName 5) gNil)))) (tt := tYes) rfl sc_words.nd (pi_list (pv 1)) (blkOk_by (N := NW) (sc := defScope s_words) (by decide +kernel))
          (fun _ _ _ _ _ => (pg_tup rfl (pgs_cons (pg_name (i := 4) sc_words.nd rfl (Or.inl rfl)) (pgs_cons (pg_name (i := 5) sc_words.nd rfl (Or.inl rfl)) pgs_nil)))) (fun _ _ _ _ _ => pts_nil) (fun _ _ _ _ _ => (pv 4))))))), ?_⟩
    have h3 := hc.len
    have E0 : EnvOk [(0, cntsD cs)] [some v, none, none, none, none, none, none, none, none] H := fun p hp => by
      obtain rfl := List.mem_singleton.mp hp
      exact ⟨_, rfl, hv⟩
    have ecs : cntsD cs = .tuple ((cs.map fun c => (PyData.str c.1, PyData.int (c.2 : Nat))).map fun p => .tuple [p.1, p.2]) := by
      unfold cntsD
      rw [List.map_map]
      rfl
    have MF : ∀ {G : List (Nat × PyData)}, Mk G (tVar 0) (cntsD cs) → G.all (fun p => p.1 != 8) = true → G.all (fun p => p.1 != 7) = true → MkF 9 G (tLc (iTup K (tVar 0)) (gTup K 2 (gCons (gName 8) (gCons (gName 7) gNil))) tYes (tVar 7) [8, 7]) (intsD (cs.map (·.2))) := fun {G} M g1 g2 => by
      rw [ecs] at M
      have z := mkf_pairs (K := K) (N := 9) (i := 8) (k := 7) (te := tVar 7) (f := fun p => p.2) M (by rw [List.length_map]; omega) g1 g2 (by decide) (by decide) (by decide) (fun p _ => mk_var List.mem_cons_self) (fun p hp => by
        obtain ⟨c, _, rfl⟩ := List.mem_map.mp hp
        rfl)
      unfold intsD
      rw [List.map_map]
      rw [List.map_map] at z
      exact z
    have M0 : ∀ {G : List (Nat × PyData)}, Mk ((0, cntsD cs) :: G) (tVar 0) (cntsD cs) := mk_var List.mem_cons_self
    refine sq_newN (N := 9) (ds := (wordsM cs 0).map gW) (mksn_cons (mkn_tup (mksn_cons (Mk.n (mk_tup mks_nil (by show 0 ≤ 1000; decide))) (mksn_cons (mkn_tupL (K := K) (MF M0 rfl rfl).n) mksn_nil)) (by show 2 ≤ 1000; decide)) mksn_nil) rfl E0 (by show 1 ≤ 1000; decide) (ne_of rfl) (by show 1 < 9; decide) fun p0 H0 S0 => ?_
    have f0 := Fnd.of S0
    refine sq_of (mkn_sum (K := K) (ns := cs.map fun c => (c.2 : Int)) (N := 9) (G := [(0, cntsD cs)]) (by
      have z := (MF (G := [(0, cntsD cs)]) M0 rfl rfl).n
      rw [show intsD (cs.map (·.2)) = (cs.map fun c => (c.2 : Int)).map PyData.int by unfold intsD; rw [List.map_map, List.map_map]; rfl] at z
      exact z) _ H0 _ rfl S0.env fun v H1 S1 d1 => ?_)
    rw [tot_int] at d1
    obtain rfl := dat_isInt d1
    have f1 : Fnd H [(0, cntsD cs)] 1 ((wordsM cs 0).map gW) _ H1 := f0.same S1
    have ht := hc.tot
    refine ⟨((totN cs : Nat) : Int), rfl, by omega, by omega, for_range (n := totN cs) (fun j σ' H' => σ'.length = 9 ∧ Fnd H [(0, cntsD cs)] 1 ((wordsM cs j).map gW) σ' H') ⟨rfl, f1⟩ ?_ ?_⟩
    · rintro j σ' H' hj ⟨hN, g⟩
      have g1 := g.skip (j := 2) (x := some (.int (0 + (j : Nat)))) rfl (by decide)
      have lj := wordsM_len hc.nd h3 j
      have lj3 : 3 ^ j ≤ 3 ^ 4 := Nat.pow_le_pow_right (by decide) (by omega)
      refine lay_turn (N := 9) (es := (wordsM cs (j + 1)).map gW) g1 (by rw [List.length_set, hN]) (by decide) (by decide) (by decide) rfl rfl (fun σ2 H2 D2 hN2 S2 k2 => ?_) (fun σ3 H3 hN3 f3 => ⟨hN3, f3⟩)
      refine for_lstP (K := K) (N := 9) (c := 1) (a := 4) (b := 5) (rs := wordsM cs j) (g1 := fun s => srowD s.1) (g2 := fun s => rowD s.2) (fF := fun s => (layW cs s).map gW) S2 hN2 List.mem_cons_self (fun r _ => srowD_noL r.1) (fun r _ => rowD_noL r.2) rfl rfl (by decide) (by decide) (by decide) (by decide) (by decide) ?_ ?_
      · intro i s Hb acc σ3 H3 D3 hs hN3 hacc S3 k3
        have hsm := List.mem_of_getElem? hs
        have I := words_inv hc.nd j s hsm
        have il := I.len
        have ir := I.row
        have bb : ∀ x ∈ wordsM cs j, ((layW cs x).map gW).length ≤ 3 := fun x hx => by
          rw [List.length_map]
          exact Nat.le_trans (layW_len cs x) (by rw [(words_inv hc.nd j x hx).len]; exact h3)
        have la : acc.length ≤ 3 ^ 4 * 3 := by
          rw [hacc, List.nil_append]
          refine Nat.le_trans (flat_bound (m := 3) _ fun x hx => bb x (List.mem_of_mem_take hx)) (Nat.mul_le_mul_right _ ?_)
          rw [List.length_take]
          omega
        refine for_enumM (K := K) (N := 9) (c := 5) (a := 6) (b := 7) (r := s.2) (fF := fun k => (stepW cs s k).map gW) S3 hN3 List.mem_cons_self rfl rfl (by decide) (by decide) (by decide) (by decide) (by decide) ?_ ?_
        · intro k x Hc acc2 σ4 H4 D4 hx hN4 hacc2 S4 k4
          have hkl := (List.getElem?_eq_some_iff.mp hx).1
          have ex : s.2.getD k 0 = x := by rw [List.getD_eq_getElem?_getD, hx]; rfl
          have la2 : acc2.length ≤ 3 ^ 4 * 3 + 3 := by
            rw [hacc2, List.length_append]
            have := flat_bound (f := fun k => (stepW cs s k).map gW) (m := 1) (List.range k) fun y _ => by rw [List.length_map]; exact stepW_len cs s y
            rw [List.length_range] at this
            omega
          by_cases hp : 0 < x
          · have est : (stepW cs s k).map gW = [gW (s.1 ++ [(cs.getD k ("", 0)).1], (s.2.take k ++ [s.2.getD k 0 - 1]) ++ s.2.drop (k + 1))] := by
              unfold stepW
              rw [ex, if_pos hp]
              rfl
            rw [est] at k4
            have M7 : Mk ((7, PyData.int (x : Nat)) :: (6, PyData.int (k : Nat)) :: (5, rowD s.2) :: (4, srowD s.1) :: (1, .list ((wordsM cs j).map gW)) :: [(0, cntsD cs)]) (tVar 7) (.int (x : Nat)) := mk_var List.mem_cons_self
            refine (mkt (mk_cmp (i := (x : Int)) (j := 0) (b := true) M7 mk_int (congrArg V.bl (decide_eq_true (by omega)))) : MkT _ _ true) σ4 H4 _ S4.env fun H5 S5 => if_t rfl ?_
            refine st_app (K := K) (Q := fun _ H1 => D4.nx σ4 H1) (S4.next S5) (mk_wd (K := K) (cs := cs) (s := s) (k := k) (mk_var (by simp)) (mk_var (by simp)) (mk_var (by simp)) (mk_var (by simp)) (by rw [ex]; exact M7) (by omega) (by omega) (by omega) (by omega)) (gW_noL _) (by omega) fun H6 S6 => k4 σ4 H6 hN4 S6
          · have est : (stepW cs s k).map gW = [] := by
              unfold stepW
              rw [ex, if_neg hp]
              rfl
            rw [est, List.append_nil] at k4
            refine (mkt (mk_cmp (i := (x : Int)) (j := 0) (b := false) (mk_var List.mem_cons_self) mk_int (congrArg V.bl (decide_eq_false (by omega)))) : MkT _ _ false) σ4 H4 _ S4.env fun H5 S5 => if_f rfl (k4 σ4 H5 hN4 (S4.next S5))
        · intro σ4 H4 hN4 S4
          refine k3 σ4 H4 hN4 ?_
          unfold layW
          rw [List.map_flatMap]
          exact S4
      · intro σ3 H3 hN3 S3
        refine k2 σ3 H3 hN3 ?_
        rw [List.nil_append] at S3
        rw [wordsM, List.map_flatMap]
        exact S3
    · rintro σ' H' ⟨hN, g⟩
      have E := g.env
      have lm := wordsM_len hc.nd h3 (totN cs)
      have lm5 : 3 ^ (totN cs) ≤ 3 ^ 5 := Nat.pow_le_pow_right (by decide) ht
      refine rt_mkf (N := 9) (mkf_pairsL (K := K) (N := 9) (G := (1, PyData.list ((wordsM cs (totN cs)).map gW)) :: [(0, cntsD cs)]) (i := 4) (k := 5) (te := tVar 4) (ps := wordsM cs (totN cs)) (g1 := fun s => srowD s.1) (g2 := fun s => rowD s.2) (f := fun s => srowD s.1) (Mk.n (mk_var List.mem_cons_self)) (by omega) rfl rfl (by decide) (by decide) (by decide) (fun p _ => mk_var (List.mem_cons_of_mem _ List.mem_cons_self)) (fun p _ => srowD_noL p.1)) hN E fun L zs H2 n2 S2 e2 d2 => q L zs _ H2 (none_back g.same' n2) (g.same'.trans S2) e2 d2 ⟨(wordsM cs (totN cs)).map (·.1), by rw [List.map_map]; rfl, by rw [List.length_map]; omega, fun r hr => ?_⟩
      obtain ⟨s, hs, rfl⟩ := List.mem_map.mp hr
      exact (words_inv hc.nd _ s hs).ok
end
end KB
set_option maxRecDepth 100000
set_option maxHeartbeats 8000000
namespace KB
open PySem PySem.Spec PyProof.Rows L2
/-! ### a loop over a list that is made there; two lists that change -/
theorem dat_hide2 {H : Hp} {h t : Addr} {xs ys : List V} {v : V} {d : PyData} (hh : H h = some (.lst xs)) (ht : H t = some (.lst ys)) (no : noL d = true) (D : Dat H v d) : Dat (hide h t H) v d := by
  by_cases e : t = h
  · subst e
    refine (dat_noL hh no D).same fun b o z => ?_
    unfold noR at z
    unfold hide
    split at z
    · cases z
    · rename_i n
      rw [if_neg (fun y => y.elim n n)]
      exact z
  · have D2 := dat_noL (H := noR h H) (noR_at ht e) no (dat_noL hh no D)
    refine D2.same fun b o z => ?_
    unfold noR at z
    unfold hide
    split at z
    · cases z
    · rename_i n
      split at z
      · cases z
      · rename_i n2
        rw [if_neg (fun y => y.elim n2 n)]
        exact z
theorem hide_updL {h t : Addr} {H : Hp} {o : HO} : hide h t (upd H h o) = hide h t H := by
  funext b
  unfold hide
  by_cases e : b = h ∨ b = t
  · rw [if_pos e, if_pos e]
  · rw [if_neg e, if_neg e, upd_ne (fun z => e (.inl z))]
theorem hide_updR {h t : Addr} {H : Hp} {o : HO} : hide h t (upd H t o) = hide h t H := by
  funext b
  unfold hide
  by_cases e : b = h ∨ b = t
  · rw [if_pos e, if_pos e]
  · rw [if_neg e, if_neg e, upd_ne (fun z => e (.inr z))]
theorem same_upd {B H : Hp} {h : Addr} {o : HO} (n : B h = none) (S : Same B H) : Same B (upd H h o) := fun b x e => by
  rw [upd_ne (ne_of_none e n)]
  exact S _ _ e
section
variable {N : Nat} {G : List (Nat × PyData)} {Hi : Hp} {i k : Nat} {d : PyData} {ds es : List PyData} {σ : L2.St} {H : Hp} {te : TE} {D : Ends} {R : TS}
theorem ST.skip {j : Nat} {x : Option V} (S : ST Hi G i ds σ H) (hG : G.all (fun p => p.1 != j) = true) (hij : j ≠ i) : ST Hi G i ds (σ.set j x) H := by
  obtain ⟨L, zs, H0, h1, h2, h3, h4, h5, h6, h7⟩ := S
  refine ⟨L, zs, H0, by rw [List.getElem?_set_ne hij]; exact h1, h2, h3, h4, h5, h6, fun p hp => ?_⟩
  obtain ⟨v, hv, dv⟩ := h7 p hp
  exact ⟨v, by rw [List.getElem?_set_ne (ne_of hG p hp).symm]; exact hv, dv⟩
theorem set_same {j : Nat} {x : Option V} (h : σ[j]? = some x) : σ.set j x = σ := by
  refine List.ext_getElem? fun m => ?_
  by_cases e : j = m
  · subst e
    rw [List.getElem?_set_self (at_len h), h]
  · rw [List.getElem?_set_ne e]
theorem ST.know {j : Nat} {v : V} {d : PyData} (S : ST Hi G i ds σ H) (hv : σ[j]? = some (some v)) (dv : Dat H v d) (no : noL d = true) (hG : G.all (fun p => p.1 != j) = true) (hij : j ≠ i) : ST Hi ((j, d) :: G) i ds σ H := by
  have z := st_set S (Same.refl H) dv no (ne_of hG) hij (at_len hv)
  rw [set_same hv] at z
  exact z
/-- for a in (a list that is made there): another list grows -/
theorem for_lstX {α : Type} {g : α → PyData} {K : PySem.W.Frag} {a : Nat} {t : TE} {tb : TS} {ok : List α → Prop} (S : ST Hi G k ds σ H) (hN : σ.length = N)
    (M : ∀ Q : VK, (∀ (rs : List α) (L : Addr) (xs : List V) (H' : Hp), ok rs → H L = none → Same H H' → H' L = some (.lst xs) → DatAll H' xs (rs.map g) → Q (.ref L) H') → t σ H Q)
    (no : ∀ rs, ok rs → ∀ r ∈ rs, noL (g r) = true) (hG : G.all (fun p => p.1 != a) = true) (hak : a ≠ k) (haN : a < N)
    (I : List α → Nat → List PyData → Prop) (h0 : ∀ rs, ok rs → I rs 0 ds)
    (body : ∀ (rs : List α) (j : Nat) (r : α) (Hb : Hp) (acc : List PyData) (σ' : L2.St) (H' : Hp) (D' : Ends), ok rs → rs[j]? = some r → I rs j acc → σ'.length = N → ST Hb ((a, g r) :: G) k acc σ' H' → (∀ acc2 σ2 H2, I rs (j + 1) acc2 → σ2.length = N → ST Hb ((a, g r) :: G) k acc2 σ2 H2 → D'.nx σ2 H2) → tb D' σ' H')
    (kk : ∀ (rs : List α) (acc : List PyData) (σ' : L2.St) (H' : Hp), ok rs → I rs rs.length acc → σ'.length = N → ST Hi G k acc σ' H' → D.nx σ' H') : tFor (iList K t) (gName a) tb D σ H := M _ fun rs L xs H1 hok nL S1 hL dL => by
  have hG := ne_of hG
  obtain ⟨Lk, zs, H0, h1, h2, h3, h4, h5, h6, h7⟩ := S
  have hLk : L ≠ Lk := fun e => by rw [e, h2] at nL; cases nL
  have hLk1 := S1 _ _ h2
  have hxl := dL.len
  rw [List.length_map] at hxl
  have T := noR_same h3 (h5.trans S1)
  have hLb : noR Lk H1 L = some (.lst xs) := noR_at hL hLk
  have dLb : DatAll (noR Lk H1) xs (rs.map g) := dat_noLs hLk1 (noLs_iff.mpr fun d hd => by
    obtain ⟨r, hr, rfl⟩ := List.mem_map.mp hd
    exact no rs hok r hr) dL
  have SB : ST (noR Lk H1) G k ds σ H1 := ⟨Lk, zs, noR Lk H1, h1, hLk1, if_pos rfl, Same.refl _, noR_sub, h6.same T, h7.same T⟩
  refine ⟨L, rfl, ⟨_, SqL.of hL⟩, for_list (K := K) (xs := xs) (fun j σ' H' => σ'.length = N ∧ ∃ acc, I rs j acc ∧ ST (noR Lk H1) G k acc σ' H') ⟨hN, ds, h0 rs hok, SB⟩ (fun j σ' H' _ ⟨_, _, _, g⟩ => SqL.of (g.same _ _ hLb)) ?_ ?_⟩
  · rintro j y σ' H' hy ⟨hN', acc, hI, g0⟩
    obtain ⟨p, hp, dy⟩ := dLb.get hy
    rw [List.getElem?_map] at hp
    obtain ⟨r, hr, rfl⟩ := Option.map_eq_some_iff.mp hp
    have g1 := st_set g0 (Same.refl H') (dy.same g0.same) (no rs hok r (List.mem_of_getElem? hr)) hG hak (by rw [hN']; exact haN)
    exact body rs j r _ acc _ H' _ hok hr hI (by rw [List.length_set, hN']) g1 fun acc2 σ2 H2 hI2 hN2 g3 => ⟨hN2, acc2, hI2, g3.weak fun q hq => List.mem_cons_of_mem _ hq⟩
  · rintro σ' H' ⟨hN', acc, hI, g⟩
    rw [hxl] at hI
    exact kk rs acc σ' H' hok hI hN' (g.base (h4.trans T))
end
theorem call_2 {sp : Sp} {E0 : XK} {t u : TE} {σ : L2.St} {H : Hp} {Q : VK} (h : t σ H fun v H1 => u σ H1 fun w H2 => sp [v, w] H2 Q E0) : tCall sp [] E0 (tCons t (tCons u tNil)) σ H Q := h
/-! ### merged rows -/
def hereN (r : List Nat) (n j : Nat) : Nat := ((List.range' j (n - j)).filter fun x => decide (x ∈ r)).length
def thereN (r : List Nat) (n j : Nat) : Nat := ((List.range' j (n - j)).filter fun x => !decide (x ∈ r)).length
theorem here_step (r : List Nat) {n j : Nat} (h : j < n) : hereN r n j = (if j ∈ r then 1 else 0) + hereN r n (j + 1) ∧ thereN r n j = (if j ∈ r then 0 else 1) + thereN r n (j + 1) := by
  unfold hereN thereN
  rw [show n - j = (n - (j + 1)) + 1 by omega, List.range'_succ]
  by_cases e : j ∈ r
  · rw [if_pos e, if_pos e, List.filter_cons_of_pos (by simpa using e), List.filter_cons_of_neg (by simpa using e), List.length_cons]
    omega
  · rw [if_neg e, if_neg e, List.filter_cons_of_neg (by simpa using e), List.filter_cons_of_pos (by simpa using e), List.length_cons]
    omega
theorem subs_tab : ∀ n, n < 5 → ∀ k, k < 5 → ∀ r ∈ subsM n k, hereN r n 0 = k ∧ thereN r n 0 = n - k := by decide +kernel
theorem subs_six : ∀ n, n < 5 → ∀ k, k < 5 → (subsM n k).length ≤ 6 := by decide +kernel
def okMerged (a b : List Str) (ds : List PyData) : Prop := ∃ rs : List (List Str), ds = rs.map srowD ∧ rs.length = (subsM (a.length + b.length) a.length).length ∧ ∀ r ∈ rs, r.Perm (a ++ b)
def spMerged : Sp := fun vs H Q _ => ∃ (v1 v2 : V) (a b : List Str), vs = [v1, v2] ∧ Dat H v1 (srowD a) ∧ Dat H v2 (srowD b) ∧ a.length + b.length ≤ 4 ∧ (∀ z ∈ a ++ b, z.length ≤ 1000) ∧ Fresh H Q (okMerged a b)
abbrev s_merged : Stmt := top 28
section
variable {P : Program} {w : World} {K : PySem.W.Frag} {mg : Str → Option Value} {base : Heap}
abbrev NM : List Str := ["_law_one", "_law_other", "_law_found", "_law_places", "_law_row", "_law_here", "_law_there", "_law_p"]
theorem sc_merged : FnScope NM ["_law_one", "_law_other"] (defScope s_merged) := ⟨rfl, rfl, rfl, by decide +kernel, rfl, by decide +kernel, by decide +kernel⟩
/-- one turn: the first of one of the lists -/
structure MrgI (a b : List Str) (r : List Nat) (n : Nat) (Hb Hs : Hp) (G : List (Nat × PyData)) (acc : List PyData) (h t : Addr) (j : Nat) (σ : L2.St) (Hx : Hp) : Prop where
  N : σ.length = 8
  S : ST Hb G 2 acc σ Hs
  B : Same Hs Hx
  h5 : σ[5]? = some (some (.ref h))
  h6 : σ[6]? = some (some (.ref t))
  x : ∃ (row hs ts : List Str) (v4 : V), σ[4]? = some (some v4) ∧ Dat (hide h t Hx) v4 (srowD row) ∧ Hx h = some (.lst (hs.map V.str)) ∧ Hx t = some (.lst (ts.map V.str)) ∧ hs.length = hereN r n j ∧ ts.length = thereN r n j ∧ (row ++ (hs ++ ts)).Perm (a ++ b) ∧ row.length = j
theorem okl_merged {f fS : Addr} {fd fdS : FuncData} (F : Fun K "_law_merged" "_law_merged" s_merged f fd) (T : Nm mg) (D_subsets : DefOk K mg "_law_subsets" s_subsets ["_law_n", "_law_k"] fS fdS) : FnOk P w K mg base CX0 2 f fd ["_law_one", "_law_other"] spMerged := by
  have G_subsets : FnOk P w K mg base CX0 1 fS fdS ["_law_n", "_law_k"] spSubs := okl_subsets D_subsets.F T
  refine F.ok sc_merged (fun vs H Q E h => ?_) (fun cdv A outer s H vs Q E hr h => ?_)
  · obtain ⟨v1, v2, a, b, rfl, _⟩ := h
    rfl
  · obtain ⟨v1, v2, a, b, rfl, hv1, hv2, hab, hz, q⟩ := h
    refine ⟨_, (pss_cons (ps_set (i := 2) sc_merged.nd rfl (Or.inl rfl) (pe_lst pa_nil))
      (pss_cons (ps_for PassesOwn.never rfl (pi_list (pe_call G_subsets hr rfl D_subsets.g D_subsets.F.kp D_subsets.b .nil pass0 (pa_cons (pe_op op_add (pe_callB cr_lenS (by rfl) T.len PySem.boot_len (pa_cons (pv 0) pa_nil)) (pe_callB cr_lenS (by rfl) T.len PySem.boot_len (pa_cons (pv 1) pa_nil))) (pa_cons (pe_callB cr_lenS (by rfl) T.len PySem.boot_len (pa_cons (pv 0) pa_nil)) pa_nil)))) (pg_name (i := 3) sc_merged.nd rfl (Or.inl rfl))
        (pss_cons (ps_par3 (i := 4) (j := 5) (l := 6) rfl sc_merged.nd rfl rfl rfl (by decide) (by decide) (by decide) rfl rfl rfl (pa_cons (pe_tupF pa_nil) (pa_cons (pe_callTy call_list_of (by rfl) T.list (by decide +kernel) (pa_cons (pv 0) pa_nil)) (pa_cons (pe_callTy call_list_of (by rfl) T.list (by decide +kernel) (pa_cons (pv 1) pa_nil)) pa_nil))) (by rfl))
        (pss_cons (ps_for PassesOwn.never rfl (pi_range1 rfl T.range (pa_cons (pe_op op_add (pe_callB cr_lenS (by rfl) T.len PySem.boot_len (pa_cons (pv 0) pa_nil)) (pe_callB cr_lenS (by rfl) T.len PySem.boot_len (pa_cons (pv 1) pa_nil))) pa_nil)) (pg_name (i := 7) sc_merged.nd rfl (Or.inl rfl))
          (pss_one (ps_set (i := 4) sc_merged.nd rfl (Or.inl rfl) (pe_op op_catF (pv 4) (pe_tupF (pa_cons (pe_bm PySem.F.plainAttrs_list PySem.F.slot_list_pop PySem.F.type_list_pop mt_popAt (pe_ifExp (pt_cmpR op_in_seq (pv 7) (pv 3) rfl) (pv 5) (pv 6)) (pa_cons pe_int pa_nil)) pa_nil))))))
        (pss_one (ps_expr (pe_bm PySem.F.plainAttrs_list PySem.F.slot_list_append PySem.F.type_list_append mt_append (pv 2) (pa_cons (pv 4) pa_nil)))))))
      (pss_one (ps_ret (pv 2))))), ?_⟩
    have E0 : EnvOk [(0, srowD a), (1, srowD b)] [some v1, some v2, none, none, none, none, none, none] H := fun p hp => by
      simp only [List.mem_cons, List.not_mem_nil, or_false] at hp
      rcases hp with rfl | rfl
      · exact ⟨_, rfl, hv1⟩
      · exact ⟨_, rfl, hv2⟩
    have la : (strsD a).length = a.length := List.length_map ..
    have lb : (strsD b).length = b.length := List.length_map ..
    have six := subs_six (a.length + b.length) (by omega) a.length (by omega)
    refine sq_new E0 (Same.refl H) mks_nil (by decide) (ne_of rfl) (by show 2 < 8; decide) fun p0 H0 S0 => ?_
    refine sq_of (for_lstX (N := 8) (k := 2) (g := rowD) (ok := fun rs => rs = subsM (a.length + b.length) a.length) S0 rfl (fun Q k => ?_) (fun rs _ r _ => rowD_noL r) rfl (by decide) (by decide)
      (fun rs j acc => ∃ rows : List (List Str), acc = rows.map srowD ∧ rows.length = j ∧ ∀ r ∈ rows, r.Perm (a ++ b)) (fun rs _ => ⟨[], rfl, rfl, fun r h => by cases h⟩) ?_ ?_)
    · have M0 : Mk [(0, srowD a), (1, srowD b)] (tCB (rLenS K) (tCons (tVar 0) tNil)) (.int ((a.length : Nat) : Int)) := mk_lenT (ds := strsD a) (mk_var List.mem_cons_self) la
      have M1 : Mk [(0, srowD a), (1, srowD b)] (tCB (rLenS K) (tCons (tVar 1) tNil)) (.int ((b.length : Nat) : Int)) := mk_lenT (ds := strsD b) (mk_var (List.mem_cons_of_mem _ List.mem_cons_self)) lb
      refine call_2 (mk_addN M0 M1 rfl _ H0 _ S0.env fun x1 H1 S1 d1 => M0 _ H1 _ (S0.env.same S1) fun x2 H2 S2 d2 => ?_)
      obtain rfl := dat_isInt d1
      obtain rfl := dat_isInt d2
      exact ⟨a.length + b.length, a.length, rfl, by omega, by omega, fun L zs ds H3 n3 S3 e3 d3 h3 => k _ L zs H3 rfl (none_back (S1.trans S2) n3) ((S1.trans S2).trans S3) e3 (by rw [← h3]; exact d3)⟩
    · rintro rs j r Hb acc σ' H' D' rfl hrj ⟨rows, rfl, hrl, hrp⟩ hN' S' k'
      have hj := (List.getElem?_eq_some_iff.mp hrj).1
      obtain ⟨t1, t2⟩ := subs_tab (a.length + b.length) (by omega) a.length (by omega) r (List.mem_of_getElem? hrj)
      -- row, here, there
      obtain ⟨u1, hu1, du1⟩ := S'.env (0, srowD a) (by simp)
      obtain ⟨u2, hu2, du2⟩ := S'.env (1, srowD b) (by simp)
      obtain ⟨a1, xs1, rfl, ha1, hx1⟩ := dat_tup du1
      obtain ⟨a2, xs2, rfl, ha2, hx2⟩ := dat_tup du2
      obtain rfl := dat_strs (ns := a) hx1
      obtain rfl := dat_strs (ns := b) hx2
      refine sq_of ⟨(by show 0 ≤ sizeLine; decide), fun p0 o0 n0 no0 => ⟨_, hu1, a1, _, rfl, .inr (sqT_rd (upR ha1 (same_new n0))), fun h nh => ⟨_, hu2, a2, _, rfl, .inr (sqT_rd (upR (upR ha2 (same_new n0)) (same_new nh))), fun t nt => ?_⟩⟩⟩
      refine ⟨_, _, _, rfl, ?_⟩
      have hn0 : H' h = none := none_back (same_new n0) nh
      have htn0 : H' t = none := none_back (same_new n0) (none_back (same_new nh) nt)
      have hth : t ≠ h := fun e => by rw [e, upd_same] at nt; cases nt
      have B3 := ((same_new (o := HO.frz o0 (.tup [])) n0).trans (same_new (o := HO.lst (a.map V.str)) nh)).trans (same_new (o := HO.lst (b.map V.str)) nt)
      have eh3 : upd (upd (upd H' p0 (.frz o0 (.tup []))) h (.lst (a.map V.str))) t (.lst (b.map V.str)) h = some (.lst (a.map V.str)) := by rw [upd_ne hth.symm, upd_same]
      have et3 : upd (upd (upd H' p0 (.frz o0 (.tup []))) h (.lst (a.map V.str))) t (.lst (b.map V.str)) t = some (.lst (b.map V.str)) := upd_same
      have dp : Dat (upd (upd (upd H' p0 (.frz o0 (.tup []))) h (.lst (a.map V.str))) t (.lst (b.map V.str))) (.ref p0) (srowD []) := Dat.same ((same_new nh).trans (same_new nt)) (.tup (TP.fz upd_same no0) .nil)
      generalize upd (upd (upd H' p0 (.frz o0 (.tup []))) h (.lst (a.map V.str))) t (.lst (b.map V.str)) = Hs at B3 eh3 et3 dp ⊢
      have S1 : ST Hb ((3, rowD r) :: [(0, srowD a), (1, srowD b)]) 2 (rows.map srowD) (((σ'.set 4 (some (.ref p0))).set 5 (some (.ref h))).set 6 (some (.ref t))) H' := ((S'.skip rfl (by decide)).skip rfl (by decide)).skip rfl (by decide)
      have N1 : (((σ'.set 4 (some (.ref p0))).set 5 (some (.ref h))).set 6 (some (.ref t))).length = 8 := by rw [List.length_set, List.length_set, List.length_set, hN']
      have M0 : Mk ((3, rowD r) :: [(0, srowD a), (1, srowD b)]) (tCB (rLenS K) (tCons (tVar 0) tNil)) (.int ((a.length : Nat) : Int)) := mk_lenT (ds := strsD a) (mk_var (by simp [srowD])) la
      have M1 : Mk ((3, rowD r) :: [(0, srowD a), (1, srowD b)]) (tCB (rLenS K) (tCons (tVar 1) tNil)) (.int ((b.length : Nat) : Int)) := mk_lenT (ds := strsD b) (mk_var (by simp [srowD])) lb
      refine sq_of (mk_addN M0 M1 rfl _ Hs _ (S1.env.same B3) fun x1 H4 S4 d4 => ?_)
      obtain rfl := dat_isInt d4
      refine ⟨((a.length + b.length : Nat) : Int), rfl, by omega, by omega, for_range (n := a.length + b.length) (fun j σ Hx => MrgI a b r (a.length + b.length) Hb H' ((3, rowD r) :: [(0, srowD a), (1, srowD b)]) (rows.map srowD) h t j σ Hx) ?_ ?_ ?_⟩
      · refine ⟨N1, S1, B3.trans S4, ?_, ?_, [], a, b, .ref p0, ?_, (dat_hide2 eh3 et3 (srowD_noL []) dp).same (hide_same S4), S4 _ _ eh3, S4 _ _ et3, t1.symm, by rw [t2]; omega, List.Perm.refl _, rfl⟩
        · rw [List.getElem?_set_ne (by decide), List.getElem?_set_self (by rw [List.length_set, hN']; decide)]
        · rw [List.getElem?_set_self (by rw [List.length_set, List.length_set, hN']; decide)]
        · rw [List.getElem?_set_ne (by decide), List.getElem?_set_ne (by decide), List.getElem?_set_self (by rw [hN']; decide)]
      · rintro i σ2 Hx hi I
        obtain ⟨row, hs, ts, v4, e4, dv4, eh, et, lh, lt, pm, lrow⟩ := I.x
        rw [show ((0 : Int) + (i : Nat)) = ((i : Nat) : Int) from Int.zero_add _]
        have IN := I.N
        have E7 : EnvOk ((7, PyData.int (i : Nat)) :: (3, rowD r) :: [(0, srowD a), (1, srowD b)]) (σ2.set 7 (some (.int ((i : Nat) : Int)))) Hx := (I.S.next I.B).env.put (ne_of rfl) (by rw [IN]; decide) (.int _)
        have MT := mkt (mk_inI (K := K) (i := i) (r := r) (G := (7, PyData.int (i : Nat)) :: (3, rowD r) :: [(0, srowD a), (1, srowD b)]) (mk_var (i := 7) List.mem_cons_self) (mk_var (i := 3) (List.mem_cons_of_mem _ List.mem_cons_self)))
        have g4 : (σ2.set 7 (some (V.int ((i : Nat) : Int))))[4]? = some (some v4) := by rw [List.getElem?_set_ne (by decide)]; exact e4
        have g5 : (σ2.set 7 (some (V.int ((i : Nat) : Int))))[5]? = some (some (.ref h)) := by rw [List.getElem?_set_ne (by decide)]; exact I.h5
        have g6 : (σ2.set 7 (some (V.int ((i : Nat) : Int))))[6]? = some (some (.ref t)) := by rw [List.getElem?_set_ne (by decide)]; exact I.h6
        obtain ⟨hs1, hs2⟩ := here_step r hi
        have hzr : ∀ z ∈ row ++ (hs ++ ts), z.length ≤ 1000 := fun z hz' => hz z (pm.mem_iff.mp hz')
        -- what both ways end with
        have fin : ∀ (z : Str) (hs' ts' : List Str) (H1 : Hp), (∀ b o, H' b = some o → H1 b = some o) → H1 h = some (.lst (hs'.map V.str)) → H1 t = some (.lst (ts'.map V.str)) → hide h t H1 = hide h t Hx ∨ Same (hide h t Hx) (hide h t H1) → hs'.length = hereN r (a.length + b.length) (i + 1) → ts'.length = thereN r (a.length + b.length) (i + 1) → ((row ++ [z]) ++ (hs' ++ ts')).Perm (row ++ (hs ++ ts)) →
            ∀ (p : Addr) (o : Obj), H1 p = none → o.dict = none → rCatF K v4 (.ref p) (upd H1 p (.frz o (.tup [V.str z]))) (fun v H2 => MrgI a b r (a.length + b.length) Hb H' ((3, rowD r) :: [(0, srowD a), (1, srowD b)]) (rows.map srowD) h t (i + 1) ((σ2.set 7 (some (V.int ((i : Nat) : Int)))).set 4 (some v)) H2) := by
          intro z hs' ts' H1 S1' eh1 et1 hh l1 l2 pm2 p o np no
          have hS : Same (hide h t Hx) (hide h t H1) := hh.elim (fun e => by rw [e]; exact Same.refl _) id
          obtain ⟨a4, xs4, rfl, ha4, hx4⟩ := dat_tup dv4
          obtain rfl := dat_strs (ns := row) hx4
          have Sp := same_new (o := HO.frz o (.tup [V.str z])) np
          refine catA_of (upR (upR (upR ha4 hS) (hide_sub _ _ _)) Sp) (TP.fz upd_same no) (by rw [List.length_map, sizeLine_eq]; show _ + 1 ≤ _; omega) fun c Hc Sc hc => ?_
          have pm3 : ((row ++ [z]) ++ (hs' ++ ts')).Perm (a ++ b) := pm2.trans pm
          have dc : Dat Hc (.ref c) (srowD (row ++ [z])) := by
            refine .tup (xs := (row ++ [z]).map V.str) (by rw [List.map_append]; exact hc) (strs_all _ _ fun y hy => hz y (pm3.mem_iff.mp (List.mem_append_left _ hy)))
          refine ⟨by rw [List.length_set, List.length_set, IN], (I.S.skip rfl (by decide)).skip rfl (by decide), (show Same H' H1 from S1').trans (Sp.trans Sc), by rw [List.getElem?_set_ne (by decide)]; exact g5, by rw [List.getElem?_set_ne (by decide)]; exact g6, row ++ [z], hs', ts', .ref c, List.getElem?_set_self (by rw [List.length_set, IN]; decide), ?_, Sc _ _ (Sp _ _ eh1), Sc _ _ (Sp _ _ et1), l1, l2, pm3, by rw [List.length_append, lrow]; rfl⟩
          exact dat_hide2 (Sc _ _ (Sp _ _ eh1)) (Sc _ _ (Sp _ _ et1)) (srowD_noL _) dc
        refine as_any ⟨v4, g4, MT _ Hx _ E7 fun H1 S1' => ?_⟩
        by_cases e : i ∈ r
        · rw [if_pos e] at hs1 hs2
          obtain ⟨z, hs', rfl⟩ : ∃ z hs', hs = z :: hs' := by
            cases hs with
            | nil => rw [List.length_nil] at lh; omega
            | cons z hs' => exact ⟨z, hs', rfl⟩
          refine if_t (decide_eq_true e) ⟨_, g5, .inl ⟨rfl, _, SqL.of (S1' _ _ eh)⟩, h, _, 0, 0, V.str z, rfl, rfl, S1' _ _ eh, by decide, by decide, by simp [seqIndex?], rfl, ⟨(by show 1 ≤ sizeLine; decide), ?_⟩⟩
          refine fin z hs' ts _ (same_upd hn0 (I.B.trans S1')) upd_same (by rw [upd_ne hth]; exact S1' _ _ et) (.inr (by rw [hide_updL]; exact hide_same S1')) (by rw [List.length_cons] at lh; omega) (by omega) ?_
          rw [List.append_assoc]
          exact List.Perm.refl _
        · rw [if_neg e] at hs1 hs2
          obtain ⟨z, ts', rfl⟩ : ∃ z ts', ts = z :: ts' := by
            cases ts with
            | nil => rw [List.length_nil] at lt; omega
            | cons z ts' => exact ⟨z, ts', rfl⟩
          refine if_f (decide_eq_false e) ⟨_, g6, .inl ⟨rfl, _, SqL.of (S1' _ _ et)⟩, t, _, 0, 0, V.str z, rfl, rfl, S1' _ _ et, by decide, by decide, by simp [seqIndex?], rfl, ⟨(by show 1 ≤ sizeLine; decide), ?_⟩⟩
          refine fin z hs ts' _ (same_upd htn0 (I.B.trans S1')) (by rw [upd_ne hth.symm]; exact S1' _ _ eh) upd_same (.inr (by rw [hide_updR]; exact hide_same S1')) (by omega) (by rw [List.length_cons] at lt; omega) ?_
          rw [List.append_assoc]
          refine List.Perm.append_left row ?_
          exact (List.perm_middle (a := z) (l₁ := hs) (l₂ := ts')).symm
      · rintro σ2 Hx I
        obtain ⟨row, hs, ts, v4, e4, dv4, eh, et, lh, lt, pm, lrow⟩ := I.x
        have z1 : hereN r (a.length + b.length) (a.length + b.length) = 0 := by unfold hereN; rw [Nat.sub_self]; rfl
        have z2 : thereN r (a.length + b.length) (a.length + b.length) = 0 := by unfold thereN; rw [Nat.sub_self]; rfl
        rw [z1] at lh
        rw [z2] at lt
        obtain rfl := List.eq_nil_of_length_eq_zero lh
        obtain rfl := List.eq_nil_of_length_eq_zero lt
        rw [List.append_nil, List.append_nil] at pm
        refine st_app (K := K) (Q := fun _ H1 => D'.nx σ2 H1) ((I.S.next I.B).know e4 (dv4.same (hide_sub _ _ _)) (srowD_noL row) rfl (by decide)) (mk_var List.mem_cons_self) (srowD_noL row) (by rw [List.length_map]; omega) fun H2 S2 => k' _ σ2 H2 ⟨rows ++ [row], by rw [List.map_append]; rfl, by rw [List.length_append, hrl]; rfl, fun y hy => ?_⟩ I.N (S2.weak fun p hp => List.mem_cons_of_mem _ hp)
        rcases List.mem_append.mp hy with h | h
        · exact hrp y h
        · rw [List.mem_singleton.mp h]
          exact pm
    · rintro rs acc σ' H' rfl ⟨rows, rfl, hrl, hrp⟩ hN' S'
      refine rt_st S' fun L zs n0 S e d => q L zs _ H' n0 S e d ⟨rows, rfl, hrl, hrp⟩
end
end KB
set_option maxRecDepth 100000
set_option maxHeartbeats 8000000
namespace KB
open PySem PySem.Spec PyProof.Rows L2
/-! ### an order, looked at one level deep -/
theorem order_view {n : Nat} {d : PyData} (h : orderB (n + 1) d = true) : (∃ z, d = itemD z ∧ nameS z = true ∧ namesN (n + 1) d = [z]) ∨
    (∃ w es, isSP w ∧ d = joinD w es ∧ 2 ≤ es.length ∧ es.length ≤ 6 ∧ (∀ e ∈ es, orderB n e = true) ∧ namesN (n + 1) d = es.flatMap (namesN n)) := by
  obtain ⟨d0, d1, rfl, hh⟩ := order_cases h
  obtain ⟨z, rfl⟩ := order_word h
  have e0 : eqStr "item" (.str z) = (z == "item") := rfl
  rcases hh with ⟨h0, hn⟩ | ⟨h0, es, rfl, l2, l6, hes⟩
  · rw [e0, beq_iff_eq] at h0
    subst h0
    cases d1 with
    | str y => exact .inl ⟨y, rfl, hn, item_names n y⟩
    | _ => cases hn
  · have hw : isSP z := by
      rw [orderB] at h
      have h2 : (if eqStr "item" (.str z) = true then nameB (.tuple es) else ((eqStr "series" (.str z) || eqStr "parallel" (.str z)) && (tupOf 2 6 (.tuple es) && es.all (orderB n)))) = true := ((Bool.and_eq_true _ _).mp h).2
      rw [h0, if_neg Bool.false_ne_true] at h2
      have h3 := ((Bool.and_eq_true _ _).mp h2).1
      rcases (Bool.or_eq_true _ _).mp h3 with h | h
      · exact .inl (beq_iff_eq.mp (show (z == "series") = true from h))
      · exact .inr (beq_iff_eq.mp (show (z == "parallel") = true from h))
    exact .inr ⟨z, es, hw, rfl, l2, l6, hes, join_names n hw es⟩
/-! ### layers with an open result -/
section
variable {N : Nat} {G : List (Nat × PyData)} {Hi : Hp} {i k : Nat} {d : PyData} {ds es : List PyData} {σ : L2.St} {H : Hp} {te : TE} {D : Ends} {R : TS}
theorem lay_turnX {tin : TS} {Pe : List PyData → Prop} (f : Fnd Hi G i ds σ H) (hN : σ.length = N) (hi : i < N) (hk : k < N) (hki : k ≠ i) (hGi : G.all (fun p => p.1 != i) = true) (hGk : G.all (fun p => p.1 != k) = true)
    (inner : ∀ (σ' : L2.St) (H' : Hp) (D' : Ends), σ'.length = N → ST H ((i, .list ds) :: G) k [] σ' H' → (∀ (es : List PyData) (σ2 : L2.St) (H2 : Hp), Pe es → σ2.length = N → ST H ((i, .list ds) :: G) k es σ2 H2 → D'.nx σ2 H2) → tin D' σ' H')
    (kk : ∀ (es : List PyData) (σ' : L2.St) (H' : Hp), Pe es → σ'.length = N → Same H H' → Fnd Hi G i es σ' H' → D.nx σ' H') : tSeq (tAsg (tLst tNil) (gName k)) (tSeq tin (tAsg (tVar k) (gName i))) D σ H := by
  have E := f.env
  have hkk : ∀ p ∈ (i, PyData.list ds) :: G, p.1 ≠ k := fun p hp => by
    rcases List.mem_cons.mp hp with rfl | hp
    · exact hki.symm
    · exact ne_of hGk p hp
  refine sq_new E (Same.refl H) mks_nil (by decide) hkk (by rw [hN]; exact hk) fun p H' S => ?_
  refine sq_of (inner _ _ _ (by rw [List.length_set, hN]) S fun es σ2 H2 hPe hN2 S2 => ?_)
  obtain ⟨L, zs, H0, h1, h2, h3, h4, h5, h6, h7⟩ := S2
  obtain ⟨_, _, _, _, _, _, g5, _⟩ := f
  refine ⟨_, h1, kk es _ _ hPe (by rw [List.length_set, hN2]) (h4.trans h5) ⟨L, zs, List.getElem?_set_self (by rw [hN2]; exact hi), none_back (g5.trans h4) h3, h2, h6.same h5, g5.trans (h4.trans h5), ?_⟩⟩
  exact EnvOk.set (fun p hp => (h7.same h5) p (List.mem_cons_of_mem _ hp)) (ne_of hGi)
/-- for a in (a list that is known): another list grows, in some way -/
theorem for_lstVX {α : Type} {g : α → PyData} {K : PySem.W.Frag} {a c : Nat} {tb : TS} {rs : List α} (S : ST Hi G k ds σ H) (hN : σ.length = N) (hc : (c, .list (rs.map g)) ∈ G) (no : ∀ r ∈ rs, noL (g r) = true)
    (hG : G.all (fun p => p.1 != a) = true) (hak : a ≠ k) (haN : a < N) (I : Nat → List PyData → Prop) (h0 : I 0 ds)
    (body : ∀ (j : Nat) (r : α) (Hb : Hp) (acc : List PyData) (σ' : L2.St) (H' : Hp) (D' : Ends), rs[j]? = some r → I j acc → σ'.length = N → ST Hb ((a, g r) :: G) k acc σ' H' → (∀ acc2 σ2 H2, I (j + 1) acc2 → σ2.length = N → ST Hb ((a, g r) :: G) k acc2 σ2 H2 → D'.nx σ2 H2) → tb D' σ' H')
    (kk : ∀ (acc : List PyData) (σ' : L2.St) (H' : Hp), I rs.length acc → σ'.length = N → ST Hi G k acc σ' H' → D.nx σ' H') : tFor (iList K (tVar c)) (gName a) tb D σ H := by
  have hG := ne_of hG
  obtain ⟨L, zs, H0, h1, h2, h3, h4, h5, h6, h7⟩ := S
  obtain ⟨v, hv, dv⟩ := h7 _ hc
  obtain ⟨a0, xs, rfl, ha, hx⟩ := dat_lst dv
  have hxl := hx.len
  rw [List.length_map] at hxl
  have SB : ST H0 G k ds σ H := ⟨L, zs, H0, h1, h2, h3, Same.refl _, h5, h6, h7⟩
  refine ⟨_, hv, a0, rfl, ⟨_, SqL.of (h5 _ _ ha)⟩, for_list (K := K) (xs := xs) (fun j σ' H' => σ'.length = N ∧ ∃ acc, I j acc ∧ ST H0 G k acc σ' H') ⟨hN, ds, h0, SB⟩ (fun j σ' H' _ ⟨_, _, _, g⟩ => SqL.of (g.same _ _ ha)) ?_ ?_⟩
  · rintro j y σ' H' hy ⟨hN', acc, hI, g0⟩
    obtain ⟨p, hp, dy⟩ := hx.get hy
    rw [List.getElem?_map] at hp
    obtain ⟨r, hr, rfl⟩ := Option.map_eq_some_iff.mp hp
    have g1 := st_set g0 (Same.refl H') (dy.same g0.same) (no r (List.mem_of_getElem? hr)) hG hak (by rw [hN']; exact haN)
    exact body j r H0 acc _ H' _ hr hI (by rw [List.length_set, hN']) g1 fun acc2 σ2 H2 hI2 hN2 g3 => ⟨hN2, acc2, hI2, g3.weak fun q hq => List.mem_cons_of_mem _ hq⟩
  · rintro σ' H' ⟨hN', acc, hI, g⟩
    rw [hxl] at hI
    exact kk acc σ' H' hI hN' (g.base h4)
/-- found.extend(a list that is made there) -/
theorem st_extX {K : PySem.W.Frag} {Q : VK} {Pe : List PyData → Prop} (S : ST Hi G i ds σ H)
    (M : ∀ Q : VK, (∀ (es : List PyData) (L : Addr) (ys : List V) (H' : Hp), Pe es → H L = none → Same H H' → H' L = some (.lst ys) → DatAll H' ys es → Q (.ref L) H') → te σ H Q)
    (hf : ∀ es, Pe es → noLs es = true ∧ ds.length + es.length ≤ 50000)
    (kk : ∀ (es : List PyData) (H' : Hp), Pe es → ST Hi G i (ds ++ es) σ H' → Q .non H') : tBM K "list" rExtend (tVar i) (tCons te tNil) σ H Q := by
  obtain ⟨L, zs, H0, h1, h2, h3, h4, h5, h6, h7⟩ := S
  refine ⟨_, h1, .inl ⟨rfl, _, SqL.of h2⟩, M _ fun es L2 ys H3 hPe n2 S3 e2 d2 => ?_⟩
  obtain ⟨no, hl⟩ := hf es hPe
  have lz := h6.len
  have ly := d2.len
  have hL := S3 _ _ h2
  have T := noR_same h3 (h5.trans S3)
  refine ⟨L, L2, zs, ys, rfl, rfl, hL, e2, by rw [lz, ly, sizeLine_eq]; omega, kk es _ hPe ⟨L, zs ++ ys, noR L H3, h1, upd_same, if_pos rfl, h4.trans T, noR_to, datAll_append (h6.same T) (dat_noLs hL no d2), h7.same T⟩⟩
end
/-! ### arrangements -/
def fct : Nat → Nat
  | 0 => 1
  | n + 1 => (n + 1) * fct n
theorem fct_tab : ∀ a, a < 5 → ∀ b, b < 5 → a + b < 5 → fct a * (fct b * (subsM (a + b) a).length) ≤ fct (a + b) ∧ 1 ≤ (subsM (a + b) a).length ∧ fct (a + b) ≤ 24 ∧ (subsM (a + b) a).length ≤ 6 ∧ 1 ≤ fct a := by decide +kernel
def okArrs (ns : List Str) (ds : List PyData) : Prop := ∃ rs : List (List Str), ds = rs.map srowD ∧ rs.length ≤ fct ns.length ∧ ∀ r ∈ rs, r.Perm ns
def spArrs (n : Nat) : Sp := fun vs H Q _ => ∃ (v : V) (d : PyData), vs = [v] ∧ n ≤ 6 ∧ Dat H v d ∧ orderB n d = true ∧ (namesN n d).length ≤ 4 ∧ Fresh H Q (okArrs (namesN n d))
theorem srows_noL (l : List (List Str)) : noLs (l.map srowD) = true := noLs_iff.mpr fun d hd => by
  obtain ⟨k, _, rfl⟩ := List.mem_map.mp hd
  exact srowD_noL k
abbrev s_arrangements : Stmt := top 29
section
variable {P : Program} {w : World} {K : PySem.W.Frag} {mg : Str → Option Value} {base : Heap}
abbrev NA : List Str := ["_law_order_here", "_law_found", "_law_part", "_law_longer", "_law_before", "_law_row"]
theorem sc_arrangements : FnScope NA ["_law_order_here"] (defScope s_arrangements) := ⟨rfl, rfl, rfl, by decide +kernel, rfl, by decide +kernel, by decide +kernel⟩
theorem arrs_body {f fM fS : Addr} {fd fdM fdS : FuncData} {k : Nat} {sp : Sp} (F : Fun K "_law_arrangements" "_law_arrangements" s_arrangements f fd) (b : L2.Binds K fd ["_law_order_here"] []) (g : mg "_law_arrangements" = some (.ref f)) (G : FnOk P w K mg base CX0 (2 + k) f fd ["_law_order_here"] sp) (T : Nm mg)
    (D_merged : DefOk K mg "_law_merged" s_merged ["_law_one", "_law_other"] fM fdM) (D_subsets : DefOk K mg "_law_subsets" s_subsets ["_law_n", "_law_k"] fS fdS) (n : Nat)
    (hn : ∀ m, n = m + 1 → n ≤ 6 → ∀ (x : V) (d : PyData) (H : Hp) (R : VK), Dat H x d → orderB m d = true → (namesN m d).length ≤ 4 → Fresh H R (okArrs (namesN m d)) → sp [x] H R E0) : FnOk P w K mg base CX0 (2 + k + 1) f fd ["_law_order_here"] (spArrs n) := by
  have G_merged : FnOk P w K mg base CX0 2 fM fdM ["_law_one", "_law_other"] spMerged := okl_merged D_merged.F T D_subsets
  refine F.ok sc_arrangements (fun vs H Q E h => ?_) (fun cdv A outer s H vs Q E hr h => ?_)
  · obtain ⟨v, d, rfl, _⟩ := h
    rfl
  · obtain ⟨v, d, rfl, h6, hd, ho, h4, q⟩ := h
    have hr2 : Room 2 _ := hr.mono (by omega)
    refine ⟨_, (pss_cons (ps_if (pt_cmpR op_eq (pe_ix ix_tup (pv 0) pe_int (fun _ _ => rfl)) pe_str (nomark _))
        (pss_one (ps_ret (pe_lst (pa_cons (pe_tupF (pa_cons (pe_ix ix_tup (pv 0) pe_int (fun _ _ => rfl)) pa_nil)) pa_nil))))
        pss_nil)
      (pss_cons (ps_set (i := 1) sc_arrangements.nd rfl (Or.inl rfl) (pe_lst (pa_cons (pe_tupF pa_nil) pa_nil)))
      (pss_cons (ps_for PassesOwn.never rfl (pi_tup (pe_ix ix_tup (pv 0) pe_int (fun _ _ => rfl))) (pg_name (i := 2) sc_arrangements.nd rfl (Or.inl rfl))
        (pss_cons (ps_set (i := 3) sc_arrangements.nd rfl (Or.inl rfl) (pe_lst pa_nil))
        (pss_cons (ps_for PassesOwn.never rfl (pi_list (pv 1)) (pg_name (i := 4) sc_arrangements.nd rfl (Or.inl rfl))
          (pss_one (ps_for PassesOwn.never rfl (pi_list (pe_call G hr rfl g F.kp b .nil pass0 (pa_cons (pv 2) pa_nil))) (pg_name (i := 5) sc_arrangements.nd rfl (Or.inl rfl))
            (pss_one (ps_expr (pe_bm PySem.F.plainAttrs_list PySem.F.slot_list_extend PySem.F.type_list_extend mt_extend (pv 3) (pa_cons (pe_ifExp (pt_cmpR op_eq (pe_ix ix_tup (pv 0) pe_int (fun _ _ => rfl)) pe_str (nomark _)) (pe_lst (pa_cons (pe_op op_catF (pv 4) (pv 5)) pa_nil)) (pe_call G_merged hr2 rfl D_merged.g D_merged.F.kp D_merged.b .nil pass0 (pa_cons (pv 4) (pa_cons (pv 5) pa_nil)))) pa_nil)))))))
        (pss_one (ps_set (i := 1) sc_arrangements.nd rfl (Or.inl rfl) (pv 3))))))
      (pss_one (ps_ret (pv 1)))))), ?_⟩
    cases n with
    | zero => exact Bool.noConfusion ((show false = true from ho) : false = true)
    | succ m =>
      have E0' : EnvOk [(0, d)] [some v, none, none, none, none, none] H := fun p hp => by
        obtain rfl := List.mem_singleton.mp hp
        exact ⟨_, rfl, hd⟩
      rcases order_view ho with ⟨z, rfl, hz, en⟩ | ⟨wd, es, hw, rfl, l2, l6, hes, en⟩
      · rw [en] at q
        have M0 : Mk [(0, itemD z)] (tVar 0) (.tuple [.str "item", .str z]) := mk_var List.mem_cons_self
        refine sq_if1 (mkt (mk_eqS (mk_ixT (K := K) (j := 0) M0 rfl rfl) (mk_str (by decide)) (decide_eq_true rfl))) E0' fun H1 S1 => ?_
        refine ret_ofX ((mks_cons (mk_tup (mks_cons (mk_ixT (K := K) (j := 1) (d := .str z) M0 rfl rfl) mks_nil) (by show 1 ≤ 1000; decide)) mks_nil : Mks [(0, itemD z)] _ [.tuple [.str z]]) _ H1 _ (E0'.same S1) fun vs H2 S2 d2 => ⟨by rw [d2.len]; show 1 ≤ sizeLine; decide, fun p np => ?_⟩)
        exact q p vs _ _ (none_back (S1.trans S2) np) ((S1.trans S2).trans (same_new np)) upd_same (d2.same (same_new np)) ⟨[[z]], rfl, by show 1 ≤ 1; decide, fun r hr => by rw [List.mem_singleton.mp hr]⟩
      · rw [en] at q h4
        have hwl : wd.length ≤ 1000 := by rcases hw with rfl | rfl <;> decide
        have M0 : ∀ {G : List (Nat × PyData)}, (0, joinD wd es) ∈ G → Mk G (tVar 0) (.tuple [.str wd, .tuple es]) := fun h => mk_var h
        refine sq_if0 (mkt (mk_eqS (mk_ixT (K := K) (j := 0) (d := .str wd) (M0 List.mem_cons_self) rfl rfl) (mk_str (by decide)) (decide_eq_false (by rcases hw with rfl | rfl <;> decide)))) E0' fun H1 S1 => ?_
        have E1 := E0'.same S1
        refine sq_new (ds := [srowD []]) E1 S1 (mks_cons (mk_tup mks_nil (by decide)) mks_nil) (by decide) (ne_of rfl) (by show 1 < 6; decide) fun p0 H2 S2 => ?_
        have f0 := Fnd.of S2
        refine sq_of (mk_ixT (K := K) (j := 1) (d := .tuple es) (M0 List.mem_cons_self) rfl rfl _ H2 _ S2.env fun v2 H3 S3 d3 => ?_)
        obtain ⟨a2, ys, rfl, ha2, hy2⟩ := dat_tup d3
        have hyl := hy2.len
        have f1 := f0.same S3
        have nOk := names_ok (m + 1) _ ho
        rw [en] at nOk
        refine ⟨a2, rfl, ⟨_, sqT_rd ha2⟩, for_tup (K := K) (xs := ys) (fun j σ' Hx => σ'.length = 6 ∧ Same H3 Hx ∧ ∃ rs : List (List Str), rs.length ≤ fct ((es.take j).flatMap (namesN m)).length ∧ (∀ r ∈ rs, r.Perm ((es.take j).flatMap (namesN m))) ∧ Fnd H [(0, joinD wd es)] 1 (rs.map srowD) σ' Hx) ⟨rfl, Same.refl _, [[]], by show 1 ≤ 1; decide, fun r hr => by rw [List.mem_singleton.mp hr]; exact List.Perm.refl _, f1⟩ (fun j σ' Hx _ g => sqT_rd (upR ha2 g.2.1)) ?_ ?_⟩
        · rintro j y σ' Hx hy ⟨hN, SH, rs, hrl, hrp, g⟩
          obtain ⟨e, hei, dy⟩ := hy2.get hy
          have hem := List.mem_of_getElem? hei
          have g1 := g.put (j := 2) rfl (by decide) (by rw [hN]; decide) (dy.same SH)
          have tot := flat_take (f := namesN m) es (j + 1)
          rw [flat_pre hei] at tot
          obtain ⟨A, hA⟩ : ∃ A, A = (es.take j).flatMap (namesN m) := ⟨_, rfl⟩
          obtain ⟨B, hB⟩ : ∃ B, B = namesN m e := ⟨_, rfl⟩
          have eA1 : (es.take (j + 1)).flatMap (namesN m) = A ++ B := by rw [flat_pre hei, hA, hB]
          rw [← hA] at hrl hrp tot
          rw [← hB] at tot
          have hAB : A.length + B.length ≤ 4 := by rw [List.length_append] at tot; omega
          have sh : ∀ z ∈ A ++ B, z.length ≤ 1000 := fun z hz => name_short (nOk z (by
            rw [← eA1] at hz
            obtain ⟨x, hx, hzx⟩ := List.mem_flatMap.mp hz
            exact List.mem_flatMap.mpr ⟨x, List.mem_of_mem_take hx, hzx⟩))
          obtain ⟨t1, t2, t3, t4, t5⟩ := fct_tab A.length (by omega) B.length (by omega) (by omega)
          obtain ⟨c, hc⟩ : ∃ c, c = (subsM (A.length + B.length) A.length).length := ⟨_, rfl⟩
          rw [← hc] at t1 t2 t4
          obtain ⟨X, hX⟩ : ∃ X, X = fct B.length * c := ⟨_, rfl⟩
          rw [← hX] at t1
          have hrX : rs.length * X ≤ fct (A.length + B.length) := Nat.le_trans (Nat.mul_le_mul_right _ hrl) t1
          refine lay_turnX (N := 6) (Pe := fun es' => ∃ rows : List (List Str), es' = rows.map srowD ∧ rows.length ≤ fct (A ++ B).length ∧ ∀ r ∈ rows, r.Perm (A ++ B)) g1 (by rw [List.length_set, hN]) (by decide) (by decide) (by decide) rfl rfl (fun σ2 H4 D2 hN2 S2 k2 => ?_) (fun es' σ3 H5 ⟨rows, h1, h2, h3⟩ hN3 S5 f3 => ⟨hN3, SH.trans S5, rows, by rw [eA1]; exact h2, by rw [eA1]; exact h3, by rw [← h1]; exact f3.weak fun p hp => List.mem_cons_of_mem _ hp⟩)
          refine for_lstVX (K := K) (N := 6) (c := 1) (a := 4) (rs := rs) (g := srowD) S2 hN2 List.mem_cons_self (fun r _ => srowD_noL r) rfl (by decide) (by decide) (fun i acc => ∃ rows : List (List Str), acc = rows.map srowD ∧ rows.length ≤ i * X ∧ ∀ r ∈ rows, r.Perm (A ++ B)) ⟨[], rfl, Nat.zero_le _, fun r h => by cases h⟩ ?_ ?_
          · rintro i r Hb acc σ3 H5 D3 hr ⟨rows, rfl, hl1, hp1⟩ hN3 S3 k3
            have hrm := List.mem_of_getElem? hr
            have hil := (List.getElem?_eq_some_iff.mp hr).1
            have hiX : i * X + X ≤ rs.length * X := by rw [← Nat.succ_mul]; exact Nat.mul_le_mul_right _ hil
            refine for_lstX (K := K) (N := 6) (a := 5) (g := srowD) (ok := fun rs2 : List (List Str) => rs2.length ≤ fct B.length ∧ ∀ r ∈ rs2, r.Perm B) S3 hN3 (fun Q kq => ?_) (fun _ _ r _ => srowD_noL r) rfl (by decide) (by decide) (fun rs2 i2 acc2 => ∃ rows : List (List Str), acc2 = rows.map srowD ∧ rows.length ≤ i * X + i2 * c ∧ ∀ r ∈ rows, r.Perm (A ++ B)) (fun rs2 _ => ⟨rows, rfl, by omega, hp1⟩) ?_ ?_
            · obtain ⟨u, hu, du⟩ := S3.env (2, e) (by simp)
              refine call_1 hu (hn m rfl h6 u e H5 _ du (hes e hem) (by rw [← hB]; omega) fun L zs ds H6 n6 S6 e6 d6 ⟨rs2, h2, h3, h4⟩ => kq rs2 L zs H6 ⟨by rw [hB]; exact h3, by rw [hB]; exact h4⟩ n6 S6 e6 (by rw [← h2]; exact d6))
            · rintro rs2 i2 r2 Hc acc2 σ4 H6 D4 ⟨hl2, hp2⟩ hr2' ⟨rows2, rfl, hl3, hp3⟩ hN4 S4 k4
              have hi2 := (List.getElem?_eq_some_iff.mp hr2').1
              have hr2m := List.mem_of_getElem? hr2'
              have hi2X : i2 * c + c ≤ X := by
                rw [← Nat.succ_mul, hX]
                exact Nat.mul_le_mul_right _ (by omega)
              have pr := (hrp r hrm).append (hp2 r2 hr2m)
              have lr := (hrp r hrm).length_eq
              have lr2 := (hp2 r2 hr2m).length_eq
              have M4 : Mk ((5, srowD r2) :: (4, srowD r) :: (1, .list (rs.map srowD)) :: (2, e) :: [(0, joinD wd es)]) (tVar 4) (.tuple (strsD r)) := mk_var (List.mem_cons_of_mem _ List.mem_cons_self)
              have M5 : Mk ((5, srowD r2) :: (4, srowD r) :: (1, .list (rs.map srowD)) :: (2, e) :: [(0, joinD wd es)]) (tVar 5) (.tuple (strsD r2)) := mk_var List.mem_cons_self
              refine st_extX (K := K) (Q := fun _ H1 => D4.nx σ4 H1) (Pe := fun es' => ∃ rs' : List (List Str), es' = rs'.map srowD ∧ rs'.length ≤ c ∧ ∀ r ∈ rs', r.Perm (A ++ B)) S4 (fun Q kq => ?_) (fun es' ⟨rs', h1, h2, _⟩ => ⟨by rw [h1]; exact srows_noL rs', by rw [h1, List.length_map, List.length_map]; omega⟩) (fun es' H7 ⟨rs', h1, h2, h3⟩ S7 => k4 _ σ4 H7 ⟨rows2 ++ rs', by rw [List.map_append, h1], by rw [List.length_append, Nat.succ_mul]; omega, fun y hy => (List.mem_append.mp hy).elim (hp3 y) (h3 y)⟩ hN4 S7)
              rcases hw with rfl | rfl
              · refine (mkt (mk_eqS (mk_ixT (K := K) (j := 0) (d := .str "series") (M0 (by simp)) rfl rfl) (mk_str (by decide)) (decide_eq_true rfl)) : MkT ((5, srowD r2) :: (4, srowD r) :: (1, .list (rs.map srowD)) :: (2, e) :: [(0, joinD "series" es)]) _ true) σ4 H6 _ S4.env fun H7 S7 => if_t rfl ?_
                refine (mks_cons (mk_catA (K := K) M4 M5 (by unfold strsD; rw [List.length_map, List.length_map]; omega)) mks_nil) σ4 H7 _ (S4.env.same S7) fun vs H8 S8 d8 => ⟨by rw [d8.len]; show 1 ≤ sizeLine; decide, fun p np => ?_⟩
                refine kq [srowD (r ++ r2)] p vs _ ⟨[r ++ r2], rfl, t2, fun y hy => by rw [List.mem_singleton.mp hy]; exact pr⟩ (none_back (S7.trans S8) np) ((S7.trans S8).trans (same_new np)) upd_same ?_
                rw [show srowD (r ++ r2) = .tuple (strsD r ++ strsD r2) by unfold srowD strsD; rw [List.map_append]]
                exact d8.same (same_new np)
              · refine (mkt (mk_eqS (mk_ixT (K := K) (j := 0) (d := .str "parallel") (M0 (by simp)) rfl rfl) (mk_str (by decide)) (decide_eq_false (by decide))) : MkT ((5, srowD r2) :: (4, srowD r) :: (1, .list (rs.map srowD)) :: (2, e) :: [(0, joinD "parallel" es)]) _ false) σ4 H6 _ S4.env fun H7 S7 => if_f rfl ?_
                obtain ⟨u4, hu4, du4⟩ := (S4.env.same S7) (4, srowD r) (by simp)
                obtain ⟨u5, hu5, du5⟩ := (S4.env.same S7) (5, srowD r2) (by simp)
                refine ⟨u4, hu4, u5, hu5, u4, u5, r, r2, rfl, du4, du5, by omega, fun z hz => sh z (pr.mem_iff.mp hz), fun L zs ds H8 n8 S8 e8 d8 ⟨rs', h1, h2, h3⟩ => kq ds L zs H8 ⟨rs', h1, ?_, fun y hy => (h3 y hy).trans pr⟩ (none_back S7 n8) (S7.trans S8) e8 d8⟩
                rw [h2, hc, lr, lr2]
                exact Nat.le_refl _
            · rintro rs2 acc σ4 H6 ⟨hl2, hp2⟩ ⟨rows2, rfl, hl3, hp3⟩ hN4 S4
              refine k3 _ σ4 H6 ⟨rows2, rfl, ?_, hp3⟩ hN4 S4
              have : rs2.length * c ≤ X := by rw [hX]; exact Nat.mul_le_mul_right _ hl2
              rw [Nat.succ_mul]
              omega
          · rintro acc σ3 H5 ⟨rows, rfl, hl1, hp1⟩ hN3 S3
            exact k2 _ σ3 H5 ⟨rows, rfl, by rw [List.length_append]; omega, hp1⟩ hN3 S3
        · rintro σ' Hx ⟨hN, SH, rs, hrl, hrp, g⟩
          rw [hyl, List.take_length] at hrl hrp
          exact rt_fnd g fun L zs n0 S e d => q L zs _ Hx n0 S e d ⟨rs, rfl, hrl, hrp⟩
/-- arrangements(d), d an order of at most n levels -/
theorem okl_arrs {f fM fS : Addr} {fd fdM fdS : FuncData} (F : Fun K "_law_arrangements" "_law_arrangements" s_arrangements f fd) (b : L2.Binds K fd ["_law_order_here"] []) (g : mg "_law_arrangements" = some (.ref f)) (T : Nm mg)
    (D_merged : DefOk K mg "_law_merged" s_merged ["_law_one", "_law_other"] fM fdM) (D_subsets : DefOk K mg "_law_subsets" s_subsets ["_law_n", "_law_k"] fS fdS) : ∀ n : Nat, FnOk P w K mg base CX0 (3 + n) f fd ["_law_order_here"] (spArrs n)
  | 0 => by
    have z := arrs_body (P := P) (w := w) (base := base) (k := 0) (sp := fun _ _ _ _ => False) F b g fn_none T D_merged D_subsets 0 fun m e => by cases e
    exact z
  | n + 1 => by
    have G := okl_arrs F b g T D_merged D_subsets n
    rw [show 3 + n = 2 + (n + 1) by omega] at G
    have z := arrs_body F b g G T D_merged D_subsets (n + 1) fun m e l6 x d H R hd ho hl hR => by
      obtain rfl : n = m := Nat.succ.inj e
      exact ⟨x, d, rfl, by omega, hd, ho, hl, hR⟩
    rw [show 3 + (n + 1) = 2 + (n + 1) + 1 by omega]
    exact z
end
end KB
set_option maxRecDepth 1000000
set_option maxHeartbeats 4000000
namespace KB
open PySem PySem.Spec PyProof.Rows L2
/-! ### list(zip(t, u)) of two tuples -/
section
variable {prog : Program} {w : World} {A : Around} {E : Value → Shared → Prop} {s : Shared}
theorem zt_no_len : typeLookup (.type "zip") "__len__" = pure none := am_miss_of_fast (by decide +kernel)
theorem zt_no_hint : typeLookup (.type "zip") "__length_hint__" = pure none := am_miss_of_fast (by decide +kernel)
/-- next, where the pair given out before still stands -/
theorem zt_held {z TI TO T a b l m : Addr} {i : Nat} {xs ys : Array Value} {x y : Value} {f : Bool} {oT : Obj} {Q : Value → Shared → Prop} (D : ZipApart z TI TO a b l m)
    (hz : IsZipHeld s.heap z TI TO T f) (hT : s.heap.get? T = some oT) (hI : IsPair s.heap TI (.ref a) (.ref b)) (ha : s.heap.IsTupleIter a l i) (hb : s.heap.IsTupleIter b m i) (hl : s.heap.IsTuple l xs) (hm : s.heap.IsTuple m ys) (hx : xs[i]? = some x) (hy : ys[i]? = some y)
    (hQ : ∀ h', IsZipHeld h' z TI TO T true → h'.IsTupleIter a l (i + 1) → h'.IsTupleIter b m (i + 1) → IsPair h' s.heap.objs.size x y → (∀ c o, c ≠ z → c ≠ a → c ≠ b → s.heap.get? c = some o → h'.get? c = some o) → Q (.ref s.heap.objs.size) { s with heap := h' }) :
    wpAny (model prog w) A (Builtin.«zip.__next__» ⟨[.ref z], []⟩) (fun fin s' => ∃ v, fin = .done (.ret v) ∧ Q v s') E s := by
  obtain ⟨hp, g, d, tk, os⟩ := s
  show wpAny _ _ (field (.ref z) 2 >>= _) _ _ ⟨hp, g, d, tk, os⟩
  refine wpAny_bind (wpAny_field hz rfl (x := .bool false) rfl ?_)
  show wpAny _ _ (field (.ref z) 3 >>= _) _ _ ⟨hp, g, d, tk, os⟩
  refine wpAny_bind (wpAny_field hz rfl (x := .ref TI) rfl ?_)
  refine wpAny_bind (wpAny_seqItems hI rfl ?_)
  show wpAny _ _ (Builtin.SmallTypes.ownedTupleIsFree (.ref z) >>= _) _ _ ⟨hp, g, d, tk, os⟩
  refine wpAny_bind (wpAny_tupleHeld_zip (s := ⟨hp, g, d, tk, os⟩) hz hT fun g1 z1 s1 => ?_)
  have s1 : Heap.SameBut z hp g1 := s1
  simp only [Bool.false_eq_true, if_false]
  refine wpAny_bind ?_
  rw [← Array.forIn_toList]
  simp only [List.forIn_cons, List.forIn_nil]
  refine wpAny_bind (wpAny_bind (wpAny_holding ?_))
  show wpAny _ _ (Builtin.SmallTypes.nextOf (.ref a) >>= _) _ _ ⟨g1, g, d, tk, os⟩
  refine wpAny_bind (RZ.nextOf_tuple_item (s := ⟨g1, g, d, tk, os⟩) (ha.at fun o q => s1.extBut _ _ D.i1z q) (hl.extBut s1.extBut D.l1z) hx fun g2 a2 s2 => wpAny_pure ?_)
  have s2 : Heap.SameBut a g1 g2 := s2
  refine wpAny_pure ?_
  refine wpAny_bind (wpAny_bind (wpAny_holding ?_))
  show wpAny _ _ (Builtin.SmallTypes.nextOf (.ref b) >>= _) _ _ ⟨g2, g, d, tk, os⟩
  refine wpAny_bind (RZ.nextOf_tuple_item (s := ⟨g2, g, d, tk, os⟩) (hb.at fun o q => s2.extBut _ _ D.i12.symm (s1.extBut _ _ D.i2z q)) ((hm.extBut s1.extBut D.l2z).extBut s2.extBut D.l2i1) hy fun g3 b3 s3 => wpAny_pure ?_)
  have s3 : Heap.SameBut b g2 g3 := s3
  refine wpAny_pure (wpAny_pure ?_)
  show wpAny _ _ (newTuple [x, y] >>= _) _ _ ⟨g3, g, d, tk, os⟩
  refine wpAny_bind (wpAny_newTuple ?_)
  have e3 : g3.objs.size = hp.objs.size := by rw [s3.1, s2.1, s1.1]
  have z3 : IsZipHeld g3 z TI TO T true := s3.extBut _ _ D.i2z.symm (s2.extBut _ _ D.i1z.symm z1)
  have kp : ∀ c o, c ≠ z → c ≠ a → c ≠ b → hp.get? c = some o → g3.get? c = some o := fun c o c1 c2 c3 e => s3.extBut _ _ c3 (s2.extBut _ _ c2 (s1.extBut _ _ c1 e))
  have a3 : g3.IsTupleIter a l (i + 1) := a2.at fun o q => s3.extBut _ _ D.i12 q
  refine wpAny_pure ⟨_, rfl, ?_⟩
  have pr : IsPair (g3.push { cls := .type "tuple", data := .seq #[x, y] }) g3.objs.size x y := Heap.get?_push_size _ rfl
  show Q (.ref g3.objs.size) _
  rw [e3] at pr ⊢
  exact hQ _ (Heap.get?_push_of_some _ z3) (a3.at fun o e => Heap.get?_push_of_some _ e) (b3.at fun o e => Heap.get?_push_of_some _ e) pr fun c o c1 c2 c3 e => Heap.get?_push_of_some _ (kp c o c1 c2 c3 e)
theorem zt_held_end {z TI TO T a b l m : Addr} {i : Nat} {xs ys : Array Value} {f : Bool} {oT : Obj} {Q : Fin → Shared → Prop} (hh : A.handled = none) (D : ZipApart z TI TO a b l m)
    (hz : IsZipHeld s.heap z TI TO T f) (hT : s.heap.get? T = some oT) (hI : IsPair s.heap TI (.ref a) (.ref b)) (ha : s.heap.IsTupleIter a l i) (hl : s.heap.IsTuple l xs) (hx : xs[i]? = none)
    (hE : ∀ h' e, (∀ c o, c ≠ z → c ≠ a → s.heap.get? c = some o → h'.get? c = some o) → (∃ o, h'.get? e = some o ∧ o.cls = .type "StopIteration") → E (.ref e) { s with heap := h' }) :
    wpAny (model prog w) A (Builtin.«zip.__next__» ⟨[.ref z], []⟩) Q E s := by
  obtain ⟨hp, g, d, tk, os⟩ := s
  show wpAny _ _ (field (.ref z) 2 >>= _) _ _ ⟨hp, g, d, tk, os⟩
  refine wpAny_bind (wpAny_field hz rfl (x := .bool false) rfl ?_)
  show wpAny _ _ (field (.ref z) 3 >>= _) _ _ ⟨hp, g, d, tk, os⟩
  refine wpAny_bind (wpAny_field hz rfl (x := .ref TI) rfl ?_)
  refine wpAny_bind (wpAny_seqItems hI rfl ?_)
  show wpAny _ _ (Builtin.SmallTypes.ownedTupleIsFree (.ref z) >>= _) _ _ ⟨hp, g, d, tk, os⟩
  refine wpAny_bind (wpAny_tupleHeld_zip (s := ⟨hp, g, d, tk, os⟩) hz hT fun g1 z1 s1 => ?_)
  have s1 : Heap.SameBut z hp g1 := s1
  simp only [Bool.false_eq_true, if_false]
  refine wpAny_bind ?_
  rw [← Array.forIn_toList]
  simp only [List.forIn_cons, List.forIn_nil]
  refine wpAny_bind (wpAny_bind (wpAny_holding ?_))
  show wpAny _ _ (Builtin.SmallTypes.nextOf (.ref a) >>= _) _ _ ⟨g1, g, d, tk, os⟩
  exact wpAny_bind (RZ.nextOf_tuple_end (s := ⟨g1, g, d, tk, os⟩) hh (ha.at fun o q => s1.extBut _ _ D.i1z q) (hl.extBut s1.extBut D.l1z) hx fun g2 e s2 he => hE g2 e (fun c o c1 c2 q => s2 _ _ c2 (s1.extBut _ _ c1 q)) he)
/-- what stands between two nexts -/
def ZtSt (z TI TO a b l m : Addr) (xs ys : Array Value) (i : Nat) (h : Heap) : Prop := IsPair h TI (.ref a) (.ref b) ∧ h.IsTupleIter a l i ∧ h.IsTupleIter b m i ∧ h.IsTuple l xs ∧ h.IsTuple m ys ∧
  ((IsZip h z TI TO .none ∧ ∃ x y, IsPair h TO x y) ∨ ∃ T f oT, IsZipHeld h z TI TO T f ∧ h.get? T = some oT ∧ T ≠ z ∧ T ≠ a ∧ T ≠ b)
theorem zt_item {z TI TO a b l m : Addr} {xs ys : Array Value} {i : Nat} {x y : Value} {Q : Option Value → Shared → Prop} (D : ZipApart z TI TO a b l m) (st : ZtSt z TI TO a b l m xs ys i s.heap) (hx : xs[i]? = some x) (hy : ys[i]? = some y)
    (hQ : ∀ h', ZtSt z TI TO a b l m xs ys (i + 1) h' → h'.get? s.heap.objs.size = some { cls := .type "tuple", data := .seq #[x, y] } → (∀ c o, c ≠ z → c ≠ TO → c ≠ a → c ≠ b → s.heap.get? c = some o → h'.get? c = some o) → Q (some (.ref s.heap.objs.size)) { s with heap := h' }) :
    wpAny (model prog w) A (pyNext (.ref z)) Q E s := by
  obtain ⟨hI, ha, hb, hl, hm, hz⟩ := st
  have na : s.heap.objs.size ≠ a := let ⟨_, q, _⟩ := ha; Nat.ne_of_gt (Heap.lt_size q)
  have nb : s.heap.objs.size ≠ b := let ⟨_, q, _⟩ := hb; Nat.ne_of_gt (Heap.lt_size q)
  rcases hz with ⟨hz, x0, y0, hO⟩ | ⟨T, f, oT, hz, hT, r1, r2, r3⟩
  · refine RZ.pyNext_zipT_item D hz hI hO ha hb hl hm hx hy fun h' z' O' a' b' hP _ hk => ?_
    exact hQ h' ⟨hk _ _ D.TIz D.TITO D.TIi1 D.TIi2 hI, a', b', hl.at fun o q => hk _ o D.l1z D.l1TO D.l1i1 D.l1i2 q, hm.at fun o q => hk _ o D.l2z D.l2TO D.l2i1 D.l2i2 q, .inr ⟨s.heap.objs.size, false, _, z', hP, Nat.ne_of_gt (Heap.lt_size hz), na, nb⟩⟩ hP hk
  · have hTy : s.TypeIs (.ref z) "zip" := ⟨_, hz, rfl⟩
    unfold pyNext
    refine wpAny_bind (wpAny_attempt (wpAny_callSpecial?_slot (name := Str.ofString "__next__") hTy F.slot_zip_next
      (wpAny_call_entry F.slot_zip_next hTy F.entry_zip_next
        (zt_held D hz hT hI ha hb hl hm hx hy fun h' z' a' b' hP hk => wpAny_pure (hQ h' ⟨hk _ _ D.TIz D.TIi1 D.TIi2 hI, a', b', hl.at fun o q => hk _ o D.l1z D.l1i1 D.l1i2 q, hm.at fun o q => hk _ o D.l2z D.l2i1 D.l2i2 q, .inr ⟨T, true, oT, z', hk _ _ r1 r2 r3 hT, r1, r2, r3⟩⟩ hP fun c o c1 _ c3 c4 q => hk c o c1 c3 c4 q)) (F.args_zip_next_1 _))))
theorem zt_end {z TI TO a b l m : Addr} {xs ys : Array Value} {Q : Option Value → Shared → Prop} (hh : A.handled = none) (D : ZipApart z TI TO a b l m) (st : ZtSt z TI TO a b l m xs ys xs.size s.heap)
    (hQ : ∀ h', (∀ c o, c ≠ z → c ≠ TO → c ≠ a → c ≠ b → s.heap.get? c = some o → h'.get? c = some o) → Q none { s with heap := h' }) : wpAny (model prog w) A (pyNext (.ref z)) Q E s := by
  obtain ⟨hI, ha, hb, hl, hm, hz⟩ := st
  rcases hz with ⟨hz, x0, y0, hO⟩ | ⟨T, f, oT, hz, hT, r1, r2, r3⟩
  · exact RZ.pyNext_zipT_end hh D hz hI hO ha hb hl hm (.inl (by simp)) fun h' hk => hQ h' hk
  · have hTy : s.TypeIs (.ref z) "zip" := ⟨_, hz, rfl⟩
    unfold pyNext
    refine wpAny_bind (wpAny_attempt (wpAny_callSpecial?_slot (name := Str.ofString "__next__") hTy F.slot_zip_next
      (wpAny_call_entry F.slot_zip_next hTy F.entry_zip_next (zt_held_end (ys := ys) hh D hz hT hI ha hl (by simp) fun h' e hk he => ?_) (F.args_zip_next_1 _))))
    obtain ⟨o, ho, hc⟩ := he
    exact wpAny_bind (wpAny_isInstance (T := "StopIteration") (b := true) ⟨o, ho, hc⟩ isSubtype_stop (wpAny_pure (hQ _ fun c o c1 _ c3 _ q => hk c o c1 c3 q)))
end
/-! the loop, the call -/
/-- the pairs that stand in the new list -/
structure ZtPs (N S z TO a b : Addr) (xs ys : Array Value) (n : Nat) (h : Heap) (acc : Array Value) (as : List Addr) : Prop where
  acc : acc.toList = as.map Value.ref
  len : as.length = n
  nd : as.Nodup
  off : ∀ c ∈ as, c ≠ S ∧ c ≠ z ∧ c ≠ TO ∧ c ≠ a ∧ c ≠ b ∧ N ≤ c ∧ c < h.objs.size
  at' : ∀ (j : Nat) (T : Addr) (x y : Value), as[j]? = some T → xs[j]? = some x → ys[j]? = some y → h.get? T = some { cls := .type "tuple", data := .seq #[x, y] }
section
variable {prog : Program} {w : World} {A : Around} {E : Value → Shared → Prop} {s : Shared} {R : Result → Shared → Prop}
theorem zt_loop {N S z TI TO a b l m : Addr} {xs ys : Array Value} {res : Value} (hh : A.handled = none) (D : ZipApart z TI TO a b l m) (hz : xs.size ≤ 1000) (hxy : xs.size = ys.size) (h1 : S ≠ z) (h2 : S ≠ TI) (h3 : S ≠ TO) (h4 : S ≠ a) (h5 : S ≠ b) (h6 : S ≠ l) (h7 : S ≠ m) :
    ∀ (k i : Nat) (s : Shared) (acc : Array Value) (as : List Addr) (c : Nat), xs.size - i = k → i ≤ xs.size → N ≤ s.heap.objs.size → ZtSt z TI TO a b l m xs ys i s.heap → TO < s.heap.objs.size → s.heap.get? S = some { cls := .type "list", dict := none, data := .seq acc c, slots := #[] } → ZtPs N S z TO a b xs ys i s.heap acc as →
      (∀ h' acc' as' c', (∀ d o, d ≠ S → d ≠ z → d ≠ TO → d ≠ a → d ≠ b → s.heap.get? d = some o → h'.get? d = some o) → h'.get? S = some { cls := .type "list", dict := none, data := .seq acc' c', slots := #[] } → ZtPs N S z TO a b xs ys xs.size h' acc' as' → R (.ok (.ret res)) { s with heap := h' }) →
      codeAny (model prog w) A (.builtin "list.extend.loop" ⟨[.ref S, .ref z, res], []⟩) R s := by
  intro k
  induction k with
  | zero =>
    intro i s acc as c hk hi hN st hO hS hp hR
    obtain rfl : i = xs.size := by omega
    refine codeAny_builtin F.entry_extend_loop ?_
    rw [Around.under_plainId F.plain_extend_loop _]
    show wpAny _ A.in1 (pyNext (.ref z) >>= _) _ _ s
    refine wpAny_bind (zt_end (A := A.in1) hh D st fun h' kp => wpAny_pure (hR h' acc as c (fun d o _ b2 b3 b4 b5 q => kp d o b2 b3 b4 b5 q) (kp S _ h1 h3 h4 h5 hS) ⟨hp.acc, hp.len, hp.nd, fun d hd => ?_, fun j T x y hT hx hy => ?_⟩))
    · obtain ⟨c1, c2, c3, c4, c5, c6, c7⟩ := hp.off d hd
      obtain ⟨j, hj⟩ := List.mem_iff_getElem?.mp hd
      have hjl := (List.getElem?_eq_some_iff.mp hj).1
      have hjl := hp.len
      have hjx : j < xs.size := by omega
      have hjy : j < ys.size := by omega
      exact ⟨c1, c2, c3, c4, c5, c6, Heap.lt_size (kp d _ c2 c3 c4 c5 (hp.at' j d _ _ hj (Array.getElem?_eq_getElem hjx) (Array.getElem?_eq_getElem hjy)))⟩
    · obtain ⟨c1, c2, c3, c4, c5, _, _⟩ := hp.off T (List.mem_of_getElem? hT)
      exact kp T _ c2 c3 c4 c5 (hp.at' j T x y hT hx hy)
  | succ k ih =>
    intro i s acc as c hk hi hN st hO hS hp hR
    have hlt : i < xs.size := by omega
    have hlt2 : i < ys.size := by omega
    have hx : xs[i]? = some xs[i] := Array.getElem?_eq_getElem hlt
    have hy : ys[i]? = some ys[i] := Array.getElem?_eq_getElem hlt2
    have hasz : acc.size = i := by rw [← Array.length_toList, hp.acc, List.length_map, hp.len]
    refine codeAny_builtin F.entry_extend_loop ?_
    rw [Around.under_plainId F.plain_extend_loop _]
    show wpAny _ A.in1 (pyNext (.ref z) >>= _) _ _ s
    have sS : S < s.heap.objs.size := Heap.lt_size hS
    have sz : z < s.heap.objs.size := by
      rcases st.2.2.2.2.2 with ⟨q, _⟩ | ⟨_, _, _, q, _⟩ <;> exact Heap.lt_size q
    have sa : a < s.heap.objs.size := let ⟨_, q, _⟩ := st.2.1; Heap.lt_size q
    have sb : b < s.heap.objs.size := let ⟨_, q, _⟩ := st.2.2.1; Heap.lt_size q
    refine wpAny_bind (zt_item (A := A.in1) D st hx hy fun g1 st1 hT kp => ?_)
    have hS1 := kp S _ h1 h3 h4 h5 hS
    show wpAny _ A.in1 (updateSeq S (·.push (.ref s.heap.objs.size)) >>= _) _ _ _
    refine wpAny_bind ?_
    refine wpAny_updateSeq hS1 rfl (wpAny_pure ⟨plainId_quiet F.plain_extend_loop _, ?_⟩) (by rw [hasz, sizeLine_eq]; omega) (by show (acc.push (.ref s.heap.objs.size)).size ≤ sizeLine + 1; rw [Array.size_push, hasz, sizeLine_eq]; omega)
    have oth : ∀ d o, d ≠ S → g1.get? d = some o → (g1.update S (Obj.mapSeq (·.push (.ref s.heap.objs.size)))).get? d = some o := fun d o hd q => (Heap.get?_update_other _ _ (Ne.symm hd)).trans q
    have hT2 := oth _ _ (Nat.ne_of_gt sS) hT
    have big : s.heap.objs.size < (g1.update S (Obj.mapSeq (·.push (.ref s.heap.objs.size)))).objs.size := Heap.lt_size hT2
    refine ih (i + 1) _ (acc.push (.ref s.heap.objs.size)) (as ++ [s.heap.objs.size]) _ (by omega) hlt (Nat.le_trans hN (Nat.le_of_lt big)) ?_ (Nat.lt_trans hO big) (Heap.get?_update_self _ hS1 rfl) ⟨?_, ?_, ?_, fun d hd => ?_, fun j T x y hT' hx' hy' => ?_⟩ fun h' acc' as' c' kp' a1 a2 => hR h' acc' as' c' (fun d o b1 b2 b3 b4 b5 q => kp' d o b1 b2 b3 b4 b5 (oth d o b1 (kp d o b2 b3 b4 b5 q))) a1 a2
    · obtain ⟨hI, ha, hb, hl, hm, hzz⟩ := st1
      refine ⟨oth _ _ (Ne.symm h2) hI, ha.at fun o q => oth a o (Ne.symm h4) q, hb.at fun o q => oth b o (Ne.symm h5) q, hl.at fun o q => oth l o (Ne.symm h6) q, hm.at fun o q => oth m o (Ne.symm h7) q, ?_⟩
      rcases hzz with ⟨q, x0, y0, q2⟩ | ⟨T, f, oT, q, hT', r1, r2, r3⟩
      · exact .inl ⟨oth _ _ (Ne.symm h1) q, x0, y0, oth _ _ (Ne.symm h3) q2⟩
      · by_cases hTS : T = S
        · subst hTS
          exact .inr ⟨T, f, _, oth _ _ (Ne.symm h1) q, Heap.get?_update_self _ hS1 rfl, r1, r2, r3⟩
        · exact .inr ⟨T, f, oT, oth _ _ (Ne.symm h1) q, oth T _ hTS hT', r1, r2, r3⟩
    · rw [Array.toList_push, hp.acc, List.map_append]
      rfl
    · rw [List.length_append, hp.len]
      rfl
    · refine List.nodup_append.mpr ⟨hp.nd, by simp, fun d hd e he => ?_⟩
      rw [List.mem_singleton] at he
      obtain ⟨_, _, _, _, _, _, c7⟩ := hp.off d hd
      intro q
      rw [q, he] at c7
      exact Nat.lt_irrefl _ c7
    · rcases List.mem_append.mp hd with hd | hd
      · obtain ⟨c1, c2, c3, c4, c5, c6, c7⟩ := hp.off d hd
        exact ⟨c1, c2, c3, c4, c5, c6, Nat.lt_trans c7 big⟩
      · rw [List.mem_singleton] at hd
        subst hd
        exact ⟨Nat.ne_of_gt sS, Nat.ne_of_gt sz, Nat.ne_of_gt hO, Nat.ne_of_gt sa, Nat.ne_of_gt sb, hN, big⟩
    · by_cases hji : j < as.length
      · rw [List.getElem?_append_left hji] at hT'
        obtain ⟨c1, c2, c3, c4, c5, c6, c7⟩ := hp.off T (List.mem_of_getElem? hT')
        exact oth _ _ c1 (kp _ _ c2 c3 c4 c5 (hp.at' j T x y hT' hx' hy'))
      · have hj2 := (List.getElem?_eq_some_iff.mp hT').1
        rw [List.length_append, List.length_cons, List.length_nil, hp.len] at hj2
        rw [hp.len] at hji
        obtain rfl : j = i := by omega
        rw [List.getElem?_append_right (by rw [hp.len]; exact Nat.le_refl _), hp.len, Nat.sub_self] at hT'
        cases hT'
        obtain rfl : xs[j] = x := Option.some.inj (hx.symm.trans hx')
        obtain rfl : ys[j] = y := Option.some.inj (hy.symm.trans hy')
        exact hT2
theorem zt_extend {N S z TI TO a b l m : Addr} {xs ys : Array Value} {res : Value} {c0 : Nat} (hh : A.handled = none) (D : ZipApart z TI TO a b l m) (hz : xs.size ≤ 1000) (hxy : xs.size = ys.size) (h1 : S ≠ z) (h2 : S ≠ TI) (h3 : S ≠ TO) (h4 : S ≠ a) (h5 : S ≠ b) (h6 : S ≠ l) (h7 : S ≠ m)
    (hN : N ≤ s.heap.objs.size) (st : ZtSt z TI TO a b l m xs ys 0 s.heap) (hz0 : IsZip s.heap z TI TO .none) (hO : TO < s.heap.objs.size) (hS : s.heap.get? S = some { cls := .type "list", data := .seq #[] c0 })
    (hR : ∀ h' acc' as' c', (∀ d o, d ≠ S → d ≠ z → d ≠ TO → d ≠ a → d ≠ b → s.heap.get? d = some o → h'.get? d = some o) → h'.get? S = some { cls := .type "list", dict := none, data := .seq acc' c', slots := #[] } → ZtPs N S z TO a b xs ys xs.size h' acc' as' → R (.ok (.ret res)) { s with heap := h' }) :
    wpAny (model prog w) A.in1 (Builtin.List.listExtendWith (.ref S) (.ref z) res)
      (fun fin s' => match fin with | .done f => R (.ok f) s' | .again c' => c'.quiet = true ∧ codeAny (model prog w) A c' R s') (fun e s' => R (.error e) s') s := by
  have hTy : s.TypeIs (.ref z) "zip" := ⟨_, hz0, rfl⟩
  unfold Builtin.List.listExtendWith
  refine wpAny_bind (wpAny_typeOf hTy ?_)
  have e1 : Builtin.List.listSameRef (.ref S) (.ref z) = false := by simp [Builtin.List.listSameRef, h1]
  have e2 : (Value.type "zip" == Value.type "list") = false := by decide
  have e3 : (Value.type "zip" == Value.type "tuple") = false := by decide
  simp only [e1, e2, e3, Bool.or_false, Bool.false_eq_true, if_false]
  refine wpAny_bind (wpAny_pyIter_zip hz0 (wpAny_bind (wpAny_holding ?_)))
  unfold Builtin.List.listLengthHint
  refine wpAny_bind (wpAny_specialOf hTy zt_no_len ?_)
  show wpAny _ A.in1 (specialOf (Value.ref z) (Str.ofString "__length_hint__") >>= _) _ _ _
  refine wpAny_bind (wpAny_specialOf hTy zt_no_hint (wpAny_pure ?_))
  show wpAny _ A.in1 (rule "list.extend.makes-room" >>= fun _ => Builtin.List.listTouch (.ref S) >>= fun _ =>
    again (.builtin "list.extend.loop" ⟨[.ref S, .ref z, res], []⟩)) _ _ _
  refine wpAny_bind (wpAny_rule (wpAny_bind ?_))
  show wpAny _ A.in1 (updateSeq S (·.push .none) >>= fun _ => updateSeq S (·.pop)) _ _ _
  refine wpAny_bind (wpAny_updateSeq hS rfl ?_)
  have hS2 := Heap.get?_update_self (Obj.mapSeq (·.push Value.none)) hS rfl
  refine wpAny_updateSeq (hz := by seq_fits) hS2 rfl ?_
  have hS3 := Heap.get?_update_self (Obj.mapSeq (·.pop)) hS2 rfl
  have oth : ∀ d o, d ≠ S → s.heap.get? d = some o → ((s.heap.update S (Obj.mapSeq (·.push Value.none))).update S (Obj.mapSeq (·.pop))).get? d = some o :=
    fun d o hd q => (Heap.get?_update_other _ _ (Ne.symm hd)).trans ((Heap.get?_update_other _ _ (Ne.symm hd)).trans q)
  have eqz : ((s.heap.update S (Obj.mapSeq (·.push Value.none))).update S (Obj.mapSeq (·.pop))).objs.size = s.heap.objs.size := by rw [Heap.size_update, Heap.size_update]
  refine wpAny_pure ⟨plainId_quiet F.plain_extend_loop _, zt_loop hh D hz hxy h1 h2 h3 h4 h5 h6 h7 xs.size 0 _ _ [] _ rfl (Nat.zero_le _) (by show N ≤ Array.size (Heap.objs _); rw [eqz]; exact hN) ?_ (by show TO < Array.size (Heap.objs _); rw [eqz]; exact hO) hS3 ⟨rfl, rfl, List.nodup_nil, fun d hd => (by cases hd), fun j T x y hT => (by simp at hT)⟩ fun h' acc' as' c' kp a1 a2 => hR h' acc' as' c' (fun d o b1 b2 b3 b4 b5 q => kp d o b1 b2 b3 b4 b5 (oth d o b1 q)) a1 a2⟩
  obtain ⟨hI, ha, hb, hl, hm, hzz⟩ := st
  refine ⟨oth _ _ (Ne.symm h2) hI, ha.at fun o q => oth a o (Ne.symm h4) q, hb.at fun o q => oth b o (Ne.symm h5) q, hl.at fun o q => oth l o (Ne.symm h6) q, hm.at fun o q => oth m o (Ne.symm h7) q, ?_⟩
  rcases hzz with ⟨q, x0, y0, q2⟩ | ⟨T, f, oT, q, hT', r1, r2, r3⟩
  · exact .inl ⟨oth _ _ (Ne.symm h1) q, x0, y0, oth _ _ (Ne.symm h3) q2⟩
  · have q' : s.heap.get? z = some { cls := .type "zip", dict := none, data := .fields #[rawInt T, .bool f, .bool false, .ref TI, .ref TO], slots := #[] } := q
    have z' := hz0
    unfold IsZip at z'
    rw [q'] at z'
    simp [rawInt] at z'
theorem call_list_zip {N z TI TO a b l m : Addr} {xs ys : Array Value} {Q : Value → Shared → Prop} (hh : A.handled = none) (D : ZipApart z TI TO a b l m) (hz : xs.size ≤ 1000) (hxy : xs.size = ys.size) (hN : N ≤ s.heap.objs.size) (st : ZtSt z TI TO a b l m xs ys 0 s.heap) (hz0 : IsZip s.heap z TI TO .none) (hO : TO < s.heap.objs.size)
    (hQ : ∀ h' acc as c, (∀ d o, d ≠ z → d ≠ TO → d ≠ a → d ≠ b → s.heap.get? d = some o → h'.get? d = some o) → h'.get? s.heap.objs.size = some { cls := .type "list", dict := none, data := .seq acc c, slots := #[] } → ZtPs N s.heap.objs.size z TO a b xs ys xs.size h' acc as → Q (.ref s.heap.objs.size) { s with heap := h' }) :
    wpAny (model prog w) A (call (.type "list") [.ref z]) Q E s := by
  refine callType_codes (Q₁ := fun obj s₁ => obj = .ref s.heap.objs.size ∧ s₁ = { s with heap := s.heap.push { cls := .type "list", data := .seq #[] } }) F.called_list (F.typeCall_list_1 _) F.entry_list_init
    (code_list_new _ ⟨rfl, rfl⟩) fun obj s1 hob => ?_
  obtain ⟨rfl, rfl⟩ := hob
  have hS : (s.heap.push { cls := .type "list", data := .seq #[] }).get? s.heap.objs.size = some { cls := .type "list", data := .seq #[] } := Heap.get?_push_size _ rfl
  have ks : ∀ d o, s.heap.get? d = some o → (s.heap.push { cls := .type "list", data := .seq #[] }).get? d = some o := fun d o q => Heap.get?_push_of_some _ q
  have sz : ∀ d o, s.heap.get? d = some o → s.heap.objs.size ≠ d := fun d o q => Nat.ne_of_gt (Heap.lt_size q)
  obtain ⟨hI, ha, hb, hl, hm, hzz⟩ := st
  have h1 := sz _ _ hz0
  have h2 := sz _ _ hI
  have h3 : s.heap.objs.size ≠ TO := Nat.ne_of_gt hO
  have h4 : s.heap.objs.size ≠ a := let ⟨_, q, _⟩ := ha; sz _ _ q
  have h5 : s.heap.objs.size ≠ b := let ⟨_, q, _⟩ := hb; sz _ _ q
  have h6 : s.heap.objs.size ≠ l := let ⟨_, q, _⟩ := hl; sz _ _ q
  have h7 : s.heap.objs.size ≠ m := let ⟨_, q, _⟩ := hm; sz _ _ q
  refine ⟨⟨_, hS, rfl⟩, F.args_list_init_2 _ _, ?_⟩
  show wpAny _ A.in1.in1 (do let old ← Builtin.List.listItems (.ref s.heap.objs.size); Builtin.List.listUpdate (.ref s.heap.objs.size) (fun _ => #[]); letGo old.toList.reverse; Builtin.List.listExtendWith (.ref s.heap.objs.size) (.ref z) .none) _ _ _
  refine wpAny_bind ?_
  unfold Builtin.List.listItems
  refine wpAny_bind (wpAny_seqItems hS rfl (wpAny_pure ?_))
  show wpAny _ A.in1.in1 (updateSeq s.heap.objs.size (fun _ => #[]) >>= fun _ => letGo (#[] : Array Value).toList.reverse >>= fun _ => Builtin.List.listExtendWith (.ref s.heap.objs.size) (.ref z) .none) _ _ _
  refine wpAny_bind (wpAny_updateSeq hS rfl ?_)
  have hS2 := Heap.get?_update_self (Obj.mapSeq (fun _ => (#[] : Array Value))) hS rfl
  have oth : ∀ d o, d ≠ s.heap.objs.size → s.heap.get? d = some o → ((s.heap.push { cls := .type "list", data := .seq #[] }).update s.heap.objs.size (Obj.mapSeq (fun _ => (#[] : Array Value)))).get? d = some o :=
    fun d o hd q => (Heap.get?_update_other _ _ (Ne.symm hd)).trans (ks d o q)
  have big : s.heap.objs.size < ((s.heap.push { cls := .type "list", data := .seq #[] }).update s.heap.objs.size (Obj.mapSeq (fun _ => (#[] : Array Value)))).objs.size := Heap.lt_size hS2
  refine wpAny_bind (wpAny_letGo ?_)
  refine zt_extend (A := A.in1) (by first | exact hh | simpa using hh) D hz hxy h1 h2 h3 h4 h5 h6 h7 (Nat.le_trans hN (Nat.le_of_lt big)) ?_ (oth z _ (Ne.symm h1) hz0) (Nat.lt_trans hO big) hS2 fun h' acc as c kp a1 a2 => ?_
  · refine ⟨oth _ _ (Ne.symm h2) hI, ha.at fun o q => oth a o (Ne.symm h4) q, hb.at fun o q => oth b o (Ne.symm h5) q, hl.at fun o q => oth l o (Ne.symm h6) q, hm.at fun o q => oth m o (Ne.symm h7) q, .inl ⟨oth z _ (Ne.symm h1) hz0, ?_⟩⟩
    rcases hzz with ⟨q, x0, y0, q2⟩ | ⟨T, f, oT, q, hT', r1, r2, r3⟩
    · exact ⟨x0, y0, oth _ _ (Ne.symm h3) q2⟩
    · have q' : s.heap.get? z = some { cls := .type "zip", dict := none, data := .fields #[rawInt T, .bool f, .bool false, .ref TI, .ref TO], slots := #[] } := q
      have z' := hz0
      unfold IsZip at z'
      rw [q'] at z'
      simp [rawInt] at z'
  · exact ⟨rfl, hQ h' acc as c (fun d o b1 b2 b3 b4 q => kp d o (Ne.symm (sz d o q)) b1 b2 b3 b4 (oth d o (Ne.symm (sz d o q)) q)) a1 a2⟩
end
end KB
set_option maxRecDepth 1000000
set_option maxHeartbeats 4000000
namespace KB
open PySem PySem.Spec PyProof.Rows L2
/-- list(zip(t, u)), t of ints, both of one length: the new list, its pairs new -/
def tLstZip (K : PySem.W.Frag) (ta : TA) : TE := fun σ H Q => ta σ H fun vs H1 => ∃ (a b : Addr) (ns : List Int) (ys : List V), vs = [.ref a, .ref b] ∧ SqT K H1 a (ns.map V.int) ∧ SqT K H1 b ys ∧ ns.length = ys.length ∧ ns.length ≤ 1000 ∧
  ∀ (l : Addr) (as : List Addr) (H' : Hp), H1 l = none → Same H1 H' → H' l = some (.lst (as.map V.ref)) → Paired (fun (T : Addr) (p : Int × V) => H' T = some (.tup [.int p.1, p.2])) as (ns.zip ys) → Q (.ref l) H'
theorem paired_map {α β γ : Type} {R : α → γ → Prop} {f : β → γ} : ∀ {as : List α} {bs : List β}, Paired R as (bs.map f) → Paired (fun a b => R a (f b)) as bs
  | [], [], _ => .nil
  | [], _ :: _, h => by cases h
  | _ :: _, [], h => by cases h
  | _ :: _, _ :: _, h => by
    cases h with
    | cons a t => exact .cons a (paired_map t)
section
variable {X : Cx}
theorem zt_laid {pins : List (Addr × Obj)} {σ : L2.St} {H : Hp} {s : Shared} {h' : Heap} {ns : List Int} {ys : List V} {its its2 : List Value} {S z TO a b : Addr} {acc : Array Value} {as : List Addr} {c : Nat} (I : Inv X pins σ H s) (r : Vals (ns.map V.int) its) (r2 : Vals ys its2) (hy : ns.length = ys.length) (hl : ns.length ≤ 1000)
    (hk : ∀ b o, s.heap.get? b = some o → h'.get? b = some o) (hS0 : s.heap.objs.size ≤ S) (hS : h'.get? S = some { cls := .type "list", dict := none, data := .seq acc c, slots := #[] }) (hp : ZtPs s.heap.objs.size S z TO a b its.toArray its2.toArray its.toArray.size h' acc as) :
    ∃ (H' : Hp), Same H H' ∧ H S = none ∧ H' S = some (.lst (as.map V.ref)) ∧ Paired (fun (T : Addr) (p : Int × V) => H' T = some (.tup [.int p.1, p.2])) as (ns.zip ys) ∧ Inv X pins σ H' { s with heap := h' } := by
  have rl := r.length
  have rl2 := r2.length
  rw [List.length_map] at rl
  have la : as.length = ns.length := by rw [hp.len, List.size_toArray]; omega
  obtain ⟨kvs, hkvs⟩ : ∃ kvs : List (Key × V), kvs = (ns.zip ys).map fun p => (.inl p.1, p.2) := ⟨_, rfl⟩
  have lz : (ns.zip ys).length = ns.length := by rw [List.length_zip]; omega
  have lk : as.length = kvs.length := by rw [hkvs, List.length_map, lz, la]
  have hSn : S ∉ as := fun q => (hp.off S q).1 rfl
  have new : ∀ d ∈ as, H d = none := fun d hd => I.hok.fresh (hp.off d hd).2.2.2.2.2.1
  have newS : H S = none := I.hok.fresh hS0
  have atP := LiI.putT_at as kvs (upd H S (.lst (as.map V.ref))) lk hp.nd
  have off : ∀ d, d ∉ as → d ≠ S → LiI.putT (upd H S (.lst (as.map V.ref))) as kvs d = H d := fun d h1 h2 => by rw [LiI.putT_off as _ _ h1, upd_ne h2]
  have eS : LiI.putT (upd H S (.lst (as.map V.ref))) as kvs S = some (.lst (as.map V.ref)) := by rw [LiI.putT_off as _ _ hSn, upd_same]
  have kp : ∀ d u, H d = some u → (LiI.putT (upd H S (.lst (as.map V.ref))) as kvs) d = some u := fun d u q => by
    rw [off d (fun e => by rw [new d e] at q; cases q) (fun e => by rw [e, newS] at q; cases q)]
    exact q
  have atP2 : Paired (fun (T : Addr) (p : Int × V) => LiI.putT (upd H S (.lst (as.map V.ref))) as kvs T = some (.tup [.int p.1, p.2])) as (ns.zip ys) := by
    have e := atP
    rw [hkvs] at e
    rw [← hkvs] at e
    have e2 : Paired (fun (T : Addr) (p : Key × V) => LiI.putT (upd H S (.lst (as.map V.ref))) as kvs T = some (.tup [kV p.1, p.2])) as ((ns.zip ys).map fun p => (.inl p.1, p.2)) := by
      rw [← hkvs]
      exact e
    exact paired_map (R := fun (T : Addr) (p : Key × V) => LiI.putT (upd H S (.lst (as.map V.ref))) as kvs T = some (.tup [kV p.1, p.2])) (f := fun p : Int × V => ((.inl p.1, p.2) : Key × V)) e2
  -- what stands at each of the pairs
  have mem : ∀ d ∈ as, ∃ (n : Int) (y : V) (u v : Value), LiI.putT (upd H S (.lst (as.map V.ref))) as kvs d = some (.tup [.int n, y]) ∧ RelV (.int n) u ∧ RelV y v ∧ h'.get? d = some { cls := .type "tuple", data := .seq #[u, v] } := fun d hd => by
    obtain ⟨j, hj⟩ := List.mem_iff_getElem?.mp hd
    have hjl := (List.getElem?_eq_some_iff.mp hj).1
    have hn : ns[j]? = some ns[j] := List.getElem?_eq_getElem (by omega)
    have hy' : ys[j]? = some ys[j] := List.getElem?_eq_getElem (by omega)
    obtain ⟨u, hu, ru⟩ := r.get (i := j) (x := .int ns[j]) (by rw [List.getElem?_map, hn]; rfl)
    obtain ⟨v, hv, rv⟩ := r2.get hy'
    obtain ⟨p, hp2, e⟩ := LiI.paired_get atP2 hj
    have hz : (ns.zip ys)[j]? = some (ns[j], ys[j]) := by
      rw [List.getElem?_zip_eq_some]
      exact ⟨hn, hy'⟩
    rw [hz] at hp2
    cases hp2
    exact ⟨_, _, u, v, e, ru, rv, hp.at' j d u v hj (by rw [List.getElem?_toArray]; exact hu) (by rw [List.getElem?_toArray]; exact hv)⟩
  refine ⟨LiI.putT (upd H S (.lst (as.map V.ref))) as kvs, kp, newS, eS, atP2, ?_⟩
  refine I.call' (ch := []) rfl ⟨fun b o q _ _ _ => hk b o q, fun b o q _ _ _ => ⟨o.slots, hk b o q⟩, fun b o q n _ => ?_, fun b o q _ => ⟨o, hk b o q⟩, fun b xs q => kp b _ q, fun b o u q => kp b _ q, fun b ps q => ⟨#[], by rw [kp b _ q]; simp⟩⟩ (fun b u q => ?_) I.bare fun b z => by simp at z
  · refine (off b (fun z => ?_) (fun z => absurd (Heap.lt_size q) (by rw [z]; exact Nat.not_lt.mpr hS0))).trans n
    exact absurd (Heap.lt_size q) (Nat.not_lt.mpr (hp.off b z).2.2.2.2.2.1)
  · by_cases hb : b ∈ as
    · obtain ⟨n, y, u', v', a1, ru, rv, q2⟩ := mem b hb
      rw [a1] at q
      cases q
      exact ⟨by show 2 ≤ sizeLine; decide, [u', v'], .cons ru (.cons rv .nil), ⟨_, q2, rfl, _, rfl⟩⟩
    · by_cases hb2 : b = S
      · rw [hb2] at q ⊢
        rw [eS] at q
        cases q
        refine ⟨by rw [List.length_map, la, sizeLine_eq]; omega, acc.toList, c, by rw [hp.acc]; exact LiI.vals_refs as, ?_⟩
        rw [Array.toArray_toList]
        exact hS
      · rw [off b hb hb2] at q
        exact (I.hok b u q).stay (fun d v _ y => hk d v y) (fun d y => kp d _ y) fun d xs y => kp d _ y
end
section
variable {X : Cx} {e e2 : Expr} {ta : TA}
theorem pe_listZip {p p2 pos pos2 : Pos} (hc : X.calm = true) (hg : Gl X "list") (hm : X.mg "list" = none) (hg2 : Gl X "zip") (hm2 : X.mg "zip" = none) (ha : PA X [e, e2] ta)
    (hs : starEach [e, e2] X.env = (false, eval e X.env) :: starEach [e2] X.env := by rfl) (hpl : (backTo pos2 (starEach [e2] X.env)).any (·.1) = false := by rfl)
    (nb : starEach [Expr.Call (.Name "zip" p2) [e, e2] [] pos2] X.env = [(false, eval (Expr.Call (.Name "zip" p2) [e, e2] [] pos2) X.env)] := by rfl) :
    PE X (.Call (.Name "list" p) [.Call (.Name "zip" p2) [e, e2] [] pos2] [] pos) (tLstZip X.K ta) := by
  refine ⟨fun pins s σ H Q I h => ?_⟩
  refine Call_ (ld_blt I hg hm boot_list (PyProof.Rows.callWith_type1 (args_cons (Q := fun us s' => wpAny (model X.prog X.w) X.A (call (.type "list") us) (EP X pins σ Q) X.xe s') ?_ nb) nb))
  refine Call_ (ld_blt I hg2 hm2 PyProof.Rows.boot_zip (PyProof.Rows.callWith_type1 (thn (ha.run pos2 pins s σ H _ I h) fun us s1 ⟨vs, H1, I1, r1, a, b, ns, ys, ex, hqx, hqy, hxy, hl, q⟩ => ?_) hs hpl))
  subst ex
  cases r1 with
  | cons r rr =>
    cases rr with
    | cons r' rr =>
      cases rr
      cases r
      cases r'
      obtain ⟨its, rv, p1, _⟩ := I1.tuple hqx
      obtain ⟨its2, rv2, q2, _⟩ := I1.tuple hqy
      have la : a < s1.heap.objs.size := by
        obtain ⟨o, ho, _⟩ := p1
        exact Heap.lt_size ho
      have lb : b < s1.heap.objs.size := by
        obtain ⟨o, ho, _⟩ := q2
        exact Heap.lt_size ho
      have t1 : s1.heap.IsTuple a its.toArray := p1
      have t2 : s1.heap.IsTuple b its2.toArray := q2
      refine RZ.call_zipT t1 t2 fun h2 hz hTI hTO h1 h3 hsz hk => ?_
      refine args_nil ?_
      have rl := rv.length
      have rl2 := rv2.length
      rw [List.length_map] at rl
      refine call_list_zip (N := s1.heap.objs.size) (I1.ok.hd hc) (PySem.W.ktu_apart s1.heap.objs.size a b la lb) (xs := its.toArray) (ys := its2.toArray) (by rw [List.size_toArray]; omega) (by rw [List.size_toArray, List.size_toArray]; omega) (by show s1.heap.objs.size ≤ h2.objs.size; rw [hsz]; exact Nat.le_add_right _ _)
        ⟨hTI, h1, h3, t1.at fun o q => hk _ o q, t2.at fun o q => hk _ o q, .inl ⟨hz, _, _, hTO⟩⟩ hz (by show s1.heap.objs.size + 3 < h2.objs.size; rw [hsz]; exact Nat.add_lt_add_left (by decide) _) fun h' acc as c kp hS hp => ?_
      have hlt : ∀ d o, s1.heap.get? d = some o → h'.get? d = some o := fun d o q => by
        have hd : d < s1.heap.objs.size := Heap.lt_size q
        exact kp d o (Nat.ne_of_lt (Nat.lt_of_lt_of_le hd (Nat.le_add_right _ _))) (Nat.ne_of_lt (Nat.lt_of_lt_of_le hd (Nat.le_add_right _ _))) (Nat.ne_of_lt hd) (Nat.ne_of_lt (Nat.lt_of_lt_of_le hd (Nat.le_add_right _ _))) (hk d o q)
      obtain ⟨H', S, n0, eS, hpr, J⟩ := zt_laid (S := h2.objs.size) I1 rv rv2 hxy hl hlt (by rw [hsz]; exact Nat.le_add_right _ _) hS hp
      exact ⟨.ref h2.objs.size, H', J, rfl, q _ as H' n0 S eS hpr⟩
end
end KB
set_option maxRecDepth 100000
set_option maxHeartbeats 8000000
namespace KB
open PySem PySem.Spec PyProof.Rows L2
section
variable {N : Nat} {G : List (Nat × PyData)} {Hi : Hp} {i k : Nat} {d : PyData} {ds es : List PyData} {σ : L2.St} {H : Hp} {te t : TE} {D : Ends} {R : TS}
/-- a = .. beside a list that grows -/
theorem sq_setST (S : ST Hi G k ds σ H) (M : Mk G te d) (no : noL d = true) (hn : G.all (fun p => p.1 != i) = true) (hik : i ≠ k) (hi : i < σ.length)
    (kk : ∀ (v : V) (H' : Hp), Same H H' → ST Hi ((i, d) :: G) k ds (σ.set i (some v)) H' → R D (σ.set i (some v)) H') : tSeq (tAsg te (gName i)) R D σ H :=
  M σ H (fun v H1 => R D (σ.set i (some v)) H1) S.env fun v H1 S1 d1 => kk v H1 S1 (st_set S S1 d1 no (ne_of hn) hik hi)
/-- found.append(..), told at these slots only -/
theorem st_appS {K : PySem.W.Frag} {Q : VK} (S : ST Hi G i ds σ H) (M : ∀ Q : VK, (∀ (v : V) (H1 : Hp), Same H H1 → Dat H1 v d → Q v H1) → t σ H Q) (hf : noL d = true) (hl : ds.length ≤ 1000)
    (kk : ∀ H' : Hp, ST Hi G i (ds ++ [d]) σ H' → Q .non H') : tBM K "list" rAppend (tVar i) (tCons t tNil) σ H Q := by
  obtain ⟨L, zs, H0, h1, h2, h3, h4, h5, h6, h7⟩ := S
  refine ⟨_, h1, .inl ⟨rfl, _, SqL.of h2⟩, M _ fun v H1 S1 d1 => ?_⟩
  have lz := h6.len
  have hL := S1 _ _ h2
  have T := noR_same h3 (h5.trans S1)
  refine ⟨L, zs, v, rfl, rfl, hL, by rw [lz, sizeLine_eq]; omega, kk _ ⟨L, zs ++ [v], noR L H1, h1, upd_same, if_pos rfl, h4.trans T, noR_to, datAll_append (h6.same T) (.cons (dat_noL hL hf d1) .nil), h7.same T⟩⟩
/-- over range(n), the element told at these slots -/
theorem lc_rangeF {n : Nat} {f : Nat → PyData} {Q : VK} (h : Mk G t (.int (n : Nat))) (E : EnvOk G σ H) (hn : n ≤ 5000)
    (he : ∀ (j : Nat) (H2 : Hp) (Q2 : VK), j < n → Same H H2 → (∀ (v : V) (H' : Hp), Same H2 H' → Dat H' v (f j) → Q2 v H') → te ((σ.set i none).set i (some (.int ((j : Nat) : Int)))) H2 Q2) (hf : ∀ j, j < n → noL (f j) = true)
    (q : ∀ (L : Addr) (zs : List V) (H' : Hp), H L = none → Same H H' → H' L = some (.lst zs) → DatAll H' zs ((List.range n).map f) → Q (.ref L) H') :
    tLc (iRng1 (tCons t tNil)) (gName i) tYes te [i] σ H Q := h σ H _ E fun v H1 S1 d1 => by
  obtain rfl := dat_isInt d1
  refine ⟨((n : Nat) : Int), rfl, by omega, by omega, fun D nD => lc_range (n := n) (fun j Hz => Gr H1 D ((List.range j).map f) Hz) (Gr.start nD) ?_ ?_⟩
  · rintro j Hz hj g
    rw [show ((0 : Int) + (j : Nat)) = ((j : Nat) : Int) from Int.zero_add _]
    refine ⟨wipe_one, ?_⟩
    dsimp only [tYes]
    refine if_t rfl (he j Hz _ hj (S1.trans g.2.1) fun v4 H4 S4 d4 => ?_)
    obtain ⟨xs, hL, hxl, _, g'⟩ := g.add S4 (.cons d4 .nil) (by show noLs [f j] = true; simp [noLs, hf j hj])
    rw [List.length_map, List.length_range] at hxl
    refine ⟨xs, hL, by rw [sizeLine_eq]; omega, ?_⟩
    rw [List.range_succ, List.map_append]
    exact g'
  · rintro Hz g
    obtain ⟨zs, H0, n0, S0, S2, e, d⟩ := gr_out g
    exact q D zs Hz (none_back (S1.trans S0) n0) ((S1.trans S0).trans S2) e (d.same S2)
end
/-! ### cycles -/
def prsOf (r : List Nat) : List (Nat × Nat) := (0 :: r).zip (r ++ [0])
def kvsOf (r : List Nat) : List (Key × V) := (prsOf r).map fun (p : Nat × Nat) => (.inl (p.1 : Int), .int (p.2 : Int))
theorem units1 {k : Nat} {A : Around} (r : Room k A) : A.units + 1 < cLine := by
  have := r.units
  omega
def natV : Option V → Nat
  | some (.int i) => i.toNat
  | _ => 0
def cycR (n : Nat) (r : List Nat) : List Nat := (List.range n).map fun (k : Nat) => natV (valV (mergeK [] (kvsOf r)) (.inl (k : Int)))
theorem cyc_tab : ∀ n, n < 5 → 1 ≤ n → ∀ r ∈ ordersM (List.range' 1 (n - 1)), (∀ k, k < n → valV (mergeK [] (kvsOf r)) (.inl (k : Int)) = some (.int (natV (valV (mergeK [] (kvsOf r)) (.inl (k : Int))) : Nat))) ∧ ∀ i, i < n → i ∈ cycR n r := by decide +kernel
def okCyc (n : Nat) (ds : List PyData) : Prop := ∃ rs : List (List Nat), ds = rs.map rowD ∧ rs.length ≤ 3125 ∧ ∀ r ∈ rs, r.length = n ∧ ∀ i, i < n → i ∈ r
def spCycles : Sp := fun vs H Q _ => ∃ n : Nat, vs = [.int (n : Nat)] ∧ 1 ≤ n ∧ n ≤ 4 ∧ Fresh H Q (okCyc n)
theorem cut_last (xs : List V) : cutV xs none (some (-(1 : Int))) = xs.dropLast := by
  unfold cutV
  show (xs.drop 0).take ((-(1 : Int) + (xs.length : Int)).toNat - 0) = _
  rw [List.drop_zero, Nat.sub_zero, List.dropLast_eq_take]
  congr 1
  omega
theorem cut_tail (xs : List V) : cutV xs (some 1) none = xs.tail := by
  have := cutV_from xs 1
  rw [List.drop_one] at this
  exact this
theorem paired_of {α β : Type} {R : α → β → Prop} : ∀ {as : List α} {bs : List β}, as.length = bs.length → (∀ (j : Nat) (a : α) (b : β), as[j]? = some a → bs[j]? = some b → R a b) → Paired R as bs
  | [], [], _, _ => .nil
  | [], _ :: _, h, _ => by cases h
  | _ :: _, [], h, _ => by cases h
  | a :: as, b :: bs, h, g => .cons (g 0 a b rfl rfl) (paired_of (Nat.succ.inj h) fun j x y h1 h2 => g (j + 1) x y (by simpa using h1) (by simpa using h2))
theorem paired_imp {α β : Type} {R S : α → β → Prop} (h : ∀ a b, R a b → S a b) : ∀ {as : List α} {bs : List β}, Paired R as bs → Paired S as bs
  | _, _, .nil => .nil
  | _, _, .cons a t => .cons (h _ _ a) (paired_imp h t)
theorem paired_mapR {α β γ : Type} {R : α → γ → Prop} {f : β → γ} : ∀ {as : List α} {bs : List β}, Paired (fun a b => R a (f b)) as bs → Paired R as (bs.map f)
  | _, _, .nil => .nil
  | _, _, .cons a t => .cons a (paired_mapR t)
theorem cb_1 {r : List V → Hp → VK → Prop} {t : TE} {σ : L2.St} {H : Hp} {Q : VK} (h : t σ H fun v H1 => r [v] H1 Q) : tCB r (tCons t tNil) σ H Q := h
theorem tst_dget {td ty : TE} {σ : L2.St} {H : Hp} {Q : VK} (h : td σ H fun x H1 => ty σ H1 fun y H2 => ∃ a v, x = .ref a ∧ DGet H2 a y (some v) ∧ Q v H2) : tDGet td ty σ H Q := h
abbrev s_cycles : Stmt := top 31
section
variable {P : Program} {w : World} {K : PySem.W.Frag} {mg : Str → Option Value} {base : Heap}
abbrev NC : List Str := ["_law_n", "_law_found", "_law_row", "_law_seats", "_law_after", "_law_k"]
theorem sc_cycles : FnScope NC ["_law_n"] (defScope s_cycles) := ⟨rfl, rfl, rfl, by decide +kernel, rfl, by decide +kernel, by decide +kernel⟩
theorem okl_cycles {f fO : Addr} {fd fdO : FuncData} (F : Fun K "_law_cycles" "_law_cycles" s_cycles f fd) (T : Nm mg) (D_orders : DefOk K mg "_law_orders" s_orders ["_law_items"] fO fdO) : FnOk P w K mg base CX0 2 f fd ["_law_n"] spCycles := by
  have G_orders : FnOk P w K mg base CX0 1 fO fdO ["_law_items"] spOrders := okl_orders D_orders.F T
  refine F.ok sc_cycles (fun vs H Q E h => ?_) (fun cdv A outer s H vs Q E hr h => ?_)
  · obtain ⟨n, rfl, _⟩ := h
    rfl
  · obtain ⟨n, rfl, hn1, hn4, q⟩ := h
    have hu1 := units1 hr
    refine ⟨_, (pss_cons (ps_set (i := 1) sc_cycles.nd rfl (Or.inl rfl) (pe_lst pa_nil))
      (pss_cons (ps_for PassesOwn.never rfl (pi_list (pe_call G_orders hr rfl D_orders.g D_orders.F.kp D_orders.b .nil pass0 (pa_cons (pe_listRg rfl (by rfl) T.list (prg_2 (by rfl) T.range pe_int (pv 0))) pa_nil))) (pg_name (i := 2) sc_cycles.nd rfl (Or.inl rfl))
        (pss_cons (ps_set (i := 3) sc_cycles.nd rfl (Or.inl rfl) (pe_op op_catF (pe_op op_catF (pe_tupF (pa_cons pe_int pa_nil)) (pv 2)) (pe_tupF (pa_cons pe_int pa_nil))))
        (pss_cons (ps_set (i := 4) sc_cycles.nd rfl (Or.inr rfl) (pe_callTy (call_dictP rfl) (by rfl) T.dict (by decide +kernel) (pa_cons (pe_listZip rfl (by rfl) T.list (by rfl) T.zip (pa_cons (pe_slice sl_tupF (pv 3) po_none (po_some (pe_un un_neg pe_int))) (pa_cons (pe_slice sl_tupF (pv 3) (po_some pe_int) po_none) pa_nil))) pa_nil)))
        (pss_one (ps_expr (pe_bm PySem.F.plainAttrs_list PySem.F.slot_list_append PySem.F.type_list_append mt_append (pv 1) (pa_cons (pe_callTy call_tupF (by rfl) T.tuple (by decide +kernel) (pa_cons (pe_lc (own := [("_law_k", 5)]) (g := (gName 5)) (tt := tYes) (te := tDGet (tVar 4) (tVar 5)) rfl sc_cycles.nd (pi_range1 rfl T.range (pa_cons (pv 0) pa_nil)) (blkOk_by (N := NC) (sc := defScope s_cycles) (by decide +kernel))
          (fun _ _ _ _ _ => (pg_name (i := 5) sc_cycles.nd rfl (Or.inl rfl))) (fun _ _ _ _ _ => pts_nil) (fun _ _ _ _ _ => (pe_dget hu1 (pv 4) (pv 5) (fun _ _ => rfl)))) pa_nil)) pa_nil)))))))
      (pss_one (ps_ret (pv 1))))), ?_⟩
    have E0 : EnvOk [(0, PyData.int (n : Nat))] [some (V.int (n : Nat)), none, none, none, none, none] H := fun p hp => by
      obtain rfl := List.mem_singleton.mp hp
      exact ⟨_, rfl, .int _⟩
    have hlen : (List.range' 1 (n - 1)).length = n - 1 := List.length_range'
    have lo := orders_len (n - 1) (List.range' 1 (n - 1)) hlen (by omega)
    have lo5 : 5 ^ (n - 1) ≤ 5 ^ 3 := Nat.pow_le_pow_right (by decide) (by omega)
    refine sq_new E0 (Same.refl H) mks_nil (by decide) (ne_of rfl) (by show 1 < 6; decide) fun p0 H0 S0 => ?_
    refine sq_of (for_lstX (N := 6) (k := 1) (g := rowD) (ok := fun rs => rs = ordersM (List.range' 1 (n - 1))) S0 rfl (fun Q k => ?_) (fun rs _ r _ => rowD_noL r) rfl (by decide) (by decide)
      (fun rs j acc => ∃ rows : List (List Nat), acc = rows.map rowD ∧ rows.length = j ∧ ∀ r ∈ rows, r.length = n ∧ ∀ i, i < n → i ∈ r) (fun rs _ => ⟨[], rfl, rfl, fun r h => by cases h⟩) ?_ ?_)
    · refine one_argX (mk_lstRg2 (n := n) (mk_var (i := 0) (by simp)) hn1 (by omega) _ H0 _ S0.env fun v3 H3 S3 d3 => ?_)
      exact ⟨v3, List.range' 1 (n - 1), rfl, d3, by rw [hlen]; omega, fun L zs ds H4 n4 S4 e4 d4 h4 => k _ L zs H4 rfl (none_back S3 n4) (S3.trans S4) e4 (by rw [← h4]; exact d4)⟩
    · rintro rs j r Hb acc σ' H' D' rfl hrj ⟨rows, rfl, hrl, hrp⟩ hN' S' k'
      have hrm := List.mem_of_getElem? hrj
      have hjl := (List.getElem?_eq_some_iff.mp hrj).1
      obtain ⟨t1, t2⟩ := cyc_tab n (by omega) hn1 r hrm
      have rl := orders_row (n - 1) _ hlen r hrm
      have M2 : Mk ((2, rowD r) :: [(0, PyData.int (n : Nat))]) (tVar 2) (.tuple (intsD r)) := mk_var List.mem_cons_self
      have il : (intsD r).length = r.length := List.length_map ..
      refine sq_setST (d := rowD (0 :: (r ++ [0]))) S' ?_ (rowD_noL _) rfl (by decide) (by rw [hN']; decide) fun v3 H3 S3 S4 => ?_
      · rw [show rowD (0 :: (r ++ [0])) = .tuple (([.int 0] ++ intsD r) ++ [.int 0]) by unfold rowD intsD; rw [List.map_cons, List.map_append]; rfl]
        exact mk_catA (mk_catA (mk_tup (mks_cons mk_int mks_nil) (by show 1 ≤ 1000; decide)) M2 (by rw [il]; show 1 + _ ≤ _; omega)) (mk_tup (mks_cons mk_int mks_nil) (by show 1 ≤ 1000; decide)) (by rw [List.length_append, il]; show 1 + _ + 1 ≤ _; omega)
      · obtain ⟨u3, hu3, du3⟩ := S4.env (3, rowD (0 :: (r ++ [0]))) List.mem_cons_self
        obtain ⟨a3, xs3, rfl, ha3, hx3⟩ := dat_tup du3
        obtain rfl := dat_intsV (r := 0 :: (r ++ [0])) hx3
        have hv3 : v3 = .ref a3 := by
          have z : (σ'.set 3 (some v3))[3]? = some (some (.ref a3)) := hu3
          rw [List.getElem?_set_self (by rw [hN']; decide)] at z
          exact Option.some.inj (Option.some.inj z)
        subst hv3
        -- after
        refine sq_anyX ?_
        refine slf_to ⟨_, hu3, ⟨1, rfl, _, rfl, slAny_of ha3 fun b1 H4 S5 hb1 => ?_⟩⟩
        refine slf_from ⟨_, hu3, ⟨_, rfl, slAny_of (upR ha3 S5) fun b2 H5 S6 hb2 => ?_⟩⟩
        rw [cut_last] at hb1
        rw [cut_tail] at hb2
        have e1 : ((0 :: (r ++ [0])).map fun (x : Nat) => V.int (x : Int)).dropLast = ((0 :: r).map fun (x : Nat) => (x : Int)).map V.int := by
          have z : ((0 :: (r ++ [0])).map fun (x : Nat) => V.int (x : Int)) = ((0 :: r).map fun (x : Nat) => V.int (x : Int)) ++ [V.int ((0 : Nat) : Int)] := by simp
          rw [z, List.dropLast_concat, List.map_map]
          rfl
        have e2 : ((0 :: (r ++ [0])).map fun (x : Nat) => V.int (x : Int)).tail = (r ++ [0]).map fun (x : Nat) => V.int (x : Int) := rfl
        rw [e1] at hb1
        rw [e2] at hb2
        refine ⟨b1, b2, _, _, rfl, sqT_rd (upR hb1 S6), sqT_rd hb2, by simp, by rw [List.length_map, List.length_cons, rl]; omega, fun l as H6 n6 S7 e6 hpr => ?_⟩
        refine ⟨l, as, kvsOf r, rfl, SqL.of e6, ?_, fun p np => ?_⟩
        · have ez : ((0 :: r).map fun (x : Nat) => (x : Int)).zip ((r ++ [0]).map fun (x : Nat) => V.int (x : Int)) = (prsOf r).map fun (p : Nat × Nat) => ((p.1 : Int), V.int (p.2 : Int)) := by
            unfold prsOf
            rw [List.zip_map]
            rfl
          rw [ez] at hpr
          unfold kvsOf
          refine paired_mapR (paired_imp ?_ (paired_map (R := fun (T : Addr) (p : Int × V) => H6 T = some (.tup [.int p.1, p.2])) (f := fun p : Nat × Nat => ((p.1 : Int), V.int (p.2 : Int))) hpr))
          intro T p e
          exact SqT.of e
        · have S8 := same_new (o := HO.dK (mergeK [] (kvsOf r))) np
          have S38 := ((S5.trans S6).trans S7).trans S8
          have hp : upd H6 p (.dK (mergeK [] (kvsOf r))) p = some (.dK (mergeK [] (kvsOf r))) := upd_same
          generalize upd H6 p (.dK (mergeK [] (kvsOf r))) = H7 at S8 S38 hp ⊢
          have S9 : ST Hb ((3, rowD (0 :: (r ++ [0]))) :: (2, rowD r) :: [(0, PyData.int (n : Nat))]) 1 (rows.map rowD) ((σ'.set 3 (some (V.ref a3))).set 4 (some (.ref p))) H7 := (S4.next S38).skip rfl (by decide)
          have N9 : ((σ'.set 3 (some (V.ref a3))).set 4 (some (V.ref p))).length = 6 := by rw [List.length_set, List.length_set, hN']
          refine st_appS (K := K) (Q := fun _ H1 => D'.nx _ H1) (d := rowD (cycR n r)) S9 (fun Q kq => ?_) (rowD_noL _) (by rw [List.length_map]; omega) fun H8 S10 => k' _ _ H8 ⟨rows ++ [cycR n r], by rw [List.map_append]; rfl, by rw [List.length_append, hrl]; rfl, fun y hy => ?_⟩ N9 (S10.weak fun p hp => List.mem_cons_of_mem _ hp)
          · refine cb_1 (lc_rangeF (n := n) (G := (3, rowD (0 :: (r ++ [0]))) :: (2, rowD r) :: [(0, PyData.int (n : Nat))]) (f := fun k => PyData.int ((natV (valV (mergeK [] (kvsOf r)) (.inl ((k : Nat) : Int))) : Nat) : Int)) (mk_var (i := 0) (by simp)) S9.env (by omega) (fun j2 H8 Q2 hj2 S10 kq2 => ?_) (fun _ _ => rfl) fun L zs H8 n8 S10 e8 d8 => ?_)
            · refine tst_dget ⟨_, ?_, ⟨_, ?_, p, _, rfl, .inl ⟨_, .inl ((j2 : Nat) : Int), .inl (S10 _ _ hp), rfl, (t1 j2 hj2).symm⟩, kq2 _ H8 (Same.refl _) (.int _)⟩⟩
              · rw [List.getElem?_set_ne (by decide), List.getElem?_set_ne (by decide), List.getElem?_set_self (by rw [List.length_set, hN']; decide)]
              · rw [List.getElem?_set_self (by rw [List.length_set, N9]; decide)]
                rfl
            · refine ⟨L, zs, rfl, SqL.of e8, fun l2 o2 n2 no2 => ?_⟩
              refine kq _ _ (S10.trans (same_new n2)) (.tup (TP.fz upd_same no2) ?_)
              have e : (cycR n r).map (fun (i : Nat) => PyData.int (i : Int)) = (List.range n).map fun k => PyData.int ((natV (valV (mergeK [] (kvsOf r)) (.inl ((k : Nat) : Int))) : Nat) : Int) := by
                unfold cycR
                rw [List.map_map]
                rfl
              rw [e]
              exact d8.same (same_new n2)
          · rcases List.mem_append.mp hy with h | h
            · exact hrp y h
            · rw [List.mem_singleton.mp h]
              exact ⟨by unfold cycR; rw [List.length_map, List.length_range], t2⟩
    · rintro rs acc σ' H' rfl ⟨rows, rfl, hrl, hrp⟩ hN' S'
      refine rt_st S' fun L zs n0 S e d => q L zs _ H' n0 S e d ⟨rows, rfl, by omega, hrp⟩
end
end KB
set_option maxRecDepth 100000
set_option maxHeartbeats 8000000
/-! a dict's update by another one -/
namespace L2
open PySem PySem.Spec PyProof.Rows
section
variable {X : Cx}
def rUpd : V → List V → Hp → VK → Prop := fun x vs H Q => ∃ (a b : Addr) (kvs more : List (Key × V)), x = .ref a ∧ vs = [.ref b] ∧ a ≠ b ∧ H a = some (.dK kvs) ∧ H b = some (.dK more) ∧ kvs.length + more.length ≤ sizeLine ∧ Q .non (upd H a (.dK (mergeK kvs more)))
theorem mt_update : MtR X "dict.update" rUpd := by
  intro pins s σ H x vs v us Q I rx rv h
  obtain ⟨a, b, kvs, more, rfl, rfl, hab, ha, hb, hz, q⟩ := h
  cases rx
  obtain ⟨u, rfl, ru⟩ := Vals.one rv
  cases ru
  obtain ⟨_, hd, vs, rel, dd⟩ := dk_of I.hok ha
  obtain ⟨_, hd2, vs2, rel2, dd2⟩ := dk_of I.hok hb
  refine call_meetsIn PySem.F.slot_dict_update dd.typeIs PySem.F.entry_dict_update (PySem.F.args_dict_update_2 _ _) (meets_dict_update (mixKind X.prog X.w) a b hab hd2) ⟨vs, vs2, dd, dd2, by rw [← rel.length, ← rel2.length]; exact hz, fun h' dd' _ hs => ?_⟩
  have he : ∃ q, h'.get? a = some q := let ⟨q, _, _, hq, _⟩ := dd'; ⟨q, hq⟩
  exact ⟨.non, _, d_write (t' := s.toks) I (by rw [ha]; exact True.intro) hs he (dk_new (Nat.le_trans (length_mergeK more kvs) hz) hd (rel2.merge rel) dd'), rfl, q⟩
end
end L2
namespace KB
open PySem PySem.Spec PyProof.Rows L2
section
variable {N : Nat} {G : List (Nat × PyData)} {i : Nat} {σ : L2.St} {H : Hp} {t : TE}
/-- those below n that pass a test, the test told at these slots -/
theorem lc_rangeP {n : Nat} {p : Nat → Bool} {tt : TT} {Q : VK} (h : Mk G t (.int (n : Nat))) (E : EnvOk G σ H) (hn : n ≤ 5000) (hi : i < σ.length)
    (ht : ∀ (j : Nat) (H2 : Hp) (Q2 : Bool → Hp → Prop), j < n → Same H H2 → Q2 (p j) H2 → tt ((σ.set i none).set i (some (.int ((j : Nat) : Int)))) H2 Q2)
    (q : ∀ (L : Addr) (H' : Hp), H L = none → Same H H' → H' L = some (.lst (((List.range n).filter p).map fun (x : Nat) => V.int (x : Int))) → Q (.ref L) H') :
    tLc (iRng1 (tCons t tNil)) (gName i) tt (tVar i) [i] σ H Q := h σ H _ E fun v H1 S1 d1 => by
  obtain rfl := dat_isInt d1
  refine ⟨((n : Nat) : Int), rfl, by omega, by omega, fun D nD => lc_range (n := n) (fun j Hz => Gr H1 D (intsD ((List.range j).filter p)) Hz) (Gr.start nD) ?_ ?_⟩
  · rintro j Hz hj g
    rw [show ((0 : Int) + (j : Nat)) = ((j : Nat) : Int) from Int.zero_add _]
    refine ⟨wipe_one, ht j Hz _ hj (S1.trans g.2.1) ?_⟩
    have es : intsD ((List.range (j + 1)).filter p) = intsD ((List.range j).filter p) ++ (if p j = true then [.int ((j : Nat) : Int)] else []) := filter_succ (f := fun (x : Nat) => PyData.int (x : Int)) (p := p) j
    rw [es]
    by_cases hp : p j = true
    · rw [if_pos hp, if_pos hp]
      refine ⟨_, List.getElem?_set_self (by show i < (List.set σ i none).length; rw [List.length_set]; exact hi), ?_⟩
      obtain ⟨zs, hL, hzl, _, g'⟩ := g.add (Same.refl _) (.cons (.int ((j : Nat) : Int)) .nil) rfl
      have hfl := List.length_filter_le p (List.range j)
      unfold intsD at hzl
      rw [List.length_map] at hzl
      rw [List.length_range] at hfl
      exact ⟨zs, hL, by rw [sizeLine_eq]; omega, g'⟩
    · rw [if_neg hp, if_neg hp, List.append_nil]
      exact g
  · rintro Hz g
    obtain ⟨zs, H0, n0, S0, S2, e, d⟩ := gr_out g
    rw [dat_intsV d] at e
    exact q D Hz (none_back (S1.trans S0) n0) ((S1.trans S0).trans S2) e
end
/-! ### matchings -/
abbrev Kvs := List (Key × V)
def leftM (m : Nat) (kvs : Kvs) : List Nat := (List.range (2 * m)).filter fun (k : Nat) => !(valV kvs (.inl (k : Int))).isSome
def moreM (kvs : Kvs) (a o : Nat) : Kvs := mergeK kvs (mergeK [] [(.inl (a : Int), .int (o : Int)), (.inl (o : Int), .int (a : Int))])
def stepM (m : Nat) (kvs : Kvs) : List Kvs := (leftM m kvs).tail.map fun o => moreM kvs ((leftM m kvs).headD 0) o
def matchM (m : Nat) : Nat → List Kvs
  | 0 => [[]]
  | j + 1 => (matchM m j).flatMap (stepM m)
def matR (m : Nat) (kvs : Kvs) : List Nat := (List.range (2 * m)).map fun (k : Nat) => natV (valV kvs (.inl (k : Int)))
theorem mat_tab : ∀ m, m < 4 → (∀ j, j < m + 1 → (matchM m j).length ≤ 100 ∧ ∀ kvs ∈ matchM m j, kvs.length ≤ 100) ∧ ∀ kvs ∈ matchM m m, ∀ k, k < 2 * m → valV kvs (.inl (k : Int)) = some (.int (natV (valV kvs (.inl (k : Int))) : Nat)) := by decide +kernel
theorem mat_low : ∀ m, m < 4 → ∀ kvs ∈ matchM m m, ∀ x ∈ matR m kvs, x < 1000 := by decide +kernel
/-- dicts at these addresses -/
abbrev DsAt (H : Hp) (as : List Addr) (ls : List Kvs) : Prop := Paired (fun (a : Addr) (l : Kvs) => H a = some (.dK l)) as ls
theorem paired_app {α β : Type} {R : α → β → Prop} : ∀ {as as' : List α} {bs bs' : List β}, Paired R as bs → Paired R as' bs' → Paired R (as ++ as') (bs ++ bs')
  | _, _, _, _, .nil, t => t
  | _, _, _, _, .cons a t, u => .cons a (paired_app t u)
theorem paired_lenX {α β : Type} {R : α → β → Prop} : ∀ {as : List α} {bs : List β}, Paired R as bs → as.length = bs.length
  | _, _, .nil => rfl
  | _, _, .cons _ t => congrArg (· + 1) (paired_lenX t)
theorem paired_at {α β : Type} {R : α → β → Prop} {as : List α} {bs : List β} (h : Paired R as bs) {j : Nat} {a : α} (e : as[j]? = some a) : ∃ b, bs[j]? = some b ∧ R a b := LiI.paired_get h e
theorem dsAt_to {H H' : Hp} {as : List Addr} {ls : List Kvs} (h : DsAt H as ls) (S : ∀ b l, H b = some (.dK l) → H' b = some (.dK l)) : DsAt H' as ls := paired_imp (fun a l e => S a l e) h
def okMat (m : Nat) (ds : List PyData) : Prop := ∃ rs : List (List Nat), ds = rs.map rowD ∧ rs.length ≤ 3125 ∧ ∀ r ∈ rs, r.length = 2 * m ∧ ∀ x ∈ r, x < 1000
def spMat : Sp := fun vs H Q _ => ∃ m : Nat, vs = [.int (m : Nat)] ∧ m ≤ 3 ∧ Fresh H Q (okMat m)
abbrev scM : Scope := { kind := .function, names := [(".0", .local), ("_law_known", .cell), ("tuple", .globalImplicit), ("range", .globalImplicit), ("_law_m", .cell)], isGenerator := false, isCoroutine := false, more := [] }
abbrev s_matchings : Stmt := top 32
section
variable {P : Program} {w : World} {K : PySem.W.Frag} {mg : Str → Option Value} {base : Heap}
abbrev NT : List Str := ["_law_m", "_law_found", "_law_turn", "_law_longer", "_law_known", "_law_left", "_law_other", "_law_more", "_law_k"]
theorem sc_matchings : FnScope NT ["_law_m"] (defScope s_matchings) := ⟨rfl, rfl, rfl, by decide +kernel, rfl, by decide +kernel, by decide +kernel⟩
/-- the slots that stay, and the list of dicts -/
structure MtI (m : Nat) (Hi : Hp) (ls : List Kvs) (σ : L2.St) (H : Hp) : Prop where
  N : σ.length = 9
  m0 : σ[0]? = some (some (.int (m : Nat)))
  S : Same Hi H
  f : ∃ (L : Addr) (as : List Addr), σ[1]? = some (some (.ref L)) ∧ H L = some (.lst (as.map V.ref)) ∧ DsAt H as ls
theorem okl_matchings {f : Addr} {fd : FuncData} (F : Fun K "_law_matchings" "_law_matchings" s_matchings f fd) (T : Nm mg) : FnOk P w K mg base CX0 1 f fd ["_law_m"] spMat := by
  refine F.ok sc_matchings (fun vs H Q E h => ?_) (fun cdv A outer s H vs Q E hr h => ?_)
  · obtain ⟨n, rfl, _⟩ := h
    rfl
  · obtain ⟨m, rfl, hm3, q⟩ := h
    have hu1 := units1 hr
    refine ⟨_, (pss_cons (ps_set (i := 1) sc_matchings.nd rfl (Or.inl rfl) (pe_lst (pa_cons pe_dnewK pa_nil)))
      (pss_cons (ps_for PassesOwn.never rfl (pi_range1 rfl T.range (pa_cons (pv 0) pa_nil)) (pg_name (i := 2) sc_matchings.nd rfl (Or.inl rfl))
        (pss_cons (ps_set (i := 3) sc_matchings.nd rfl (Or.inl rfl) (pe_lst pa_nil))
        (pss_cons (ps_for PassesOwn.never rfl (pi_list (pv 1)) (pg_name (i := 4) sc_matchings.nd rfl (Or.inr rfl))
          (pss_cons (ps_setLc (i := 5) (own := [("_law_k", 8)]) (g := (gName 8)) (tt := tB (tDNotIn (tVar 8) (tVar 4))) (te := tVar 8) rfl sc_matchings.nd rfl rfl (sw_true rfl rfl rfl (by decide +kernel)) (pi_range1 rfl T.range (pa_cons (pe_op op_mul pe_int (pv 0)) pa_nil)) (blkOk_by (N := NT) (sc := defScope s_matchings) (by decide +kernel))
          (fun _ _ _ _ _ => (pg_name (i := 8) sc_matchings.nd rfl (Or.inl rfl))) (fun _ _ _ _ _ => pts_one (pt_cmp (pc_dnotin hu1 (pv 8) (pv 4)))) (fun _ _ _ _ _ => (pv 8)))
          (pss_one (ps_for PassesOwn.never rfl (pi_list (pe_slice sl_list (pv 5) (po_some pe_int) po_none)) (pg_name (i := 6) sc_matchings.nd rfl (Or.inl rfl))
            (pss_cons (ps_set (i := 7) sc_matchings.nd rfl (Or.inl rfl) (pe_callTy call_dictD (by rfl) T.dict (by decide +kernel) (pa_cons (pv 4) pa_nil)))
            (pss_cons (ps_expr (pe_bm PySem.F.plainAttrs_dict PySem.F.slot_dict_update PySem.F.type_dict_update mt_update (pv 7) (pa_cons (pe_disp (pps_cons (pe_ix ix_list (pv 5) pe_int (fun _ _ => rfl)) (pv 6) (pps_cons (pv 6) (pe_ix ix_list (pv 5) pe_int (fun _ _ => rfl)) pps_nil)) rfl rfl (by decide) (by decide)) pa_nil)))
            (pss_one (ps_expr (pe_bm PySem.F.plainAttrs_list PySem.F.slot_list_append PySem.F.type_list_append mt_append (pv 3) (pa_cons (pv 7) pa_nil))))))))))
        (pss_one (ps_set (i := 1) sc_matchings.nd rfl (Or.inl rfl) (pv 3))))))
      (pss_one (ps_ret (pe_lc (own := [("_law_known", 4)]) (g := (gName 4)) (tt := tYes) (te := tCB (rTupF K) (tCons (tLc (iRng1 (tCons (tOp (rI CMul fun i j => .int (i * j)) (tC (.int 2)) (tVar 0)) tNil)) (gName 8) tYes (tDGet (tVar 4) (tVar 8)) [8]) tNil)) rfl sc_matchings.nd (pi_list (pv 1)) (blkOk_by (N := NT) (sc := defScope s_matchings) (by decide +kernel))
          (fun _ _ _ _ _ => (pg_name (i := 4) sc_matchings.nd rfl (Or.inr rfl))) (fun _ _ _ _ _ => pts_nil) (fun _ _ _ _ _ => (pe_callTy call_tupF (by rfl) T.tuple (by decide +kernel) (pa_cons (pe_lc (own := [("_law_k", 8)]) (g := (gName 8)) (tt := tYes) (te := tDGet (tVar 4) (tVar 8)) rfl sc_matchings.nd (pi_range1 rfl T.range (pa_cons (pe_op op_mul pe_int (pv 0)) pa_nil)) (blkOk_by (N := NT) (sc := scM) (by decide +kernel))
          (fun _ _ _ _ _ => (pg_name (i := 8) sc_matchings.nd rfl (Or.inl rfl))) (fun _ _ _ _ _ => pts_nil) (fun _ _ _ _ _ => (pe_dget hu1 (pv 4) (pv 8) (fun _ _ => rfl)))) pa_nil)))))))), ?_⟩
    obtain ⟨tA, tB⟩ := mat_tab m (by omega)
    have M2m : ∀ {G : List (Nat × PyData)}, (0, PyData.int (m : Nat)) ∈ G → Mk G (tOp (rI CMul fun i j => .int (i * j)) (tC (.int 2)) (tVar 0)) (.int ((2 * m : Nat) : Int)) := fun h => mk_op mk_int (mk_var h) (.inl ⟨by decide, by decide⟩) (congrArg V.int (by omega))
    refine sq_anyX fun p0 n0 => ⟨(by show 1 ≤ sizeLine; decide), fun l nl => ?_⟩
    have hpl : p0 ≠ l := fun e => by rw [e, upd_same] at nl; cases nl
    have S0 := (same_new (o := HO.dK []) n0).trans (same_new (o := HO.lst [.ref p0]) nl)
    have e0 : upd (upd H p0 (.dK [])) l (.lst [.ref p0]) p0 = some (.dK []) := by rw [upd_ne hpl, upd_same]
    have el : upd (upd H p0 (.dK [])) l (.lst [.ref p0]) l = some (.lst ([p0].map V.ref)) := upd_same
    generalize upd (upd H p0 (.dK [])) l (.lst [.ref p0]) = H1 at S0 e0 el ⊢
    refine sq_of ⟨_, rfl, ((m : Nat) : Int), rfl, by omega, by omega, for_range (n := m) (fun j σ' Hx => MtI m H (matchM m j) σ' Hx) ⟨rfl, rfl, S0, l, [p0], rfl, el, .cons e0 .nil⟩ ?_ ?_⟩
    · rintro j σ' Hx hj I
      obtain ⟨L, as, h1, hL, hD⟩ := I.f
      have IN := I.N
      refine sq_anyX ⟨(by show 0 ≤ sizeLine; decide), fun g ng => ?_⟩
      have S3 := same_new (o := HO.lst []) ng
      have eg : upd Hx g (.lst []) g = some (.lst (([] : List Addr).map V.ref)) := upd_same
      generalize upd Hx g (.lst []) = H3 at S3 eg ⊢
      refine sq_of ⟨_, (show (((σ'.set 2 (some (.int (0 + (j : Nat))))).set 3 (some (.ref g))))[1]? = some (some (.ref L)) by rw [List.getElem?_set_ne (by decide), List.getElem?_set_ne (by decide)]; exact h1), L, rfl, ⟨_, SqL.of (S3 _ _ hL)⟩, for_list (K := K) (xs := as.map V.ref) (fun i σ Hy => σ.length = 9 ∧ σ[0]? = some (some (.int (m : Nat))) ∧ σ[3]? = some (some (.ref g)) ∧ Same Hx Hy ∧ ∃ as2 : List Addr, Hy g = some (.lst (as2.map V.ref)) ∧ DsAt Hy as2 (((matchM m j).take i).flatMap (stepM m))) ⟨by rw [List.length_set, List.length_set, IN], by rw [List.getElem?_set_ne (by decide), List.getElem?_set_ne (by decide)]; exact I.m0, by rw [List.getElem?_set_self (by rw [List.length_set, IN]; decide)], S3, [], eg, .nil⟩ (fun i σ Hy _ h => SqL.of (h.2.2.2.1 _ _ hL)) ?_ ?_⟩
      · rintro i y σ Hy hy ⟨N1, z0, z3, SH, as2, hg, hD2⟩
        rw [List.getElem?_map] at hy
        obtain ⟨a, haI, rfl⟩ := Option.map_eq_some_iff.mp hy
        obtain ⟨kvs, hk, ha⟩ := paired_at hD haI
        have ha1 := SH _ _ ha
        have lk := (tA j (by omega)).2 kvs (List.mem_of_getElem? hk)
        have la2 : as2.length ≤ 100 := by
          rw [paired_lenX hD2]
          have e1 : ((matchM m j).take i).flatMap (stepM m) = ((matchM m j).take i).flatMap (stepM m) := rfl
          have e2 := flat_le (f := stepM m) (matchM m j) i
          have e3 := (tA (j + 1) (by omega)).1
          rw [matchM] at e3
          omega
        -- left
        have E4 : EnvOk [(0, PyData.int (m : Nat))] (σ.set 4 (some (.ref a))) Hy := fun p hp => by
          obtain rfl := List.mem_singleton.mp hp
          exact ⟨_, by rw [List.getElem?_set_ne (by show 4 ≠ 0; decide)]; exact z0, .int _⟩
        have N4 : (σ.set 4 (some (V.ref a))).length = 9 := by rw [List.length_set, N1]
        refine sq_anyX (lc_rangeP (n := 2 * m) (p := fun (k : Nat) => !(valV kvs (.inl (k : Int))).isSome) (M2m List.mem_cons_self) E4 (by omega) (by rw [N4]; decide) (fun k H2 Q2 _ S2 hQ => ?_) fun Ll H4 nLl S4 eLl => ?_)
        · refine ⟨_, by rw [List.getElem?_set_self (by rw [List.length_set, N4]; decide)] <;> rfl, ⟨_, by rw [List.getElem?_set_ne (by decide), List.getElem?_set_ne (by decide), List.getElem?_set_self (by rw [N1]; decide)], a, _, rfl, .inl ⟨kvs, .inl ((k : Nat) : Int), .inl (S2 _ _ ha1), rfl, rfl⟩, _, rfl, hQ⟩⟩
        · -- the loop over left[1:]
          obtain ⟨left, hleft⟩ : ∃ left, left = leftM m kvs := ⟨_, rfl⟩
          have eLl : H4 Ll = some (.lst (left.map fun (x : Nat) => V.int (x : Int))) := by rw [hleft]; exact eLl
          have hll : left.length ≤ 2 * m := by
            rw [hleft]
            have := List.length_filter_le (fun (k : Nat) => !(valV kvs (.inl (k : Int))).isSome) (List.range (2 * m))
            rw [List.length_range] at this
            exact this
          refine ⟨_, by rw [List.getElem?_set_self (by rw [N4]; decide)], 1, rfl, Ll, _, rfl, SqL.of eLl, fun lt nlt => ?_⟩
          rw [cut_tail]
          have S5 := same_new (o := HO.lst ((left.map fun (x : Nat) => V.int (x : Int)).tail)) nlt
          have elt : upd H4 lt (.lst ((left.map fun (x : Nat) => V.int (x : Int)).tail)) lt = some (.lst (left.tail.map fun (x : Nat) => V.int (x : Int))) := by rw [upd_same, List.map_tail]
          generalize upd H4 lt (.lst ((left.map fun (x : Nat) => V.int (x : Int)).tail)) = H5 at S5 elt ⊢
          have S45 := S4.trans S5
          have hgl : lt ≠ g := fun e => by
            rw [e] at nlt
            rw [S4 _ _ hg] at nlt
            cases nlt
          have hgLl : Ll ≠ g := fun e => by
            rw [e, hg] at nLl
            cases nLl
          refine ⟨lt, rfl, ⟨_, SqL.of elt⟩, for_list (K := K) (xs := left.tail.map fun (x : Nat) => V.int (x : Int)) (fun t σ2 Hz => σ2.length = 9 ∧ σ2[0]? = some (some (.int (m : Nat))) ∧ σ2[3]? = some (some (.ref g)) ∧ σ2[4]? = some (some (.ref a)) ∧ σ2[5]? = some (some (.ref Ll)) ∧ Same (noR g H5) Hz ∧ Same Hx Hz ∧ ∃ as3 : List Addr, Hz g = some (.lst (as3.map V.ref)) ∧ DsAt Hz as3 (((matchM m j).take i).flatMap (stepM m) ++ (left.tail.take t).map fun o => moreM kvs (left.headD 0) o)) ⟨?_, ?_, ?_, ?_, ?_, noR_sub, SH.trans S45, as2, S45 _ _ hg, ?_⟩ (fun t σ2 Hz _ h => SqL.of (h.2.2.2.2.2.1 _ _ (noR_at elt hgl))) ?_ ?_⟩
          · rw [List.length_set, N4]
          · rw [List.getElem?_set_ne (by decide), List.getElem?_set_ne (by decide)]; exact z0
          · rw [List.getElem?_set_ne (by decide), List.getElem?_set_ne (by decide)]; exact z3
          · rw [List.getElem?_set_ne (by decide), List.getElem?_set_self (by rw [N1]; decide)]
          · rw [List.getElem?_set_self (by rw [N4]; decide)]
          · rw [List.take_zero, List.map_nil, List.append_nil]
            exact dsAt_to hD2 fun b l e => S45 _ _ e
          · rintro t y σ2 Hz hy ⟨N2, w0, w3, w4, w5, SB, SX, as3, hg3, hD3⟩
            rw [List.getElem?_map] at hy
            obtain ⟨o, hto, rfl⟩ := Option.map_eq_some_iff.mp hy
            have htl := (List.getElem?_eq_some_iff.mp hto).1
            rw [List.length_tail] at htl
            have hLz : Hz Ll = some (.lst (left.map fun (x : Nat) => V.int (x : Int))) := SB _ _ (noR_at (S5 _ _ eLl) hgLl)
            have haz : Hz a = some (.dK kvs) := SX _ _ ha
            obtain ⟨b0, left', hb0⟩ : ∃ b0 left', left = b0 :: left' := by
              cases left with
              | nil => simp at htl
              | cons b0 l' => exact ⟨b0, l', rfl⟩
            have la3 : as3.length ≤ 200 := by
              rw [paired_lenX hD3, List.length_append, List.length_map, List.length_take]
              have := paired_lenX hD2
              omega
            -- more = dict(known)
            refine sq_anyX ⟨_, by rw [List.getElem?_set_ne (by decide)]; exact w4, a, kvs, rfl, .inl haz, fun p np => ?_⟩
            -- more.update({..})
            refine sq_of ⟨.ref p, by rw [List.getElem?_set_self (by rw [List.length_set, N2]; decide)], .inr (.inr (.inl ⟨rfl, .inl ⟨kvs, upd_same⟩⟩)), fun q2 nq2 => ?_⟩
            have hpq : p ≠ q2 := fun e => by rw [e, upd_same] at nq2; cases nq2
            have Sp := same_new (o := HO.dK kvs) np
            have Sq := same_new (o := HO.dK []) nq2
            have ep : upd (upd Hz p (.dK kvs)) q2 (.dK []) p = some (.dK kvs) := by rw [upd_ne hpq, upd_same]
            have eq2 : upd (upd Hz p (.dK kvs)) q2 (.dK []) q2 = some (.dK []) := upd_same
            have Spq := Sp.trans Sq
            generalize upd (upd Hz p (.dK kvs)) q2 (.dK []) = H6 at Spq ep eq2 ⊢
            have g5 : ((σ2.set 6 (some (.int (o : Nat)))).set 7 (some (V.ref p)))[5]? = some (some (.ref Ll)) := by rw [List.getElem?_set_ne (by decide), List.getElem?_set_ne (by decide)]; exact w5
            have g6 : ((σ2.set 6 (some (.int (o : Nat)))).set 7 (some (V.ref p)))[6]? = some (some (.int (o : Nat))) := by rw [List.getElem?_set_ne (by decide), List.getElem?_set_self (by rw [N2]; decide)]
            have hat : atI (left.map fun (x : Nat) => V.int (x : Int)) 0 = some (.int (b0 : Nat)) := by rw [hb0]; exact atI_nat (j := 0) rfl
            refine ⟨_, g5, Ll, _, 0, _, rfl, rfl, SqL.of (Spq _ _ hLz), hat, _, g6, _, g6, _, g5, Ll, _, 0, _, rfl, rfl, SqL.of (Spq _ _ hLz), hat, eq2, [(.inl (b0 : Int), .int (o : Int)), (.inl (o : Int), .int (b0 : Int))], rfl, by show 2 ≤ 15; decide, ?_⟩
            have eq3 : upd H6 q2 (.dK (mergeK [] [(.inl (b0 : Int), .int (o : Int)), (.inl (o : Int), .int (b0 : Int))])) q2 = some (.dK (mergeK [] [(.inl (b0 : Int), .int (o : Int)), (.inl (o : Int), .int (b0 : Int))])) := upd_same
            have ep3 : upd H6 q2 (.dK (mergeK [] [(.inl (b0 : Int), .int (o : Int)), (.inl (o : Int), .int (b0 : Int))])) p = some (.dK kvs) := by rw [upd_ne hpq]; exact ep
            have lm2 : (mergeK [] [((.inl (b0 : Int) : Key), V.int (o : Int)), (.inl (o : Int), .int (b0 : Int))]).length ≤ 2 := length_mergeK _ []
            refine ⟨p, q2, kvs, _, rfl, rfl, hpq, ep3, eq3, by rw [sizeLine_eq]; omega, ?_⟩
            have eK : mergeK kvs (mergeK [] [((.inl (b0 : Int) : Key), V.int (o : Int)), (.inl (o : Int), .int (b0 : Int))]) = moreM kvs (left.headD 0) o := by
              rw [hb0]
              rfl
            rw [eK]
            have hq2z : Hz q2 = none := none_back Sp nq2
            have S7 : Same Hz (upd (upd H6 q2 (.dK (mergeK [] [(.inl (b0 : Int), .int (o : Int)), (.inl (o : Int), .int (b0 : Int))]))) p (.dK (moreM kvs (left.headD 0) o))) := same_upd np (same_upd hq2z Spq)
            have ep7 : upd (upd H6 q2 (.dK (mergeK [] [(.inl (b0 : Int), .int (o : Int)), (.inl (o : Int), .int (b0 : Int))]))) p (.dK (moreM kvs (left.headD 0) o)) p = some (.dK (moreM kvs (left.headD 0) o)) := upd_same
            generalize upd (upd H6 q2 (.dK (mergeK [] [(.inl (b0 : Int), .int (o : Int)), (.inl (o : Int), .int (b0 : Int))]))) p (.dK (moreM kvs (left.headD 0) o)) = H7 at S7 ep7 ⊢
            -- longer.append(more)
            have hpg : p ≠ g := fun e => by rw [e, hg3] at np; cases np
            refine ⟨.ref g, by rw [List.getElem?_set_ne (by decide), List.getElem?_set_ne (by decide)]; exact w3, .inl ⟨rfl, _, SqL.of (S7 _ _ hg3)⟩, _, by rw [List.getElem?_set_self (by rw [List.length_set, N2]; decide)], g, _, _, rfl, rfl, S7 _ _ hg3, by rw [List.length_map, sizeLine_eq]; omega, ?_⟩
            have toD : ∀ b l, H7 b = some (.dK l) → upd H7 g (.lst (as3.map V.ref ++ [.ref p])) b = some (.dK l) := fun b l e => by
              rw [upd_ne (fun z => by rw [z, S7 _ _ hg3] at e; cases e)]
              exact e
            refine ⟨by rw [List.length_set, List.length_set, N2], by rw [List.getElem?_set_ne (by decide), List.getElem?_set_ne (by decide)]; exact w0, by rw [List.getElem?_set_ne (by decide), List.getElem?_set_ne (by decide)]; exact w3, by rw [List.getElem?_set_ne (by decide), List.getElem?_set_ne (by decide)]; exact w4, g5, same_upd (if_pos rfl) (SB.trans S7), same_upd ng (SX.trans S7), as3 ++ [p], by rw [upd_same, List.map_append]; rfl, ?_⟩
            rw [take_sub hto, List.map_append, ← List.append_assoc]
            exact paired_app (dsAt_to hD3 fun b l e => toD b l (S7 _ _ e)) (.cons (toD _ _ ep7) .nil)
          · rintro σ2 Hz ⟨N2, w0, w3, w4, w5, SB, SX, as3, hg3, hD3⟩
            rw [List.length_map, List.take_length] at hD3
            refine ⟨N2, w0, w3, SX, as3, hg3, ?_⟩
            rw [flat_succ hk]
            unfold stepM
            rw [← hleft]
            exact hD3
      · rintro σ Hy ⟨N1, z0, z3, SH, as2, hg, hD2⟩
        rw [List.length_map, paired_lenX hD, List.take_length] at hD2
        refine ⟨_, z3, by rw [List.length_set, N1], by rw [List.getElem?_set_ne (by decide)]; exact z0, I.S.trans SH, g, as2, by rw [List.getElem?_set_self (by rw [N1]; decide)], hg, ?_⟩
        rw [matchM]
        exact hD2
    · rintro σ' Hx I
      obtain ⟨L, as, h1, hL, hD⟩ := I.f
      have IN := I.N
      have lD := paired_lenX hD
      have l100 := (tA m (by omega)).1
      have lM := lD
      dsimp only
      refine ret_ofX ?_
      refine ⟨_, h1, L, rfl, ⟨_, SqL.of hL⟩, fun D nD => lc_list (K := K) (xs := as.map V.ref) (fun i Hz => Gr Hx D (((matchM m m).take i).map fun l => rowD (matR m l)) Hz) (by rw [List.take_zero]; exact Gr.start nD) (fun i Hz _ g => SqL.of (g.2.1 _ _ hL)) ?_ ?_⟩
      · rintro i y Hz hy g
        rw [List.getElem?_map] at hy
        obtain ⟨a, haI, rfl⟩ := Option.map_eq_some_iff.mp hy
        obtain ⟨kvs, hk, ha⟩ := paired_at hD haI
        have haz := g.2.1 _ _ ha
        have hkl := (List.getElem?_eq_some_iff.mp hk).1
        refine ⟨wipe_one, ?_⟩
        dsimp only [tYes]
        have N4 : ((σ'.set 4 none).set 4 (some (V.ref a))).length = 9 := by rw [List.length_set, List.length_set, IN]
        have E4 : EnvOk [(0, PyData.int (m : Nat))] ((σ'.set 4 none).set 4 (some (V.ref a))) Hz := fun p hp => by
          obtain rfl := List.mem_singleton.mp hp
          exact ⟨_, by rw [List.getElem?_set_ne (by show 4 ≠ 0; decide), List.getElem?_set_ne (by show 4 ≠ 0; decide)]; exact I.m0, .int _⟩
        refine if_t rfl (cb_1 (lc_rangeF (n := 2 * m) (f := fun k => PyData.int ((natV (valV kvs (.inl ((k : Nat) : Int))) : Nat) : Int)) (M2m List.mem_cons_self) E4 (by omega) (fun j2 H8 Q2 hj2 S10 kq2 => ?_) (fun _ _ => rfl) fun L2 zs H8 n8 S10 e8 d8 => ?_))
        · refine tst_dget ⟨_, ?_, ⟨_, ?_, a, _, rfl, .inl ⟨kvs, .inl ((j2 : Nat) : Int), .inl (S10 _ _ haz), rfl, (tB kvs (List.mem_of_getElem? hk) j2 hj2).symm⟩, kq2 _ H8 (Same.refl _) (.int _)⟩⟩
          · show ((((σ'.set 4 none).set 4 (some (V.ref a))).set 8 none).set 8 (some (.int (j2 : Nat))))[4]? = _
            rw [List.getElem?_set_ne (by decide), List.getElem?_set_ne (by decide), List.getElem?_set_self (by rw [List.length_set, IN]; decide)]
          · show ((((σ'.set 4 none).set 4 (some (V.ref a))).set 8 none).set 8 (some (.int (j2 : Nat))))[8]? = _
            rw [List.getElem?_set_self (by rw [List.length_set, N4]; decide)]
            rfl
        · refine ⟨L2, zs, rfl, SqL.of e8, fun l2 o2 n2 no2 => ?_⟩
          have e : (matR m kvs).map (fun (i : Nat) => PyData.int (i : Int)) = (List.range (2 * m)).map fun k => PyData.int ((natV (valV kvs (.inl ((k : Nat) : Int))) : Nat) : Int) := by
            unfold matR
            rw [List.map_map]
            rfl
          have dt : Dat (upd H8 l2 (.frz o2 (.tup zs))) (.ref l2) (rowD (matR m kvs)) := .tup (TP.fz upd_same no2) (by rw [e]; exact d8.same (same_new n2))
          obtain ⟨xs, hD9, hxl, _, g'⟩ := g.add (S10.trans (same_new (o := HO.frz o2 (.tup zs)) n2)) (.cons dt .nil) (by show (noL (rowD (matR m kvs)) && true) = true; rw [rowD_noL]; rfl)
          rw [List.length_map, List.length_take] at hxl
          refine ⟨xs, hD9, by rw [sizeLine_eq]; omega, ?_⟩
          rw [take_sub hk, List.map_append]
          exact g'
      · rintro Hz g
        rw [List.length_map, lD, List.take_length] at g
        obtain ⟨zs, H0, n0', S0', S2, e, d⟩ := gr_out g
        refine q D zs _ Hz (none_back (I.S.trans S0') n0') ((I.S.trans S0').trans S2) e (d.same S2) ⟨(matchM m m).map (matR m), by rw [List.map_map]; rfl, by rw [List.length_map]; omega, fun r hr => ?_⟩
        obtain ⟨l, hl, rfl⟩ := List.mem_map.mp hr
        refine ⟨?_, fun x hx => mat_low m (by omega) l hl x hx⟩
        unfold matR
        rw [List.length_map, List.length_range]
end
end KB
set_option maxRecDepth 100000
set_option maxHeartbeats 8000000
namespace KB
open PySem PySem.Spec PyProof.Rows L2
/-! ### orders: any depth that is enough -/
theorem order_up : ∀ (n : Nat) (d : PyData), orderB n d = true → orderB (n + 1) d = true ∧ namesN (n + 1) d = namesN n d
  | 0, _, h => by cases (show false = true from h)
  | n + 1, d, h => by
    rcases order_view h with ⟨z, rfl, hz, en⟩ | ⟨wd, es, hw, rfl, l2, l6, hes, en⟩
    · exact ⟨item_order (n + 1) hz, by rw [en, item_names]⟩
    · refine ⟨join_order (n + 1) hw l2 l6 fun e he => (order_up n e (hes e he)).1, ?_⟩
      rw [en, join_names (n + 1) hw, List.flatMap_def, List.flatMap_def]
      congr 1
      exact List.map_congr_left fun e he => (order_up n e (hes e he)).2
theorem order_to : ∀ (k n : Nat) (d : PyData), orderB n d = true → orderB (n + k) d = true ∧ namesN (n + k) d = namesN n d
  | 0, _, _, h => ⟨h, rfl⟩
  | k + 1, n, d, h => by
    obtain ⟨a, b⟩ := order_to k n d h
    obtain ⟨a2, b2⟩ := order_up (n + k) d a
    exact ⟨a2, by rw [show n + (k + 1) = n + k + 1 by omega, b2, b]⟩
theorem order_six {n : Nat} {d : PyData} (h : orderB n d = true) (hn : n ≤ 6) : orderB 6 d = true ∧ namesN 6 d = namesN n d := by
  have := order_to (6 - n) n d h
  rw [show n + (6 - n) = 6 by omega] at this
  exact this
theorem names_six {n : Nat} {wd : Str} {es : List PyData} (hw : isSP wd) (h : ∀ e ∈ es, orderB n e = true) (l2 : 2 ≤ es.length) (l6 : es.length ≤ 6) (hn : n + 1 ≤ 6) : namesN 6 (joinD wd es) = es.flatMap (namesN 6) := by
  rw [(order_six (join_order n hw l2 l6 h) hn).2, join_names n hw, List.flatMap_def, List.flatMap_def]
  congr 1
  exact List.map_congr_left fun e he => ((order_six (h e he) (by omega)).2).symm
theorem in_strs (z : Str) : ∀ r : List Str, inV (.str z) (r.map V.str) = decide (z ∈ r)
  | [] => by simp [inV]
  | a :: r => by
    have ih := in_strs z r
    unfold inV at ih ⊢
    rw [List.map_cons, List.any_cons, ih]
    by_cases h : a = z
    · subst h
      simp [eqV]
    · have h3 : ¬ z = a := fun e => h e.symm
      simp [eqV, h, h3]
theorem flat_strsV (r : List Str) : (r.map V.str).all flatV = true := by
  rw [List.all_map]
  exact List.all_eq_true.mpr fun _ _ => rfl
section
variable {N : Nat} {G : List (Nat × PyData)} {t te : TE}
/-- over a tuple of known data -/
theorem mkf_tupF {K : PySem.W.Frag} {i : Nat} {ds : List PyData} {f : PyData → PyData} (h : MkN N G t (.tuple ds)) (hn : ds.length ≤ 5000) (hG : G.all (fun p => p.1 != i) = true) (hi : i < N) (he : ∀ d ∈ ds, MkN N ((i, d) :: G) te (f d)) (hf : ∀ d ∈ ds, noL (f d) = true) :
    MkF N G (tLc (iTup K t) (gName i) tYes te [i]) (ds.map f) := fun σ H Q hN E q => h σ H _ hN E fun v H1 S1 d1 => by
  have hG := ne_of hG
  obtain ⟨a, xs, rfl, ha, hx⟩ := dat_tup d1
  have hxl := hx.len
  have E1 := (E.same S1).none hG
  refine ⟨a, rfl, ⟨_, sqT_rd ha⟩, fun D nD => lc_tup (K := K) (xs := xs) (fun j Hz => Gr H1 D ((ds.take j).map f) Hz) (by rw [List.take_zero]; exact Gr.start nD) (fun j Hz _ g => sqT_rd (upR ha g.2.1)) ?_ ?_⟩
  · rintro j y Hz hy g
    obtain ⟨d, hd, dy⟩ := hx.get hy
    have hm := List.mem_of_getElem? hd
    refine ⟨wipe_one, ?_⟩
    dsimp only [tYes]
    refine if_t rfl (he d hm _ Hz _ (by show (List.set (List.set σ i none) i (some y)).length = N; rw [List.length_set, List.length_set, hN]) ((E1.same g.2.1).put hG (by rw [List.length_set, hN]; exact hi) (dy.same g.2.1)) fun v4 H4 S4 d4 => ?_)
    obtain ⟨zs, hL, hzl, _, g'⟩ := g.add S4 (.cons d4 .nil) (by show noLs [f d] = true; simp [noLs, hf d hm])
    rw [List.length_map, List.length_take] at hzl
    refine ⟨zs, hL, by rw [sizeLine_eq]; omega, ?_⟩
    rw [take_map_succ hd]
    exact g'
  · rintro Hz g
    rw [hxl, List.take_length] at g
    obtain ⟨zs, H0, n0, S0, S2, e, d⟩ := gr_out g
    exact q D zs H0 Hz n0 (S1.trans S0) S2 e d
end
theorem bm_of {K : PySem.W.Frag} {T : String} {r : V → List V → Hp → VK → Prop} {to : TE} {t : TA} {σ : L2.St} {H : Hp} {Q : VK} (h : to σ H fun x H1 => tyV K T x H1 ∧ t σ H1 fun xs H2 => r x xs H2 Q) : tBM K T r to t σ H Q := h
theorem op_ofX {r : R2} {t u : TE} {σ : L2.St} {H : Hp} {Q : VK} (h : t σ H fun x H1 => u σ H1 fun y H2 => r x y H2 Q) : tOp r t u σ H Q := h
theorem lst_ofX {t : TA} {σ : L2.St} {H : Hp} {Q : VK} (h : t σ H fun xs H1 => xs.length ≤ sizeLine ∧ ∀ p, H1 p = none → Q (.ref p) (upd H1 p (.lst xs))) : tLst t σ H Q := h
/-! ### the parallel orders that contain a name -/
def inE (name : Str) (e : PyData) : Bool := decide (name ∈ namesN 6 e)
def kidsOf (d : PyData) : List PyData := tupItems (at0 (tupItems d) 1)
def wordOf (d : PyData) : Str := strOf (at0 (tupItems d) 0)
def parsM (name : Str) : Nat → PyData → List (PyData × Nat)
  | 0, _ => []
  | n + 1, d => if wordOf d = "item" then [] else
      (if wordOf d = "parallel" then [(d, (kidsOf d).findIdx (inE name))] else []) ++ parsM name n ((kidsOf d).getD ((kidsOf d).findIdx (inE name)) .none)
def parD (p : PyData × Nat) : PyData := .tuple [p.1, .int (p.2 : Nat)]
theorem find_kid {name : Str} {es : List PyData} (h : name ∈ es.flatMap (namesN 6)) : ∃ e, es[es.findIdx (inE name)]? = some e ∧ e ∈ es ∧ name ∈ namesN 6 e ∧ ∀ (m : Nat) (e' : PyData), m < es.findIdx (inE name) → es[m]? = some e' → inE name e' = false := by
  obtain ⟨e0, he0, hn0⟩ := List.mem_flatMap.mp h
  have hl : es.findIdx (inE name) < es.length := List.findIdx_lt_length_of_exists ⟨e0, he0, decide_eq_true hn0⟩
  have hg := List.findIdx_getElem (w := hl)
  refine ⟨es[es.findIdx (inE name)], List.getElem?_eq_getElem hl, List.getElem_mem hl, of_decide_eq_true hg, fun m e' hm he => ?_⟩
  have := List.not_of_lt_findIdx hm
  obtain ⟨hml, e2⟩ := List.getElem?_eq_some_iff.mp he
  rw [← e2]
  simpa using this
def spPars (n : Nat) : Sp := fun vs H Q _ => ∃ (v : V) (d : PyData) (name : Str), vs = [v, .str name] ∧ n ≤ 6 ∧ Dat H v d ∧ orderB n d = true ∧ name ∈ namesN 6 d ∧ noL d = true ∧ name.length ≤ 1000 ∧ Fresh H Q (fun ds => ds = (parsM name n d).map parD)
theorem order_noL : ∀ (n : Nat) (d : PyData), orderB n d = true → noL d = true
  | 0, _, h => by cases (show false = true from h)
  | n + 1, d, h => by
    rcases order_view h with ⟨z, rfl, hz, en⟩ | ⟨wd, es, hw, rfl, l2, l6, hes, en⟩
    · rfl
    · show (true && (noLs es && true)) = true
      rw [noLs_iff.mpr fun e he => order_noL n e (hes e he)]
      rfl
theorem pars_len (name : Str) : ∀ (n : Nat) (d : PyData), (parsM name n d).length ≤ n
  | 0, _ => Nat.le_refl _
  | n + 1, d => by
    rw [parsM]
    split
    · exact Nat.zero_le _
    · rw [List.length_append]
      have := pars_len name n ((kidsOf d).getD ((kidsOf d).findIdx (inE name)) .none)
      split
      · simp only [List.length_cons, List.length_nil]
        omega
      · simp only [List.length_nil]
        omega
abbrev s_pars : Stmt := top 11
section
variable {P : Program} {w : World} {K : PySem.W.Frag} {mg : Str → Option Value} {base : Heap}
abbrev NPa : List Str := ["order", "name", "word", "rest", "index", "deeper", "inner"]
theorem sc_pars : FnScope NPa ["order", "name"] (defScope s_pars) := ⟨rfl, rfl, rfl, by decide +kernel, rfl, by decide +kernel, by decide +kernel⟩
theorem pars_body {f fN : Addr} {fd fdN : FuncData} {k : Nat} {sp : Sp} (F : Fun K "parallels_of" "parallels_of" s_pars f fd) (b : L2.Binds K fd ["order", "name"] []) (g : mg "parallels_of" = some (.ref f)) (G : FnOk P w K mg base CX0 (7 + k) f fd ["order", "name"] sp) (T : Nm mg)
    (D_names : DefOk K mg "names_of" sNames ["order"] fN fdN) (n : Nat)
    (hn : ∀ m, n = m + 1 → n ≤ 6 → ∀ (x : V) (d : PyData) (name : Str) (H : Hp) (R : VK), Dat H x d → orderB m d = true → name ∈ namesN 6 d → name.length ≤ 1000 → Fresh H R (fun ds => ds = (parsM name m d).map parD) → sp [x, .str name] H R E0) : FnOk P w K mg base CX0 (7 + k + 1) f fd ["order", "name"] (spPars n) := by
  have G_names : FnOk P w K mg base CX0 7 fN fdN ["order"] (spNames 6) := ok_names D_names.F D_names.b D_names.g 6
  refine F.ok sc_pars (fun vs H Q E h => ?_) (fun cdv A outer s H vs Q E hr h => ?_)
  · obtain ⟨v, d, name, rfl, _⟩ := h
    rfl
  · obtain ⟨v, d, name, rfl, h6, hd, ho, hnm, hno, hnl, q⟩ := h
    have hr7 : Room 7 _ := hr.mono (by omega)
    refine ⟨_, (pss_cons (ps_asg (pv 0) (pg_tup rfl (pgs_cons (pg_name (i := 2) sc_pars.nd rfl (Or.inl rfl)) (pgs_cons (pg_name (i := 3) sc_pars.nd rfl (Or.inl rfl)) pgs_nil))))
      (pss_cons (ps_if (pt_cmpR op_eq (pv 2) pe_str (nomark _))
        (pss_one (ps_ret (pe_lst pa_nil)))
        pss_nil)
      (pss_cons (ps_set (i := 4) sc_pars.nd rfl (Or.inl rfl) (pe_bm PySem.F.plainAttrs_list PySem.F.slot_list_index PySem.F.type_list_index mt_index (pe_lc (own := [("inner", 6)]) (g := (gName 6)) (tt := tYes) (te := tOp (rIn K false) (tVar 1) (tCall (spNames 6) [] L2.E0 (tCons (tVar 6) tNil))) rfl sc_pars.nd (pi_tup (pv 3)) (blkOk_by (N := NPa) (sc := defScope s_pars) (by decide +kernel))
          (fun _ _ _ _ _ => (pg_name (i := 6) sc_pars.nd rfl (Or.inl rfl))) (fun _ _ _ _ _ => pts_nil) (fun _ _ _ _ _ => (pe_cmpR op_in_seq (pv 1) (pe_call G_names hr7 rfl D_names.g D_names.F.kp D_names.b .nil pass0 (pa_cons (pv 6) pa_nil)) rfl))) (pa_cons pe_bl pa_nil)))
      (pss_cons (ps_set (i := 5) sc_pars.nd rfl (Or.inl rfl) (pe_call G hr rfl g F.kp b .nil pass0 (pa_cons (pe_ix ix_tup (pv 3) (pv 4) (fun _ _ => rfl)) (pa_cons (pv 1) pa_nil))))
      (pss_one (ps_ret (pe_ifExp (pt_cmpR op_eq (pv 2) pe_str (nomark _)) (pe_op op_cat (pe_lst (pa_cons (pe_tupF (pa_cons (pv 0) (pa_cons (pv 4) pa_nil))) pa_nil)) (pv 5)) (pv 5)))))))), ?_⟩
    cases n with
    | zero => exact Bool.noConfusion ((show false = true from ho) : false = true)
    | succ m =>
      obtain ⟨a, xs, rfl, ha, hx⟩ : ∃ a xs, v = .ref a ∧ TP H a xs ∧ DatAll H xs (tupItems d) := by
        rcases order_view ho with ⟨z, rfl, hz, en⟩ | ⟨wd, es, hw, rfl, l2, l6, hes, en⟩
        · exact dat_tup hd
        · exact dat_tup hd
      rcases order_view ho with ⟨z, rfl, hz, en⟩ | ⟨wd, es, hw, rfl, l2, l6, hes, en⟩
      · obtain ⟨x0, x1, rfl, c0, c1⟩ := dat_two hx
        cases c0
        refine sq_anyX ⟨_, rfl, a, _, rfl, sqT_rd ha, rfl, _, _, rfl, _, _, rfl, rfl, ?_⟩
        refine sq_of ⟨_, rfl, rfl, _, rfl, if_t (decide_eq_true rfl) ⟨(by show 0 ≤ sizeLine; decide), fun p np => ?_⟩⟩
        exact q p [] [] _ np (same_new np) upd_same .nil rfl
      · obtain ⟨x0, x1, rfl, c0, c1⟩ := dat_two hx
        cases c0 with
        | str _ hwl =>
        have e6 := names_six hw hes l2 l6 h6
        rw [e6] at hnm
        obtain ⟨e, hei, hem, hne, hbef⟩ := find_kid hnm
        refine sq_anyX ⟨_, rfl, a, _, rfl, sqT_rd ha, rfl, _, _, rfl, _, _, rfl, rfl, ?_⟩
        have E0' : EnvOk [(3, .tuple es), (2, .str wd), (1, .str name), (0, joinD wd es)] [some (V.ref a), some (.str name), some (.str wd), some x1, none, none, none] H := fun p hp => by
          simp only [List.mem_cons, List.not_mem_nil, or_false] at hp
          rcases hp with rfl | rfl | rfl | rfl
          · exact ⟨_, rfl, c1⟩
          · exact ⟨_, rfl, .str _ hwl⟩
          · exact ⟨_, rfl, .str _ hnl⟩
          · exact ⟨_, rfl, hd⟩
        refine sq_if0 (mkt (mk_eqS (a := wd) (mk_var (i := 2) (by simp)) (mk_str (by decide)) (decide_eq_false (by rcases hw with rfl | rfl <;> decide)))) E0' fun Hn Sn => ?_
        replace E0' := E0'.same Sn
        have MF := mkf_tupF (K := K) (N := 7) (i := 6) (ds := es) (f := fun e => PyData.bool (inE name e)) (te := tOp (rIn K false) (tVar 1) (tCall (spNames 6) [] L2.E0 (tCons (tVar 6) tNil))) (Mk.n (mk_var (G := [(3, .tuple es), (2, .str wd), (1, .str name), (0, joinD wd es)]) (i := 3) List.mem_cons_self)) (by omega) rfl (by decide) (fun e he => ?_) (fun _ _ => rfl)
        · refine sq_anyX (bm_of (MF _ Hn _ rfl E0' fun L zs H0 H1 n0 S0 S1 eL dz => ⟨.inl ⟨rfl, _, SqL.of eL⟩, ?_⟩))
          have ez : zs = (es.map fun e => V.bl (inE name e)) := by
            have z : ∀ (l : List PyData) (zs : List V), DatAll H0 zs (l.map fun e => PyData.bool (inE name e)) → zs = l.map fun e => V.bl (inE name e) := fun l => by
              induction l with
              | nil => intro zs h; cases h; rfl
              | cons e l ih =>
                intro zs h
                rw [List.map_cons] at h
                cases h with
                | cons c t =>
                  rw [ih _ t, dat_bl c]
                  rfl
            exact z es zs dz
          subst ez
          have S01 := S0.trans S1
          have hae : (es.map fun e => V.bl (inE name e))[es.findIdx (inE name)]? = some (.bl true) := by
            rw [List.getElem?_map, hei]
            show some (V.bl (inE name e)) = _
            rw [show inE name e = true from decide_eq_true hne]
          refine ⟨L, _, .bl true, es.findIdx (inE name), .bl true, rfl, rfl, SqL.of eL, rfl, by rw [List.all_map]; exact List.all_eq_true.mpr fun _ _ => rfl, hae, rfl, fun m' z' hm hz => ?_, ?_⟩
          · rw [List.getElem?_map] at hz
            obtain ⟨e', he', rfl⟩ := Option.map_eq_some_iff.mp hz
            rw [hbef m' e' hm he']
            rfl
          · have E4 : EnvOk [(4, .int (es.findIdx (inE name) : Nat)), (3, .tuple es), (2, .str wd), (1, .str name), (0, joinD wd es)] [some (V.ref a), some (.str name), some (.str wd), some x1, some (.int (es.findIdx (inE name) : Nat)), none, none] H1 := fun p hp => by
              rcases List.mem_cons.mp hp with rfl | hp
              · exact ⟨_, rfl, .int _⟩
              · obtain ⟨u, hu, du⟩ := E0' p hp
                refine ⟨u, ?_, du.same S01⟩
                simp only [List.mem_cons, List.not_mem_nil, or_false] at hp
                rcases hp with rfl | rfl | rfl | rfl <;> exact hu
            refine sq_anyX (call_2 (mk_ixTn (K := K) (j := es.findIdx (inE name)) (d := e) (ds := es) (G := [(4, .int (es.findIdx (inE name) : Nat)), (3, .tuple es), (2, .str wd), (1, .str name), (0, joinD wd es)]) (mk_var (i := 3) (by simp)) (mk_var (i := 4) List.mem_cons_self) hei _ H1 _ E4 fun u H2 S2 d2 => ⟨_, rfl, ?_⟩))
            refine hn m rfl h6 u e name H2 _ d2 (hes e hem) hne hnl fun L5 zs5 ds5 H5 n5 S5 e5 d5 h5 => ?_
            subst h5
            have E5 : EnvOk [(4, .int (es.findIdx (inE name) : Nat)), (3, .tuple es), (2, .str wd), (1, .str name), (0, joinD wd es)] [some (V.ref a), some (.str name), some (.str wd), some x1, some (.int (es.findIdx (inE name) : Nat)), some (.ref L5), none] H5 := fun p hp => by
              obtain ⟨u', hu, du⟩ := E4 p hp
              refine ⟨u', ?_, du.same (S2.trans S5)⟩
              simp only [List.mem_cons, List.not_mem_nil, or_false] at hp
              rcases hp with rfl | rfl | rfl | rfl | rfl <;> exact hu
            have eM : parsM name (m + 1) (joinD wd es) = (if wd = "parallel" then [(joinD wd es, es.findIdx (inE name))] else []) ++ parsM name m e := by
              rw [parsM]
              have w1 : wordOf (joinD wd es) = wd := rfl
              have w2 : kidsOf (joinD wd es) = es := rfl
              rw [w1, w2, if_neg (by rcases hw with rfl | rfl <;> decide), List.getD_eq_getElem?_getD, hei]
              rfl
            rw [eM] at q
            have ST5 := (Sn.trans S01).trans (S2.trans S5)
            have M2 : Mk [(4, .int (es.findIdx (inE name) : Nat)), (3, .tuple es), (2, .str wd), (1, .str name), (0, joinD wd es)] (tVar 2) (.str wd) := mk_var (by simp)
            have lP := pars_len name m e
            have n5' : H L5 = none := none_back ((Sn.trans S01).trans S2) n5
            rcases hw with rfl | rfl
            · refine ret_ofX ((mkt (mk_eqS M2 (mk_str (by decide)) (decide_eq_false (by decide)))) _ H5 _ E5 fun H6 S6 => if_f rfl ⟨_, rfl, ?_⟩)
              exact q L5 zs5 _ H6 n5' (ST5.trans S6) (S6 _ _ e5) (d5.same S6) rfl
            · refine ret_ofX ((mkt (mk_eqS M2 (mk_str (by decide)) (decide_eq_true rfl))) _ H5 _ E5 fun H6 S6 => if_t rfl ?_)
              refine op_ofX (lst_ofX ((mks_cons (mks_tup2 (mk_var (i := 0) (by simp)) (mk_var (i := 4) List.mem_cons_self)) mks_nil : Mks [(4, .int (es.findIdx (inE name) : Nat)), (3, .tuple es), (2, .str "parallel"), (1, .str name), (0, joinD "parallel" es)] _ [parD (joinD "parallel" es, es.findIdx (inE name))]) _ H6 _ (E5.same S6) fun vs7 H7 S7 d7 => ⟨by rw [d7.len]; show 1 ≤ sizeLine; decide, fun l7 n7 => ⟨_, rfl, ?_⟩⟩))
              have S67 := (S6.trans S7).trans (same_new (o := HO.lst vs7) n7)
              have l5 := d5.len
              have l7' := d7.len
              rw [List.length_map] at l5
              refine ⟨l7, L5, vs7, zs5, rfl, rfl, upd_same, S67 _ _ e5, by rw [l5, l7', sizeLine_eq]; show 1 + _ ≤ _; omega, fun p8 n8 => ?_⟩
              exact q p8 _ _ _ (none_back (ST5.trans S67) n8) ((ST5.trans S67).trans (same_new n8)) upd_same (datAll_append ((d7.same (same_new n7)).same (same_new n8)) ((d5.same S67).same (same_new n8))) (by rw [List.map_append]; rfl)
        · intro σ2 H2 Q2 hN2 E2 k2
          obtain ⟨u, hu, du⟩ := E2 (6, e) List.mem_cons_self
          obtain ⟨u1, hu1, du1⟩ := E2 (1, .str name) (by simp)
          obtain rfl := dat_strV du1
          have hes6 := order_six (hes e he) (by omega)
          refine ⟨_, hu1, u, hu, u, e, rfl, Nat.le_refl _, du, hes6.1, fun p H3 S3 n3 e3 => ⟨p, _, rfl, .inl (SqL.of e3), rfl, flat_strsV _, ?_⟩⟩
          rw [if_neg Bool.false_ne_true, in_strs]
          exact k2 _ H3 S3 (.bl _)
/-- parallels_of(d, name), d an order of at most n levels -/
theorem ok_pars {f fN : Addr} {fd fdN : FuncData} (F : Fun K "parallels_of" "parallels_of" s_pars f fd) (b : L2.Binds K fd ["order", "name"] []) (g : mg "parallels_of" = some (.ref f)) (T : Nm mg)
    (D_names : DefOk K mg "names_of" sNames ["order"] fN fdN) : ∀ n : Nat, FnOk P w K mg base CX0 (8 + n) f fd ["order", "name"] (spPars n)
  | 0 => by
    have z := pars_body (P := P) (w := w) (base := base) (k := 0) (sp := fun _ _ _ _ => False) F b g fn_none T D_names 0 fun m e => by cases e
    exact z
  | n + 1 => by
    have G := ok_pars F b g T D_names n
    rw [show 8 + n = 7 + (n + 1) by omega] at G
    have z := pars_body F b g G T D_names (n + 1) fun m e l6 x d name H R hd ho hnm hnl hR => by
      obtain rfl : n = m := Nat.succ.inj e
      exact ⟨x, d, name, rfl, by omega, hd, ho, hnm, order_noL n d ho, hnl, hR⟩
    rw [show 8 + (n + 1) = 7 + (n + 1) + 1 by omega]
    exact z
end
end KB
set_option maxRecDepth 100000
set_option maxHeartbeats 8000000
namespace KB
open PySem PySem.Spec PyProof.Rows L2
/-! ### comprehensions whose element is told at these slots -/
section
variable {σ : L2.St} {H : Hp} {t te : TE} {tt : TT} {gg : TG} {vs : List Nat} {K : PySem.W.Frag}
theorem lc_toldL {α : Type} {g f : α → PyData} {rs : List α} {Q : VK} (M : ∀ Q : VK, (∀ (L : Addr) (xs : List V) (H1 : Hp), Same H H1 → H1 L = some (.lst xs) → DatAll H1 xs (rs.map g) → Q (.ref L) H1) → t σ H Q) (hn : rs.length ≤ 50000)
    (he : ∀ r ∈ rs, ∀ (y : V) (H2 : Hp) (Q2 : VK) (Q3 : Hp → Prop), Same H H2 → Dat H2 y (g r) → (∀ (v : V) (H' : Hp), Same H2 H' → Dat H' v (f r) → Q2 v H') → gg y (wipe σ vs) H2 fun σ2 H3 => wipe σ2 vs = wipe σ vs ∧ tYes σ2 H3 fun b H4 => if b = true then te σ2 H4 Q2 else Q3 H4)
    (hf : ∀ r ∈ rs, noL (f r) = true)
    (q : ∀ (L : Addr) (zs : List V) (H' : Hp), H L = none → Same H H' → H' L = some (.lst zs) → DatAll H' zs (rs.map f) → Q (.ref L) H') : tLc (iList K t) gg tYes te vs σ H Q := M _ fun a xs H1 S1 ha hx => by
  have hxl := hx.len
  rw [List.length_map] at hxl
  refine ⟨a, rfl, ⟨_, SqL.of ha⟩, fun D nD => lc_list (K := K) (xs := xs) (fun j Hz => Gr H1 D ((rs.take j).map f) Hz) (by rw [List.take_zero]; exact Gr.start nD) (fun j Hz _ g => SqL.of (g.2.1 _ _ ha)) ?_ ?_⟩
  · rintro j y Hz hy gr
    obtain ⟨d, hd, dy⟩ := hx.get hy
    rw [List.getElem?_map] at hd
    obtain ⟨r, hr, rfl⟩ := Option.map_eq_some_iff.mp hd
    have hm := List.mem_of_getElem? hr
    refine he r hm y Hz _ _ (S1.trans gr.2.1) (dy.same gr.2.1) fun v4 H4 S4 d4 => ?_
    obtain ⟨zs, hL, hzl, _, g'⟩ := gr.add S4 (.cons d4 .nil) (by show noLs [f r] = true; simp [noLs, hf r hm])
    rw [List.length_map, List.length_take] at hzl
    refine ⟨zs, hL, by rw [sizeLine_eq]; omega, ?_⟩
    rw [take_sub hr, List.map_append]
    exact g'
  · rintro Hz g
    rw [hxl, List.take_length] at g
    obtain ⟨zs, H0, n0, S0, S2, e, d⟩ := gr_out g
    exact q D zs Hz (none_back (S1.trans S0) n0) ((S1.trans S0).trans S2) e (d.same S2)
theorem lc_toldT {α : Type} {g f : α → PyData} {rs : List α} {Q : VK} (M : ∀ Q : VK, (∀ (v : V) (H1 : Hp), Same H H1 → Dat H1 v (.tuple (rs.map g)) → Q v H1) → t σ H Q) (hn : rs.length ≤ 50000)
    (he : ∀ r ∈ rs, ∀ (y : V) (H2 : Hp) (Q2 : VK) (Q3 : Hp → Prop), Same H H2 → Dat H2 y (g r) → (∀ (v : V) (H' : Hp), Same H2 H' → Dat H' v (f r) → Q2 v H') → gg y (wipe σ vs) H2 fun σ2 H3 => wipe σ2 vs = wipe σ vs ∧ tYes σ2 H3 fun b H4 => if b = true then te σ2 H4 Q2 else Q3 H4)
    (hf : ∀ r ∈ rs, noL (f r) = true)
    (q : ∀ (L : Addr) (zs : List V) (H' : Hp), H L = none → Same H H' → H' L = some (.lst zs) → DatAll H' zs (rs.map f) → Q (.ref L) H') : tLc (iTup K t) gg tYes te vs σ H Q := M _ fun v H1 S1 dv => by
  obtain ⟨a, xs, rfl, ha, hx⟩ := dat_tup dv
  have hxl := hx.len
  rw [List.length_map] at hxl
  refine ⟨a, rfl, ⟨_, sqT_rd ha⟩, fun D nD => lc_tup (K := K) (xs := xs) (fun j Hz => Gr H1 D ((rs.take j).map f) Hz) (by rw [List.take_zero]; exact Gr.start nD) (fun j Hz _ g => sqT_rd (upR ha g.2.1)) ?_ ?_⟩
  · rintro j y Hz hy gr
    obtain ⟨d, hd, dy⟩ := hx.get hy
    rw [List.getElem?_map] at hd
    obtain ⟨r, hr, rfl⟩ := Option.map_eq_some_iff.mp hd
    have hm := List.mem_of_getElem? hr
    refine he r hm y Hz _ _ (S1.trans gr.2.1) (dy.same gr.2.1) fun v4 H4 S4 d4 => ?_
    obtain ⟨zs, hL, hzl, _, g'⟩ := gr.add S4 (.cons d4 .nil) (by show noLs [f r] = true; simp [noLs, hf r hm])
    rw [List.length_map, List.length_take] at hzl
    refine ⟨zs, hL, by rw [sizeLine_eq]; omega, ?_⟩
    rw [take_sub hr, List.map_append]
    exact g'
  · rintro Hz g
    rw [hxl, List.take_length] at g
    obtain ⟨zs, H0, n0, S0, S2, e, d⟩ := gr_out g
    exact q D zs Hz (none_back (S1.trans S0) n0) ((S1.trans S0).trans S2) e (d.same S2)
/-- those of a list of texts that pass a test -/
theorem lc_strPL {l : List Str} {p : Str → Bool} {i : Nat} {Q : VK} (M : ∀ Q : VK, (∀ (a : Addr) (H1 : Hp), Same H H1 → H1 a = some (.lst (l.map V.str)) → Q (.ref a) H1) → t σ H Q) (hl : l.length ≤ 50000) (hs : ∀ z ∈ l, z.length ≤ 1000) (hi : i < σ.length)
    (ht : ∀ z ∈ l, ∀ (H2 : Hp) (Q2 : Bool → Hp → Prop), Same H H2 → (∀ H3, Same H2 H3 → Q2 (p z) H3) → tt ((σ.set i none).set i (some (.str z))) H2 Q2)
    (q : ∀ (L : Addr) (H' : Hp), H L = none → Same H H' → H' L = some (.lst ((l.filter p).map V.str)) → Q (.ref L) H') : tLc (iList K t) (gName i) tt (tVar i) [i] σ H Q := M _ fun a H1 S1 ha => by
  refine ⟨a, rfl, ⟨_, SqL.of ha⟩, fun D nD => lc_list (K := K) (xs := l.map V.str) (fun j Hz => Gr H1 D (strsD ((l.take j).filter p)) Hz) (by rw [List.take_zero]; exact Gr.start nD) (fun j Hz _ g => SqL.of (g.2.1 _ _ ha)) ?_ ?_⟩
  · rintro j y Hz hy gr
    rw [List.getElem?_map] at hy
    obtain ⟨z, hz, rfl⟩ := Option.map_eq_some_iff.mp hy
    have hm := List.mem_of_getElem? hz
    refine ⟨wipe_one, ht z hm Hz _ (S1.trans gr.2.1) fun H3 S3 => ?_⟩
    have g2 := gr.same S3
    rw [filter_snoc hz]
    by_cases hp : p z = true
    · rw [if_pos hp, if_pos hp]
      refine ⟨_, List.getElem?_set_self (by show i < (List.set σ i none).length; rw [List.length_set]; exact hi), ?_⟩
      obtain ⟨zs, hL, hzl, _, g'⟩ := g2.add (Same.refl _) (.cons (.str z (hs z hm)) .nil) rfl
      have hfl := List.length_filter_le p (l.take j)
      unfold strsD at hzl
      rw [List.length_map] at hzl
      rw [List.length_take] at hfl
      refine ⟨zs, hL, by rw [sizeLine_eq]; omega, ?_⟩
      unfold strsD at g' ⊢
      rw [List.map_append]
      exact g'
    · rw [if_neg hp, if_neg hp, List.append_nil]
      exact g2
  · rintro Hz gr
    rw [List.length_map, List.take_length] at gr
    obtain ⟨zs, H0, n0, S0, S2, e, d⟩ := gr_out gr
    have dd := dat_strs (ns := l.filter p) d
    rw [dd] at e
    exact q D Hz (none_back (S1.trans S0) n0) ((S1.trans S0).trans S2) e
/-- those of a tuple of texts that pass a test -/
theorem lc_strPT {l : List Str} {p : Str → Bool} {i : Nat} {Q : VK} (M : ∀ Q : VK, (∀ (v : V) (H1 : Hp), Same H H1 → Dat H1 v (srowD l) → Q v H1) → t σ H Q) (hl : l.length ≤ 50000) (hs : ∀ z ∈ l, z.length ≤ 1000) (hi : i < σ.length)
    (ht : ∀ z ∈ l, ∀ (H2 : Hp) (Q2 : Bool → Hp → Prop), Same H H2 → (∀ H3, Same H2 H3 → Q2 (p z) H3) → tt ((σ.set i none).set i (some (.str z))) H2 Q2)
    (q : ∀ (L : Addr) (H' : Hp), H L = none → Same H H' → H' L = some (.lst ((l.filter p).map V.str)) → Q (.ref L) H') : tLc (iTup K t) (gName i) tt (tVar i) [i] σ H Q := M _ fun v H1 S1 dv => by
  obtain ⟨a, xs, rfl, ha, hx⟩ := dat_tup dv
  obtain rfl := dat_strs (ns := l) hx
  refine ⟨a, rfl, ⟨_, sqT_rd ha⟩, fun D nD => lc_tup (K := K) (xs := l.map V.str) (fun j Hz => Gr H1 D (strsD ((l.take j).filter p)) Hz) (by rw [List.take_zero]; exact Gr.start nD) (fun j Hz _ g => sqT_rd (upR ha g.2.1)) ?_ ?_⟩
  · rintro j y Hz hy gr
    rw [List.getElem?_map] at hy
    obtain ⟨z, hz, rfl⟩ := Option.map_eq_some_iff.mp hy
    have hm := List.mem_of_getElem? hz
    refine ⟨wipe_one, ht z hm Hz _ (S1.trans gr.2.1) fun H3 S3 => ?_⟩
    have g2 := gr.same S3
    rw [filter_snoc hz]
    by_cases hp : p z = true
    · rw [if_pos hp, if_pos hp]
      refine ⟨_, List.getElem?_set_self (by show i < (List.set σ i none).length; rw [List.length_set]; exact hi), ?_⟩
      obtain ⟨zs, hL, hzl, _, g'⟩ := g2.add (Same.refl _) (.cons (.str z (hs z hm)) .nil) rfl
      have hfl := List.length_filter_le p (l.take j)
      unfold strsD at hzl
      rw [List.length_map] at hzl
      rw [List.length_take] at hfl
      refine ⟨zs, hL, by rw [sizeLine_eq]; omega, ?_⟩
      unfold strsD at g' ⊢
      rw [List.map_append]
      exact g'
    · rw [if_neg hp, if_neg hp, List.append_nil]
      exact g2
  · rintro Hz gr
    rw [List.length_map, List.take_length] at gr
    obtain ⟨zs, H0, n0, S0, S2, e, d⟩ := gr_out gr
    have dd := dat_strs (ns := l.filter p) d
    rw [dd] at e
    exact q D Hz (none_back (S1.trans S0) n0) ((S1.trans S0).trans S2) e
end
/-! ### how many of the names each order holds -/
def cntE (earlier : List Str) (e : PyData) : Nat := ((namesN 6 e).filter fun z => decide (z ∈ earlier)).length
/-- a dict whose keys are these texts -/
def KeysAre (kvs : Kvs) (l : List Str) : Prop := ∀ z : Str, (valV kvs (.inr z)).isSome = decide (z ∈ l)
def spCntA : Sp := fun vs H Q _ => ∃ (v : V) (b : Addr) (wd : Str) (es : List PyData) (kvs : Kvs) (earlier : List Str), vs = [v, .ref b] ∧ Dat H v (joinD wd es) ∧ (∀ e ∈ es, orderB 6 e = true) ∧ es.length ≤ 6 ∧ H b = some (.dK kvs) ∧ KeysAre kvs earlier ∧ ∀ u H', Same H H' → Dat H' u (.tuple (intsD (es.map (cntE earlier)))) → Q u H'
abbrev s_cntA : Stmt := top 12
section
variable {P : Program} {w : World} {K : PySem.W.Frag} {mg : Str → Option Value} {base : Heap}
theorem sc_cntA : FnScope ["order", "names", "inner", "name"] ["order", "names"] (defScope s_cntA) := ⟨rfl, rfl, rfl, by decide +kernel, rfl, by decide +kernel, by decide +kernel⟩
abbrev scA : Scope := { kind := .function, names := [(".0", .local), ("inner", .local), ("len", .globalImplicit), ("names_of", .globalImplicit), ("names", .cell)], isGenerator := false, isCoroutine := false, more := [] }
theorem ok_cntA {f fN : Addr} {fd fdN : FuncData} (F : Fun K "count_among" "count_among" s_cntA f fd) (T : Nm mg) (D_names : DefOk K mg "names_of" sNames ["order"] fN fdN) : FnOk P w K mg base CX0 8 f fd ["order", "names"] spCntA := by
  have G_names : FnOk P w K mg base CX0 7 fN fdN ["order"] (spNames 6) := ok_names D_names.F D_names.b D_names.g 6
  refine F.ok sc_cntA (fun vs H Q E h => ?_) (fun cdv A outer s H vs Q E hr h => ?_)
  · obtain ⟨v, b, wd, es, kvs, earlier, rfl, _⟩ := h
    rfl
  · obtain ⟨v, b, wd, es, kvs, earlier, rfl, hv, hes, hl, hb, hk, q⟩ := h
    have hu1 := units1 hr
    refine ⟨_, (pss_one (ps_ret (pe_callTy call_tupF (by rfl) T.tuple (by decide +kernel) (pa_cons (pe_lc (own := [("inner", 2)]) (g := (gName 2)) (tt := tYes) (te := tCB (rLenS K) (tCons (tLc (iList K (tCall (spNames 6) [] L2.E0 (tCons (tVar 2) tNil))) (gName 3) (tB (tDIn (tVar 3) (tVar 1))) (tVar 3) [3]) tNil)) rfl sc_cntA.nd (pi_tup (pe_ix ix_tup (pv 0) pe_int (fun _ _ => rfl))) (blkOk_by (N := ["order", "names", "inner", "name"]) (sc := defScope s_cntA) (by decide +kernel))
          (fun _ _ _ _ _ => (pg_name (i := 2) sc_cntA.nd rfl (Or.inl rfl))) (fun _ _ _ _ _ => pts_nil) (fun _ _ _ _ _ => (pe_callB cr_lenS (by rfl) T.len PySem.boot_len (pa_cons (pe_lc (own := [("name", 3)]) (g := (gName 3)) (tt := tB (tDIn (tVar 3) (tVar 1))) (te := tVar 3) rfl sc_cntA.nd (pi_list (pe_call G_names hr rfl D_names.g D_names.F.kp D_names.b .nil pass0 (pa_cons (pv 2) pa_nil))) (blkOk_by (N := ["order", "names", "inner", "name"]) (sc := scA) (by decide +kernel))
          (fun _ _ _ _ _ => (pg_name (i := 3) sc_cntA.nd rfl (Or.inl rfl))) (fun _ _ _ _ _ => pts_one (pt_cmp (pc_din hu1 (pv 3) (pv 1)))) (fun _ _ _ _ _ => (pv 3))) pa_nil)))) pa_nil)))), ?_⟩
    refine ret_ofX (cb_1 ?_)
    refine lc_toldT (g := fun e => e) (f := fun e => PyData.int (cntE earlier e : Nat)) (rs := es) (fun Q kq => ?_) (by omega) (fun e he y H2 Q2 Q3 S2 dy kq => ?_) (fun _ _ => rfl) fun L zs H2 n2 S2 e2 d2 => ⟨L, zs, rfl, SqL.of e2, fun l o nl no => q _ _ (S2.trans (same_new nl)) (.tup (TP.fz upd_same no) ?_)⟩
    · have E0 : EnvOk [(0, joinD wd es)] [some v, some (.ref b), none, none] H := fun p hp => by
        obtain rfl := List.mem_singleton.mp hp
        exact ⟨_, rfl, hv⟩
      exact mk_ixT (K := K) (ds := [.str wd, .tuple es]) (j := 1) (d := .tuple es) (mk_var List.mem_cons_self) rfl rfl _ H _ E0 fun v1 H1 S1 d1 => kq v1 H1 S1 (by rw [List.map_id']; exact d1)
    · refine ⟨rfl, ?_⟩
      dsimp only [tYes]
      refine if_t rfl (cb_1 ?_)
      have ns := names_ok 6 e (hes e he)
      have nl := names_len 6 e (hes e he)
      have h66 : (6 : Nat) ^ 6 = 46656 := rfl
      refine lc_strPL (l := namesN 6 e) (p := fun z => decide (z ∈ earlier)) (fun Q kq2 => ?_) (by omega) (fun z hz => name_short (ns z hz)) (by show 3 < 4; decide) (fun z hz H3 Q3 S3 kq3 => ?_) fun L H3 n3 S3 e3 => ⟨L, _, rfl, .inl (SqL.of e3), ?_⟩
      · exact ⟨_, rfl, y, e, rfl, Nat.le_refl _, dy, hes e he, fun p H3 S3 n3 e3 => kq2 p H3 S3 e3⟩
      · refine ⟨_, rfl, _, rfl, b, _, rfl, .inl ⟨kvs, .inr z, .inl ((S2.trans S3) _ _ hb), rfl, rfl⟩, _, rfl, ?_⟩
        rw [hk z]
        exact kq3 H3 (Same.refl _)
      · rw [List.length_map]
        exact kq _ H3 S3 (.int _)
    · have e' : intsD (es.map (cntE earlier)) = es.map fun e => PyData.int (cntE earlier e : Nat) := by
        unfold intsD
        rw [List.map_map]
        rfl
      rw [e']
      exact d2.same (same_new nl)
end
end KB
set_option maxRecDepth 100000
set_option maxHeartbeats 8000000
namespace L2
open PySem PySem.Spec PyProof.Rows
section
variable {X : Cx}
/-- sum of a tuple of ints -/
def rSumT (K : PySem.W.Frag) : List V → Hp → VK → Prop := fun vs H Q => ∃ (a : Addr) (ns : List Int), vs = [V.ref a] ∧ SqT K H a (ns.map V.int) ∧ Q (.int ns.sum) H
theorem cr_sumT (hc : X.calm = true) : CallR X (.builtin "sum") (rSumT X.K) := by
  intro pins s σ H vs us Q I r h
  obtain ⟨a, ns, rfl, hs, q⟩ := h
  obtain ⟨its, rv, p1, _⟩ := I.tuple hs
  rw [Vals.ref1 r]
  have hl : s.heap.IsTuple a its.toArray := p1
  have hi := rv.ints
  obtain ⟨xs, e⟩ := hi.allInts.items
  have hn : numsOf (intItems xs).toList = ns := by rw [← e]; exact hi.numsOf
  rw [nums_intItems] at hn
  rw [e] at hl
  refine PySem.W.ktm_sumG (I.ok.hd hc) hl fun h' tk t' hk => ?_
  rw [preSum_eq, List.take_of_length_le (by simp), hn]
  exact ⟨.int _, H, I.kept hk, ⟨_, rfl⟩, q⟩
end
end L2
namespace KB
open PySem PySem.Spec PyProof.Rows L2
/-! ### what an arrangement answers -/
def stepsM (earlier : List Str) (nm : Str) (n : Nat) (o : PyData) : List (List Nat × Nat) := (parsM nm n o).map fun p => ((kidsOf p.1).map (cntE earlier), p.2)
def stpD (t : List Nat × Nat) : PyData := .tuple [.tuple (intsD t.1), .int (t.2 : Nat)]
def sumD (t : List Nat × Nat) : PyData := .tuple [.int (t.1.sum : Nat), .tuple (intsD t.1)]
def ansE (o : PyData) (r : List Str) (nm : Str) : PyData := .tuple [.tuple ((stepsM (r.take (r.idxOf nm)) nm 6 o).map stpD), .str nm]
def ansLc (o : PyData) (r : List Str) (nm : Str) : PyData := .tuple [.tuple ((stepsM (r.take (r.idxOf nm)) nm 6 o).reverse.map sumD), .int (r.idxOf nm : Nat)]
inductive ArrAsk (r : List Str) : Str → List PyData → Str → Prop
  | entry (i : Nat) (h : i < r.length) : ArrAsk r "entry" [.int (i : Nat)] r[i]
  | locate (nm : Str) (h : nm ∈ r) : ArrAsk r "locate" [.str nm] nm
def ansA (o : PyData) (r : List Str) (z nm : Str) : PyData := if z = "entry" then ansE o r nm else ansLc o r nm
/-- what stands among the parallel orders -/
theorem pars_ok (nm : Str) : ∀ (n : Nat) (d : PyData), orderB n d = true → n ≤ 6 → ∀ p ∈ parsM nm n d, ∃ es : List PyData, p.1 = joinD "parallel" es ∧ (∀ e ∈ es, orderB 6 e = true) ∧ es.length ≤ 6 ∧ noL p.1 = true
  | 0, _, h, _, p, hp => by cases (show false = true from h)
  | n + 1, d, h, hn, p, hp => by
    rcases order_view h with ⟨z, rfl, hz, en⟩ | ⟨wd, es, hw, rfl, l2, l6, hes, en⟩
    · rw [parsM, if_pos (show wordOf (itemD z) = "item" from rfl)] at hp
      cases hp
    · have w1 : wordOf (joinD wd es) = wd := rfl
      have w2 : kidsOf (joinD wd es) = es := rfl
      rw [parsM, w1, w2, if_neg (by rcases hw with rfl | rfl <;> decide)] at hp
      rcases List.mem_append.mp hp with hp | hp
      · split at hp
        · rename_i hpar
          rw [List.mem_singleton] at hp
          subst hp
          subst hpar
          exact ⟨es, rfl, fun e he => (order_six (hes e he) (by omega)).1, l6, order_noL (n + 1) _ h⟩
        · cases hp
      · by_cases hk : es.findIdx (inE nm) < es.length
        · rw [List.getD_eq_getElem?_getD, List.getElem?_eq_getElem hk] at hp
          exact pars_ok nm n _ (hes _ (List.getElem_mem hk)) (by omega) p hp
        · rw [List.getD_eq_getElem?_getD, List.getElem?_eq_none (by omega)] at hp
          cases n with
          | zero => cases hp
          | succ n =>
            have e1 : wordOf PyData.none = (Str.empty : Str) := rfl
            have e2 : kidsOf PyData.none = [] := rfl
            rw [show (Option.none : Option PyData).getD PyData.none = PyData.none from rfl, parsM, e1, e2, if_neg (by decide), if_neg (by decide)] at hp
            exfalso
            have z : ∀ k, parsM nm k PyData.none = [] := fun k => by
              induction k with
              | zero => rfl
              | succ k ih =>
                rw [parsM, e1, e2, if_neg (by decide), if_neg (by decide), List.nil_append]
                exact ih
            rw [List.nil_append] at hp
            rw [show ([] : List PyData).getD (List.findIdx (inE nm) []) PyData.none = PyData.none from rfl, z] at hp
            cases hp
theorem putK_le (kvs : Kvs) (k : Key) (v : V) : (putK kvs k v).length ≤ kvs.length + 1 := by
  unfold putK
  split
  · rw [List.length_map]
    omega
  · rw [List.length_append]
    exact Nat.le_refl _
theorem cons_ofT {t : TE} {u : TA} {σ : L2.St} {H : Hp} {Q : VK} (h : t σ H fun v H1 => u σ H1 fun vs H2 => (v :: vs).length ≤ sizeLine ∧ ∀ (p : Addr) (o : Obj), H2 p = none → o.dict = none → Q (.ref p) (upd H2 p (.frz o (.tup (v :: vs))))) : tTupF (tCons t u) σ H Q := h
theorem idx_firstS {r : List Str} {z : Str} (h : z ∈ r) : r[r.idxOf z]? = some z ∧ r.idxOf z < r.length ∧ ∀ m, m < r.idxOf z → r[m]? ≠ some z := by
  have hl := List.idxOf_lt_length_of_mem h
  refine ⟨by rw [List.getElem?_eq_getElem hl, List.getElem_idxOf hl], hl, fun m hm e => ?_⟩
  have h7 : ∀ (l : List Str) (k : Nat), l[k]? = some z → l.idxOf z ≤ k := fun l => by
    induction l with
    | nil => intro k h; cases h
    | cons c l ih =>
      intro k h
      rw [List.idxOf_cons]
      cases k with
      | zero =>
        have : c = z := by simpa using h
        subst this
        simp
      | succ k =>
        have := ih k (by simpa using h)
        cases (c == z) <;> simp <;> omega
  have := h7 r m e
  omega
def spDArr : Sp := fun vs H Q _ => ∃ (x v w : V) (z nm : Str) (o : PyData) (r : List Str) (args : List PyData), vs = [x, v, .str z, w] ∧ Dat H x (.tuple [.str "arrangement", o]) ∧ Dat H v (srowD r) ∧ Dat H w (.tuple args) ∧ orderB 6 o = true ∧ r.Perm (namesN 6 o) ∧ r.length ≤ 100 ∧ ArrAsk r z args nm ∧ ∀ u H', Same H H' → Dat H' u (ansA o r z nm) → Q u H'
abbrev s_darr : Stmt := top 10
section
variable {P : Program} {w : World} {K : PySem.W.Frag} {mg : Str → Option Value} {base : Heap}
abbrev ND : List Str := ["part", "item", "word", "arguments", "name", "place", "earlier", "turns", "other", "order", "index", "before", "_"]
theorem sc_darr : FnScope ND ["part", "item", "word", "arguments"] (defScope s_darr) := ⟨rfl, rfl, rfl, by decide +kernel, rfl, by decide +kernel, by decide +kernel⟩
theorem ok_darr {f fN fP fC : Addr} {fd fdN fdP fdC : FuncData} (F : Fun K "describe_arrangement" "describe_arrangement" s_darr f fd) (T : Nm mg) (Tr : mg "reversed" = none) (D_names : DefOk K mg "names_of" sNames ["order"] fN fdN) (D_pars : DefOk K mg "parallels_of" s_pars ["order", "name"] fP fdP) (D_cnt : DefOk K mg "count_among" s_cntA ["order", "names"] fC fdC) : FnOk P w K mg base CX0 15 f fd ["part", "item", "word", "arguments"] spDArr := by
  have G_pars : FnOk P w K mg base CX0 14 fP fdP ["order", "name"] (spPars 6) := ok_pars D_pars.F D_pars.b D_pars.g T D_names 6
  have G_cnt : FnOk P w K mg base CX0 8 fC fdC ["order", "names"] spCntA := ok_cntA D_cnt.F T D_names
  refine F.ok sc_darr (fun vs H Q E h => ?_) (fun cdv A outer s H vs Q E hr h => ?_)
  · obtain ⟨x, v, w', z, nm, o, r, args, rfl, _⟩ := h
    rfl
  · obtain ⟨x, v, w', z, nm, o, r, args, rfl, hx, hv, hw, ho, hp, hrl, ha, q⟩ := h
    have hu1 := units1 hr
    have hr8 : Room 8 _ := hr.mono (by omega)
    refine ⟨_, (pss_cons (ps_set (i := 4) sc_darr.nd rfl (Or.inl rfl) (pe_ifExp (pt_cmpR op_eq (pv 2) pe_str (nomark _)) (pe_ix ix_tup (pv 1) (pe_ix ix_tup (pv 3) pe_int (fun _ _ => rfl)) (fun _ _ => rfl)) (pe_ix ix_tup (pv 3) pe_int (fun _ _ => rfl))))
      (pss_cons (ps_set (i := 5) sc_darr.nd rfl (Or.inl rfl) (pe_bmF PySem.F.plainAttrs_tuple PySem.F.slot_tuple_index PySem.F.type_tuple_index mt_tup_index (pv 1) (pa_cons (pv 4) pa_nil)))
      (pss_cons (ps_set (i := 6) sc_darr.nd rfl (Or.inr rfl) (pe_dc (own := [("other", 8)]) (g := (gName 8)) (tt := tYes) (tk := tVar 8) (tv := tC (.bl true)) rfl sc_darr.nd (pi_tup (pe_slice sl_tupF (pv 1) po_none (po_some (pv 5)))) (blkOk_by (N := ND) (sc := defScope s_darr) (by decide +kernel))
          (fun _ _ _ _ _ => (pg_name (i := 8) sc_darr.nd rfl (Or.inl rfl))) (fun _ _ _ _ _ => pts_nil) (fun _ _ _ _ _ => (pv 8)) (fun _ _ _ _ _ => pe_bl)))
      (pss_cons (ps_setLc (i := 7) (own := [("order", 9), ("index", 10)]) (g := (gTup K 2 (gCons (gName 9) (gCons (gName 10) gNil)))) (tt := tYes) (te := tTupF (tCons (tCall spCntA [] L2.E0 (tCons (tVar 9) (tCons (tVar 6) tNil))) (tCons (tVar 10) tNil))) rfl sc_darr.nd rfl rfl (sw_true rfl rfl rfl (by decide +kernel)) (pi_list (pe_call G_pars hr rfl D_pars.g D_pars.F.kp D_pars.b .nil pass0 (pa_cons (pe_ix ix_tup (pv 0) pe_int (fun _ _ => rfl)) (pa_cons (pv 4) pa_nil)))) (blkOk_by (N := ND) (sc := defScope s_darr) (by decide +kernel))
          (fun _ _ _ _ _ => (pg_tup rfl (pgs_cons (pg_name (i := 9) sc_darr.nd rfl (Or.inl rfl)) (pgs_cons (pg_name (i := 10) sc_darr.nd rfl (Or.inl rfl)) pgs_nil)))) (fun _ _ _ _ _ => pts_nil) (fun _ _ _ _ _ => (pe_tupF (pa_cons (pe_call G_cnt hr8 rfl D_cnt.g D_cnt.F.kp D_cnt.b .nil pass0 (pa_cons (pv 9) (pa_cons (pv 6) pa_nil))) (pa_cons (pv 10) pa_nil)))))
      (pss_cons (ps_if (pt_cmpR op_eq (pv 2) pe_str (nomark _))
        (pss_one (ps_ret (pe_tupF (pa_cons (pe_callTy call_tupF (by rfl) T.tuple (by decide +kernel) (pa_cons (pv 7) pa_nil)) (pa_cons (pv 4) pa_nil)))))
        pss_nil)
      (pss_one (ps_ret (pe_tupF (pa_cons (pe_callTy call_tupF (by rfl) T.tuple (by decide +kernel) (pa_cons (pe_lc (own := [("before", 11), ("_", 12)]) (g := (gTup K 2 (gCons (gName 11) (gCons (gName 12) gNil)))) (tt := tYes) (te := tTupF (tCons (tCB (rSumT K) (tCons (tVar 11) tNil)) (tCons (tVar 11) tNil))) rfl sc_darr.nd (pi_reversed (by rfl) Tr (pa_cons (pv 7) pa_nil)) (blkOk_by (N := ND) (sc := defScope s_darr) (by decide +kernel))
          (fun _ _ _ _ _ => (pg_tup rfl (pgs_cons (pg_name (i := 11) sc_darr.nd rfl (Or.inl rfl)) (pgs_cons (pg_name (i := 12) sc_darr.nd rfl (Or.inl rfl)) pgs_nil)))) (fun _ _ _ _ _ => pts_nil) (fun _ _ _ _ _ => (pe_tupF (pa_cons (pe_callB (cr_sumT rfl) (by rfl) T.sum boot_sum (pa_cons (pv 11) pa_nil)) (pa_cons (pv 11) pa_nil))))) pa_nil)) (pa_cons (pv 5) pa_nil)))))))))), ?_⟩
    have hnm : nm ∈ r ∧ ((z = "entry" ∧ ∃ (i : Nat) (h : i < r.length), args = [.int (i : Nat)] ∧ nm = r[i]) ∨ (z = "locate" ∧ args = [.str nm])) := by
      cases ha with
      | entry i h => exact ⟨List.getElem_mem h, .inl ⟨rfl, i, h, rfl, rfl⟩⟩
      | locate _ h => exact ⟨h, .inr ⟨rfl, rfl⟩⟩
    obtain ⟨hnm, hq⟩ := hnm
    have nOk := names_ok 6 o ho
    have sh : ∀ y ∈ r, y.length ≤ 1000 := fun y hy => name_short (nOk y (hp.mem_iff.mp hy))
    have hzl : z.length ≤ 1000 := by
      rcases hq with ⟨rfl, _⟩ | ⟨rfl, _⟩ <;> decide
    have E0 : EnvOk [(0, .tuple [.str "arrangement", o]), (1, srowD r), (2, .str z), (3, .tuple args)] [some x, some v, some (.str z), some w', none, none, none, none, none, none, none, none, none] H := fun p hp => by
      simp only [List.mem_cons, List.not_mem_nil, or_false] at hp
      rcases hp with rfl | rfl | rfl | rfl
      · exact ⟨_, rfl, hx⟩
      · exact ⟨_, rfl, hv⟩
      · exact ⟨_, rfl, .str _ hzl⟩
      · exact ⟨_, rfl, hw⟩
    have M1 : ∀ {G : List (Nat × PyData)}, (1, srowD r) ∈ G → Mk G (tVar 1) (.tuple (strsD r)) := fun h => mk_var h
    -- name
    have MN : Mk [(0, .tuple [.str "arrangement", o]), (1, srowD r), (2, .str z), (3, .tuple args)] (tIf (tTest (tOp rEq (tVar 2) (tC (.str "entry")))) (tOp (rIxT K) (tVar 1) (tOp (rIxT K) (tVar 3) (tC (.int 0)))) (tOp (rIxT K) (tVar 3) (tC (.int 0)))) (.str nm) := by
      rcases hq with ⟨rfl, i, h, rfl, rfl⟩ | ⟨rfl, rfl⟩
      · exact mk_ifT (mkt (mk_eqS (a := "entry") (mk_var (i := 2) (by simp)) (mk_str (by decide)) (decide_eq_true rfl))) (mk_ixTn (K := K) (j := i) (M1 (by simp)) (mk_ixT (K := K) (ds := [.int (i : Nat)]) (j := 0) (mk_var (i := 3) (by simp)) rfl rfl) (by unfold strsD; rw [List.getElem?_map, List.getElem?_eq_getElem h]; rfl))
      · exact mk_ifF (mkt (mk_eqS (a := "locate") (mk_var (i := 2) (by simp)) (mk_str (by decide)) (decide_eq_false (by decide)))) (mk_ixT (K := K) (ds := [.str nm]) (j := 0) (mk_var (i := 3) (by simp)) rfl rfl)
    refine sq_set MN E0 rfl (by show 4 < 13; decide) fun v4 H1 S1 E1 => ?_
    obtain ⟨u4, hu4, du4⟩ := E1 (4, .str nm) List.mem_cons_self
    obtain rfl := dat_strV du4
    have hv4 : v4 = .str nm := Option.some.inj (Option.some.inj hu4)
    subst hv4
    obtain ⟨u1, hu1', du1⟩ := E1 (1, srowD r) (by simp)
    have hu1v : u1 = v := (Option.some.inj (Option.some.inj hu1')).symm
    subst hu1v
    obtain ⟨a1, xs1, rfl, ha1, hx1⟩ := dat_tup du1
    obtain rfl := dat_strs (ns := r) hx1
    obtain ⟨i1, i2, i3⟩ := idx_firstS hnm
    -- place
    refine sq_anyX ⟨_, rfl, fz_dat du1, _, rfl, a1, r, nm, r.idxOf nm, rfl, rfl, sqT_rd ha1, i1, i3, ?_⟩
    have E2 : EnvOk [(5, .int (r.idxOf nm : Nat)), (4, .str nm), (0, .tuple [.str "arrangement", o]), (1, srowD r), (2, .str z), (3, .tuple args)] [some x, some (.ref a1), some (.str z), some w', some (.str nm), some (.int (r.idxOf nm : Nat)), none, none, none, none, none, none, none] H1 := fun p hp => by
      rcases List.mem_cons.mp hp with rfl | hp
      · exact ⟨_, rfl, .int _⟩
      · obtain ⟨u, hu, du⟩ := E1 p hp
        refine ⟨u, ?_, du⟩
        simp only [List.mem_cons, List.not_mem_nil, or_false] at hp
        rcases hp with rfl | rfl | rfl | rfl | rfl <;> exact hu
    -- earlier
    refine sq_anyX ?_
    refine slf_to ⟨_, rfl, ⟨_, rfl, _, rfl, slAny_of ha1 fun b H2 S2 hb => ?_⟩⟩
    rw [cutV_to, ← List.map_take] at hb
    obtain ⟨ea, hea⟩ : ∃ ea, ea = r.take (r.idxOf nm) := ⟨_, rfl⟩
    rw [← hea] at hb
    have lea : ea.length ≤ 100 := by rw [hea, List.length_take]; omega
    refine ⟨b, rfl, ⟨_, sqT_rd hb⟩, fun D nD => dc_tup (K := K) (xs := ea.map V.str) (fun i Hz => Same H2 Hz ∧ ∃ kvs : Kvs, Hz D = some (.dK kvs) ∧ kvs.length ≤ i ∧ KeysAre kvs (ea.take i)) ⟨same_new nD, [], upd_same, Nat.le_refl _, fun y => by rw [List.take_zero]; rfl⟩ (fun i Hz _ h => sqT_rd (upR hb h.1)) ?_ ?_⟩
    · rintro i y Hz hy ⟨SH, kvs, hD, hl, hk⟩
      rw [List.getElem?_map] at hy
      obtain ⟨c, hc, rfl⟩ := Option.map_eq_some_iff.mp hy
      have hil := (List.getElem?_eq_some_iff.mp hc).1
      refine ⟨wipe_one, ?_⟩
      dsimp only [tYes]
      refine if_t rfl ⟨_, rfl, kvs, .inr c, rfl, hD, by rw [sizeLine_eq]; omega, same_upd nD SH, _, upd_same, Nat.le_trans (putK_le kvs _ _) (by omega), fun y => ?_⟩
      rw [valV_put, take_sub hc]
      by_cases e : (.inr y : Key) = .inr c
      · have e' := Sum.inr.inj e
        subst e'
        rw [if_pos rfl]
        simp
      · rw [if_neg e, hk y]
        have e' : ¬ y = c := fun z => e (by rw [z])
        simp [e']
    · rintro H3 ⟨S3, kvs, hD, hl, hk⟩
      rw [List.length_map, List.take_length] at hk
      have S23 := S2.trans S3
      -- turns
      have E3 : EnvOk [(5, .int (r.idxOf nm : Nat)), (4, .str nm), (0, .tuple [.str "arrangement", o]), (1, srowD r), (2, .str z), (3, .tuple args)] [some x, some (.ref a1), some (.str z), some w', some (.str nm), some (.int (r.idxOf nm : Nat)), some (.ref D), none, none, none, none, none, none] H3 := fun p hp => by
        obtain ⟨u, hu, du⟩ := E2 p hp
        refine ⟨u, ?_, du.same S23⟩
        simp only [List.mem_cons, List.not_mem_nil, or_false] at hp
        rcases hp with rfl | rfl | rfl | rfl | rfl | rfl <;> exact hu
      have lP := pars_len nm 6 o
      refine sq_anyX (lc_toldL (K := K) (g := parD) (f := fun p => stpD ((kidsOf p.1).map (cntE ea), p.2)) (rs := parsM nm 6 o) (fun Q kq => ?_) (by omega) (fun p hpm y H4 Q2 Q3 S4 dy kq => ?_) (fun p _ => ?_) fun L zs H4 n4 S4 e4 d4 => ?_)
      · refine call_2 (mk_ixT (K := K) (ds := [.str "arrangement", o]) (j := 1) (d := o) (mk_var (i := 0) (by simp)) rfl rfl _ H3 _ E3 fun u H4 S4 d4 => ⟨_, rfl, u, o, nm, rfl, Nat.le_refl _, d4, ho, hp.mem_iff.mp hnm, order_noL 6 o ho, sh nm hnm, fun L zs ds H5 n5 S5 e5 d5 h5 => kq L zs H5 (S4.trans S5) e5 (by rw [← h5]; exact d5)⟩)
      · obtain ⟨es, e1, e2, e3, e4⟩ := pars_ok nm 6 o ho (Nat.le_refl _) p hpm
        obtain ⟨b0, ys, rfl, hb0, hys⟩ := dat_tup dy
        obtain ⟨y0, y1, rfl, c0, c1⟩ := dat_two hys
        obtain rfl := dat_isInt c1
        refine ⟨b0, _, rfl, sqT_rd hb0, rfl, y0, _, rfl, _, _, rfl, rfl, rfl, ?_⟩
        dsimp only [tYes]
        rw [e1] at c0
        have ek : kidsOf p.1 = es := by rw [e1]; rfl
        rw [ek] at kq
        refine if_t rfl ⟨_, rfl, _, rfl, y0, D, "parallel", es, kvs, ea, rfl, c0, e2, e3, S4 _ _ hD, hk, fun u5 H5 S5 d5 => ⟨_, rfl, (by show 2 ≤ sizeLine; decide), fun l o2 nl no => ?_⟩⟩
        refine kq _ _ (S5.trans (same_new nl)) (.tup (TP.fz upd_same no) (.cons (d5.same (same_new nl)) (.cons (.int _) .nil)))
      · show (noLs (intsD _) && _) = true
        rw [ints_noL]
        rfl
      · have eS : ((parsM nm 6 o).map fun p => stpD ((kidsOf p.1).map (cntE ea), p.2)) = (stepsM ea nm 6 o).map stpD := by
          unfold stepsM
          rw [List.map_map]
          rfl
        rw [eS] at d4
        have ST := (S1.trans S23).trans S4
        have E4 : EnvOk [(7, .list ((stepsM ea nm 6 o).map stpD)), (5, .int (r.idxOf nm : Nat)), (4, .str nm), (2, .str z)] [some x, some (.ref a1), some (.str z), some w', some (.str nm), some (.int (r.idxOf nm : Nat)), some (.ref D), some (.ref L), none, none, none, none, none] H4 := fun p hp => by
          rcases List.mem_cons.mp hp with rfl | hp
          · exact ⟨_, rfl, .lst e4 d4⟩
          · simp only [List.mem_cons, List.not_mem_nil, or_false] at hp
            rcases hp with rfl | rfl | rfl
            · exact ⟨_, rfl, .int _⟩
            · exact ⟨_, rfl, .str _ (sh nm hnm)⟩
            · exact ⟨_, rfl, .str _ hzl⟩
        have lS : (stepsM ea nm 6 o).length ≤ 6 := by unfold stepsM; rw [List.length_map]; exact lP
        by_cases hz : z = "entry"
        · refine sq_if1 (mkt (mk_eqS (a := z) (mk_var (i := 2) (by simp)) (mk_str (by decide)) (decide_eq_true (by rw [hz])))) E4 fun H5 S5 => ?_
          refine ret_ofX (mkn_tup (N := 13) (mksn_cons (mkn_tupL (K := K) (Mk.n (mk_var (i := 7) List.mem_cons_self))) (mksn_cons (Mk.n (mk_var (i := 4) (d := .str nm) (by simp))) mksn_nil)) (by show 2 ≤ 1000; decide) _ H5 _ rfl (E4.same S5) fun u H6 S6 d6 => q u H6 (ST.trans (S5.trans S6)) ?_)
          unfold ansA ansE
          rw [if_pos hz, ← hea]
          exact d6
        · refine sq_if0 (mkt (mk_eqS (a := z) (mk_var (i := 2) (by simp)) (mk_str (by decide)) (decide_eq_false (fun y => hz (V.str.inj y))))) E4 fun H5 S5 => ?_
          refine ret_ofX ?_
          -- the steps from the last to the first
          have L5 : H5 L = some (.lst zs) := S5 _ _ e4
          have d5 := d4.same S5
          have zl := d4.len
          rw [List.length_map] at zl
          refine cons_ofT (cb_1 ⟨_, rfl, L, zs, rfl, SqL.of L5, fun D2 nD2 => lc_it (walk_rev (K := K) (a := L) (xs := zs)) (fun i Hz => Gr H5 D2 (((stepsM ea nm 6 o).reverse.take i).map sumD) Hz) (by rw [List.take_zero]; exact Gr.start nD2) (fun i Hz _ g => SqL.of (g.2.1 _ _ L5)) ?_ ?_⟩)
          · rintro i y Hz Hy hi g ⟨rfl, hy⟩
            obtain ⟨d0, hd0, dy⟩ := d5.get hy
            rw [List.getElem?_map] at hd0
            obtain ⟨t0, ht0, rfl⟩ := Option.map_eq_some_iff.mp hd0
            obtain ⟨b0, ys, rfl, hb0, hys⟩ := dat_tup (dy.same g.2.1)
            obtain ⟨y0, y1, rfl, c0, c1⟩ := dat_two hys
            obtain rfl := dat_isInt c1
            obtain ⟨b1, ys1, rfl, hb1, hys1⟩ := dat_tup c0
            have ey := dat_intsV hys1
            have hrev : (stepsM ea nm 6 o).reverse[i]? = some t0 := by
              rw [List.getElem?_reverse (by omega), ← zl]
              exact ht0
            refine ⟨b0, _, rfl, sqT_rd hb0, rfl, .ref b1, _, rfl, _, _, rfl, rfl, rfl, ?_⟩
            dsimp only [tYes]
            refine if_t rfl ⟨_, rfl, b1, t0.1.map fun (x : Nat) => (x : Int), rfl, by rw [List.map_map]; rw [ey] at hb1; exact sqT_rd hb1, _, rfl, (by show 2 ≤ sizeLine; decide), fun l o2 nl no => ?_⟩
            have es : (t0.1.map fun (x : Nat) => (x : Int)).sum = ((t0.1.sum : Nat) : Int) := by
              have z : ∀ l : List Nat, (l.map fun (x : Nat) => (x : Int)).sum = ((l.sum : Nat) : Int) := fun l => by
                induction l with
                | nil => rfl
                | cons a l ih => rw [List.map_cons, List.sum_cons, ih, List.sum_cons]; omega
              exact z _
            rw [es]
            obtain ⟨zs2, hL2, hzl2, _, g'⟩ := g.add (same_new nl) (.cons (d := sumD t0) (.tup (TP.fz upd_same no) (.cons (.int _) (.cons (c0.same (same_new nl)) .nil))) .nil) (by show (noL (.tuple [.int _, .tuple (intsD t0.1)]) && true) = true; show ((true && (noLs (intsD t0.1) && true)) && true) = true; rw [ints_noL]; rfl)
            rw [List.length_map, List.length_take] at hzl2
            refine ⟨zs2, hL2, by rw [List.length_reverse] at hzl2; rw [sizeLine_eq]; omega, ?_⟩
            rw [take_sub hrev, List.map_append]
            exact g'
          · rintro Hz g
            rw [zl, ← List.length_reverse, List.take_length] at g
            obtain ⟨zs2, H0, n0, S0, S2', e, d⟩ := gr_out g
            have S5z := (ST.trans S5).trans (S0.trans S2')
            refine ⟨D2, zs2, rfl, SqL.of e, fun l o2 nl no => ⟨_, rfl, (by show 2 ≤ sizeLine; decide), fun l3 o3 n3 no3 => ?_⟩⟩
            refine q _ _ (S5z.trans ((same_new nl).trans (same_new n3))) ?_
            unfold ansA ansLc
            rw [if_neg hz, ← hea]
            exact .tup (TP.fz upd_same no3) (.cons (Dat.same (same_new n3) (.tup (TP.fz upd_same no) ((d.same S2').same (same_new nl)))) (.cons (.int _) .nil))
end
end KB
set_option maxRecDepth 100000
set_option maxHeartbeats 8000000
namespace KB
open PySem PySem.Spec PyProof.Rows L2
/-! ### the law's steps -/
def cntB (before : List Str) (e : PyData) : Nat := (before.filter fun z => decide (z ∈ namesN 6 e)).length
def stepsLM (nm : Str) : Nat → PyData → List Str → List (List Nat × Nat)
  | 0, _, _ => []
  | n + 1, d, row => if wordOf d = "item" then [] else
      (if wordOf d = "parallel" then [((kidsOf d).map (cntB (row.take (row.idxOf nm))), (kidsOf d).findIdx (inE nm))] else [])
        ++ stepsLM nm n ((kidsOf d).getD ((kidsOf d).findIdx (inE nm)) .none) (row.filter fun z => decide (z ∈ namesN 6 ((kidsOf d).getD ((kidsOf d).findIdx (inE nm)) .none)))
theorem stepsL_len (nm : Str) : ∀ (n : Nat) (d : PyData) (row : List Str), (stepsLM nm n d row).length ≤ n
  | 0, _, _ => Nat.le_refl _
  | n + 1, d, row => by
    rw [stepsLM]
    split
    · exact Nat.zero_le _
    · rw [List.length_append]
      have := stepsL_len nm n ((kidsOf d).getD ((kidsOf d).findIdx (inE nm)) .none) (row.filter fun z => decide (z ∈ namesN 6 ((kidsOf d).getD ((kidsOf d).findIdx (inE nm)) .none)))
      split
      · simp only [List.length_cons, List.length_nil]
        omega
      · simp only [List.length_nil]
        omega
theorem first_filter {n j : Nat} {p : Nat → Bool} (h : j < n) (hp : p j = true) (hb : ∀ m, m < j → p m = false) : ((List.range n).filter p)[0]? = some j := by
  have e : List.range n = List.range j ++ j :: (List.range n).drop (j + 1) := by
    have e1 : (List.range n).take j = List.range j := by rw [List.take_range, Nat.min_eq_left (by omega)]
    have e2 : (List.range n).drop j = j :: (List.range n).drop (j + 1) := by
      rw [List.drop_eq_getElem_cons (by rw [List.length_range]; exact h), List.getElem_range]
    rw [← e1, ← e2, List.take_append_drop]
  rw [e, List.filter_append, List.filter_eq_nil_iff.mpr (fun m hm => by rw [hb m (List.mem_range.mp hm)]; exact Bool.false_ne_true), List.nil_append, List.filter_cons_of_pos hp]
  rfl
theorem paired_impM {α β : Type} {R S : α → β → Prop} : ∀ {as : List α} {bs : List β}, (∀ a ∈ as, ∀ b, R a b → S a b) → Paired R as bs → Paired S as bs
  | _, _, _, .nil => .nil
  | _, _, h, .cons a t => .cons (h _ List.mem_cons_self _ a) (paired_impM (fun x hx b r => h x (List.mem_cons_of_mem _ hx) b r) t)
theorem wipe_two {σ : L2.St} {i k : Nat} {x y : V} (hik : i ≠ k) : wipe (((wipe σ [i, k]).set i (some x)).set k (some y)) [i, k] = wipe σ [i, k] := by
  show ((((((σ.set k none).set i none).set i (some x)).set k (some y)).set k none).set i none) = (σ.set k none).set i none
  rw [List.set_set, List.set_set, List.set_comm _ _ hik]
  simp only [List.set_set]
theorem st_appR {G : List (Nat × PyData)} {Hi : Hp} {i : Nat} {d : PyData} {ds : List PyData} {σ : L2.St} {H : Hp} {t : TE} {K : PySem.W.Frag} {Q : VK} (S : ST Hi G i ds σ H) (M : ∀ Q : VK, (∀ (v : V) (H1 : Hp), Same H H1 → Dat H1 v d → Q v H1) → t σ H Q) (hf : noL d = true) (hl : ds.length ≤ 1000)
    (kk : ∀ H' : Hp, ST Hi G i (ds ++ [d]) σ H' → (∀ (L b : Addr) (o : HO), σ[i]? = some (some (.ref L)) → b ≠ L → H b = some o → H' b = some o) → Q .non H') : tBM K "list" rAppend (tVar i) (tCons t tNil) σ H Q := by
  obtain ⟨L, zs, H0, h1, h2, h3, h4, h5, h6, h7⟩ := S
  refine ⟨_, h1, .inl ⟨rfl, _, SqL.of h2⟩, M _ fun v H1 S1 d1 => ?_⟩
  have lz := h6.len
  have hL := S1 _ _ h2
  have T := noR_same h3 (h5.trans S1)
  refine ⟨L, zs, v, rfl, rfl, hL, by rw [lz, sizeLine_eq]; omega, kk _ ⟨L, zs ++ [v], noR L H1, h1, upd_same, if_pos rfl, h4.trans T, noR_to, datAll_append (h6.same T) (.cons (dat_noL hL hf d1) .nil), h7.same T⟩ fun L' b o e hb ho => ?_⟩
  rw [h1] at e
  cases e
  rw [upd_ne hb]
  exact S1 _ _ ho
theorem consA_of {t : TE} {u : TA} {σ : L2.St} {H : Hp} {Q : List V → Hp → Prop} (h : t σ H fun v H1 => u σ H1 fun vs H2 => Q (v :: vs) H2) : tCons t u σ H Q := h
theorem ifs_of {c : TT} {t u : TS} {D : Ends} {σ : L2.St} {H : Hp} (h : c σ H fun b H1 => if b = true then t D σ H1 else u D σ H1) : tIfS c t u D σ H := h
theorem nx_of {i : Nat} {R : TS} {D : Ends} {σ : L2.St} {v : V} {H : Hp} (h : R D (σ.set i (some v)) H) : gName i v σ H (R D) := h
theorem par_of {i j : Nat} {ta : TA} {D : Ends} {σ : L2.St} {H : Hp} (h : ta σ H fun vs H1 => ∃ u v, vs = [u, v] ∧ D.nx ((σ.set i (some u)).set j (some v)) H1) : tPar i j ta D σ H := h
/-- lists of names at these addresses -/
abbrev NsAt (H : Hp) (as : List Addr) (es : List PyData) : Prop := Paired (fun (a : Addr) (e : PyData) => H a = some (.lst ((namesN 6 e).map V.str))) as es
def spSteps (n : Nat) : Sp := fun vs H Q _ => ∃ (v0 v1 : V) (d : PyData) (row : List Str) (nm : Str), vs = [v0, v1, .str nm] ∧ n ≤ 6 ∧ Dat H v0 d ∧ Dat H v1 (srowD row) ∧ orderB n d = true ∧ nm ∈ namesN 6 d ∧ nm ∈ row ∧ row.length ≤ 100 ∧ (∀ z ∈ row, z.length ≤ 1000) ∧ Fresh H Q (fun ds => ds = (stepsLM nm n d row).map stpD)
abbrev s_steps : Stmt := top 38
abbrev scS4 : Scope := { kind := .function, names := [(".0", .local), ("_law_own", .cell), ("len", .globalImplicit), ("_law_before", .cell)], isGenerator := false, isCoroutine := false, more := [] }
section
variable {P : Program} {w : World} {K : PySem.W.Frag} {mg : Str → Option Value} {base : Heap}
abbrev NS : List Str := ["_law_order_here", "_law_row", "_law_name", "_law_found", "_law_parts", "_law_at", "_law_before", "_law_part", "_law_k", "_law_own", "_law_one"]
theorem sc_steps : FnScope NS ["_law_order_here", "_law_row", "_law_name"] (defScope s_steps) := ⟨rfl, rfl, rfl, by decide +kernel, rfl, by decide +kernel, by decide +kernel⟩
/-- what stands at each turn of the while -/
structure StI (nm : Str) (Hi : Hp) (tot : List (List Nat × Nat)) (m : Nat) (σ : L2.St) (H : Hp) : Prop where
  N : σ.length = 11
  x : ∃ (d : PyData) (row : List Str) (acc : List (List Nat × Nat)), ST Hi [(0, d), (1, srowD row), (2, .str nm)] 3 (acc.map stpD) σ H ∧ orderB m d = true ∧ m ≤ 6 ∧ nm ∈ namesN 6 d ∧ nm ∈ row ∧ row.length ≤ 100 ∧ (∀ z ∈ row, z.length ≤ 1000) ∧ acc ++ stepsLM nm m d row = tot ∧ acc.length ≤ 6
theorem okl_steps {f fN : Addr} {fd fdN : FuncData} (F : Fun K "_law_steps" "_law_steps" s_steps f fd) (T : Nm mg) (D_lnames : DefOk K mg "_law_names" s_names ["_law_order_here"] fN fdN) (n : Nat) : FnOk P w K mg base CX0 8 f fd ["_law_order_here", "_law_row", "_law_name"] (spSteps n) := by
  have G_lnames : FnOk P w K mg base CX0 7 fN fdN ["_law_order_here"] (spNames 6) := okl_names D_lnames.F D_lnames.b D_lnames.g 6
  refine F.ok sc_steps (fun vs H Q E h => ?_) (fun cdv A outer s H vs Q E hr h => ?_)
  · obtain ⟨v0, v1, d, row, nm, rfl, _⟩ := h
    rfl
  · obtain ⟨v0, v1, d, row, nm, rfl, h6, hd, hv1, ho, hnd, hnr, hrl, hsh, q⟩ := h
    refine ⟨_, (pss_cons (ps_set (i := 3) sc_steps.nd rfl (Or.inl rfl) (pe_lst pa_nil))
      (pss_cons (ps_while PassesOwn.never (pt_cmpR op_ne (pe_ix ix_tup (pv 0) pe_int (fun _ _ => rfl)) pe_str (nomark _))
        (pss_cons (ps_set (i := 4) sc_steps.nd rfl (Or.inr rfl) (pe_lc (own := [("_law_part", 7)]) (g := (gName 7)) (tt := tYes) (te := tCall (spNames 6) [] L2.E0 (tCons (tVar 7) tNil)) rfl sc_steps.nd (pi_tup (pe_ix ix_tup (pv 0) pe_int (fun _ _ => rfl))) (blkOk_by (N := NS) (sc := defScope s_steps) (by decide +kernel))
          (fun _ _ _ _ _ => (pg_name (i := 7) sc_steps.nd rfl (Or.inl rfl))) (fun _ _ _ _ _ => pts_nil) (fun _ _ _ _ _ => (pe_call G_lnames hr rfl D_lnames.g D_lnames.F.kp D_lnames.b .nil pass0 (pa_cons (pv 7) pa_nil)))))
        (pss_cons (ps_set (i := 5) sc_steps.nd rfl (Or.inr rfl) (pe_ix ix_list (pe_lc (own := [("_law_k", 8), ("_law_own", 9)]) (g := (gTup K 2 (gCons (gName 8) (gCons (gName 9) gNil)))) (tt := tTest (tOp (rIn K false) (tVar 2) (tVar 9))) (te := tVar 8) rfl sc_steps.nd (pi_enum (by rfl) T.enumerate (pa_cons (pv 4) pa_nil)) (blkOk_by (N := NS) (sc := defScope s_steps) (by decide +kernel))
          (fun _ _ _ _ _ => (pg_tup rfl (pgs_cons (pg_name (i := 8) sc_steps.nd rfl (Or.inl rfl)) (pgs_cons (pg_name (i := 9) sc_steps.nd rfl (Or.inl rfl)) pgs_nil)))) (fun _ _ _ _ _ => pts_one (pt_cmpR op_in_seq (pv 2) (pv 9) rfl)) (fun _ _ _ _ _ => (pv 8))) pe_int (fun _ _ => rfl)))
        (pss_cons (ps_set (i := 6) sc_steps.nd rfl (Or.inr rfl) (pe_slice sl_tupF (pv 1) po_none (po_some (pe_bmF PySem.F.plainAttrs_tuple PySem.F.slot_tuple_index PySem.F.type_tuple_index mt_tup_index (pv 1) (pa_cons (pv 2) pa_nil)))))
        (C8.pss_cut (ps_if (pt_cmpR op_eq (pe_ix ix_tup (pv 0) pe_int (fun _ _ => rfl)) pe_str (nomark _))
          (pss_one (ps_expr (pe_bm PySem.F.plainAttrs_list PySem.F.slot_list_append PySem.F.type_list_append mt_append (pv 3) (pa_cons (pe_tupF (pa_cons (pe_callTy call_tupF (by rfl) T.tuple (by decide +kernel) (pa_cons (pe_lc (own := [("_law_own", 9)]) (g := (gName 9)) (tt := tYes) (te := tCB (rLenS K) (tCons (tLc (iTup K (tVar 6)) (gName 10) (tTest (tOp (rIn K false) (tVar 10) (tVar 9))) (tVar 10) [10]) tNil)) rfl sc_steps.nd (pi_list (pv 4)) (blkOk_by (N := NS) (sc := defScope s_steps) (by decide +kernel))
          (fun _ _ _ _ _ => (pg_name (i := 9) sc_steps.nd rfl (Or.inr rfl))) (fun _ _ _ _ _ => pts_nil) (fun _ _ _ _ _ => (pe_callB cr_lenS (by rfl) T.len PySem.boot_len (pa_cons (pe_lc (own := [("_law_one", 10)]) (g := (gName 10)) (tt := tTest (tOp (rIn K false) (tVar 10) (tVar 9))) (te := tVar 10) rfl sc_steps.nd (pi_tup (pv 6)) (blkOk_by (N := NS) (sc := scS4) (by decide +kernel))
          (fun _ _ _ _ _ => (pg_name (i := 10) sc_steps.nd rfl (Or.inl rfl))) (fun _ _ _ _ _ => pts_one (pt_cmpR op_in_seq (pv 10) (pv 9) rfl)) (fun _ _ _ _ _ => (pv 10))) pa_nil)))) pa_nil)) (pa_cons (pv 5) pa_nil))) pa_nil))))
          pss_nil)
        (pss_one (ps_par (i := 1) (j := 0) rfl sc_steps.nd rfl rfl (by decide) rfl rfl (pa_cons (pe_callTy call_tupF (by rfl) T.tuple (by decide +kernel) (pa_cons (pe_lc (own := [("_law_one", 10)]) (g := (gName 10)) (tt := tTest (tOp (rIn K false) (tVar 10) (tOp (rIxL K) (tVar 4) (tVar 5)))) (te := tVar 10) rfl sc_steps.nd (pi_tup (pv 1)) (blkOk_by (N := NS) (sc := defScope s_steps) (by decide +kernel))
          (fun _ _ _ _ _ => (pg_name (i := 10) sc_steps.nd rfl (Or.inl rfl))) (fun _ _ _ _ _ => pts_one (pt_cmpR op_in_seq (pv 10) (pe_ix ix_list (pv 4) (pv 5) (fun _ _ => rfl)) rfl)) (fun _ _ _ _ _ => (pv 10))) pa_nil)) (pa_cons (pe_ix ix_tup (pe_ix ix_tup (pv 0) pe_int (fun _ _ => rfl)) (pv 5) (fun _ _ => rfl)) pa_nil)) (by rfl))))))))
      (pss_one (ps_ret (pv 3))))), ?_⟩
    have hnl := hsh nm hnr
    have E0 : EnvOk [(0, d), (1, srowD row), (2, .str nm)] [some v0, some v1, some (.str nm), none, none, none, none, none, none, none, none] H := fun p hp => by
      simp only [List.mem_cons, List.not_mem_nil, or_false] at hp
      rcases hp with rfl | rfl | rfl
      · exact ⟨_, rfl, hd⟩
      · exact ⟨_, rfl, hv1⟩
      · exact ⟨_, rfl, .str _ hnl⟩
    refine sq_new E0 (Same.refl H) mks_nil (by decide) (ne_of rfl) (by show 3 < 11; decide) fun p0 H0 S0 => ?_
    refine sq_of ⟨fun m σ Hx => StI nm H (stepsLM nm n d row) m σ Hx, ⟨n, rfl, d, row, [], S0, ho, h6, hnd, hnr, hrl, hsh, rfl, Nat.zero_le _⟩, ?_⟩
    rintro m σ Hx ⟨IN, d1, row1, acc, S1, ho1, hm6, hnd1, hnr1, hrl1, hsh1, htot, hacc⟩
    cases m with
    | zero => exact Bool.noConfusion ((show false = true from ho1) : false = true)
    | succ m =>
      rcases order_view ho1 with ⟨z, rfl, hz, en⟩ | ⟨wd, es, hw, rfl, l2, l6, hes, en⟩
      · refine tst_opX (mk_ixT (K := K) (ds := [.str "item", .str z]) (j := 0) (d := .str "item") (mk_var (G := [(0, itemD z), (1, srowD row1), (2, .str nm)]) (i := 0) (by simp [itemD])) rfl rfl σ Hx _ S1.env fun u H2 S2 d2 => ?_)
        obtain rfl := dat_strV d2
        refine ⟨rfl, _, rfl, if_f (by rw [decide_eq_true rfl]; rfl) ?_⟩
        refine rt_st (S1.next S2) fun L zs n0 S e d' => q L zs _ H2 n0 S e d' ?_
        rw [← htot, stepsLM, if_pos (show wordOf (itemD z) = "item" from rfl), List.append_nil]
      · have hwl : wd.length ≤ 1000 := by rcases hw with rfl | rfl <;> decide
        refine tst_opX (mk_ixT (K := K) (ds := [.str wd, .tuple es]) (j := 0) (d := .str wd) (mk_var (G := [(0, joinD wd es), (1, srowD row1), (2, .str nm)]) (i := 0) (by simp [joinD])) rfl rfl σ Hx _ S1.env fun u H2 S2 d2 => ?_)
        obtain rfl := dat_strV d2
        refine ⟨rfl, _, rfl, if_t (by rw [decide_eq_false (by rcases hw with rfl | rfl <;> decide)]; rfl) ⟨fun σ' H' => StI nm H (stepsLM nm n d row) m σ' H', fun σ' H' h => ⟨m, Nat.lt_succ_self m, h⟩, ?_⟩⟩
        have e6 := names_six hw hes l2 l6 hm6
        rw [e6] at hnd1
        obtain ⟨e, hei, hem, hne, hbef⟩ := find_kid hnd1
        obtain ⟨k, hk⟩ : ∃ k, k = es.findIdx (inE nm) := ⟨_, rfl⟩
        rw [← hk] at hei hbef
        have hkl := (List.getElem?_eq_some_iff.mp hei).1
        have eM : stepsLM nm (m + 1) (joinD wd es) row1 = (if wd = "parallel" then [(es.map (cntB (row1.take (row1.idxOf nm))), k)] else []) ++ stepsLM nm m e (row1.filter fun z => decide (z ∈ namesN 6 e)) := by
          have w1 : wordOf (joinD wd es) = wd := rfl
          have w2 : kidsOf (joinD wd es) = es := rfl
          rw [stepsLM, w1, w2, if_neg (by rcases hw with rfl | rfl <;> decide), ← hk, List.getD_eq_getElem?_getD, hei]
          rfl
        rw [eM] at htot
        have S2' := S1.next S2
        -- parts
        refine sq_anyX (mk_ixT (K := K) (ds := [.str wd, .tuple es]) (j := 1) (d := .tuple es) (mk_var (G := [(0, joinD wd es), (1, srowD row1), (2, .str nm)]) (i := 0) (by simp [joinD])) rfl rfl σ H2 _ S2'.env fun u3 H3 S3 d3 => ?_)
        obtain ⟨a, xs, rfl, ha, hx⟩ := dat_tup d3
        have hxl := hx.len
        refine ⟨a, rfl, ⟨_, sqT_rd ha⟩, fun PD nPD => lc_tup (K := K) (xs := xs) (fun j Hz => Same H3 Hz ∧ ∃ as : List Addr, Hz PD = some (.lst (as.map V.ref)) ∧ NsAt Hz as (es.take j) ∧ (∀ c ∈ as, H3 c = none ∧ c ≠ PD)) ⟨same_new nPD, [], upd_same, .nil, fun c hc => (by cases hc)⟩ (fun j Hz _ g => sqT_rd (upR ha g.1)) ?_ ?_⟩
        · rintro j y Hz hy ⟨SH, as, hPD, hN, hnew⟩
          obtain ⟨e', he', dy⟩ := hx.get hy
          have hjl := (List.getElem?_eq_some_iff.mp he').1
          refine ⟨wipe_one, ?_⟩
          dsimp only [tYes]
          refine if_t rfl ⟨_, List.getElem?_set_self (by show 7 < (List.set σ 7 none).length; rw [List.length_set, IN]; decide), y, e', rfl, Nat.le_refl _, dy.same SH, (order_six (hes e' (List.mem_of_getElem? he')) (by omega)).1, fun p H4 S4 n4 e4 => ?_⟩
          have hpP : p ≠ PD := fun z => by rw [z, hPD] at n4; cases n4
          have las := paired_lenX hN
          rw [List.length_take] at las
          refine ⟨_, S4 _ _ hPD, by rw [List.length_map, sizeLine_eq]; omega, same_upd nPD (SH.trans S4), as ++ [p], by rw [upd_same, List.map_append]; rfl, ?_, fun c hc => ?_⟩
          · rw [take_sub he']
            refine paired_app (paired_impM (fun c hc b hb => by rw [upd_ne (hnew c hc).2]; exact S4 _ _ hb) hN) (.cons (by rw [upd_ne hpP]; exact e4) .nil)
          · rcases List.mem_append.mp hc with h | h
            · exact hnew c h
            · rw [List.mem_singleton.mp h]
              exact ⟨none_back SH n4, hpP⟩
        · rintro H4 ⟨S4, as, hPD, hN, hnew⟩
          rw [hxl, List.take_length] at hN
          have las := paired_lenX hN
          have N4 : (σ.set 4 (some (V.ref PD))).length = 11 := by rw [List.length_set, IN]
          have S4' : ST H [(0, joinD wd es), (1, srowD row1), (2, .str nm)] 3 (acc.map stpD) (σ.set 4 (some (V.ref PD))) H4 := (S2'.next (S3.trans S4)).skip rfl (by decide)
          have s4 : (σ.set 4 (some (V.ref PD)))[4]? = some (some (.ref PD)) := List.getElem?_set_self (by rw [IN]; decide)
          obtain ⟨u2, s2, du2⟩ := S4'.env (2, .str nm) (by simp)
          obtain rfl := dat_strV du2
          -- at
          refine sq_anyX (op_ofX ⟨_, s4, PD, as.map V.ref, rfl, SqL.of hPD, fun D2 nD2 => lc_it (walk_enum (K := K) (a := PD) (xs := as.map V.ref)) (fun j Hz => Gr H4 D2 (intsD ((List.range j).filter fun i => inE nm (es.getD i .none))) Hz) (Gr.start nD2) (fun j Hz _ g => SqL.of (g.2.1 _ _ hPD)) ?_ ?_⟩)
          · rintro j x Hz Hy hj g ⟨T0, x0, y0, rfl, nT, rfl, e1, e2⟩
            cases e1
            replace e2 : (as.map V.ref)[j]? = some y0 := e2
            rw [List.getElem?_map] at e2
            obtain ⟨c, hc, rfl⟩ := Option.map_eq_some_iff.mp e2
            obtain ⟨e', he', hce⟩ := paired_at hN hc
            have hjl := (List.getElem?_eq_some_iff.mp he').1
            have g1 := g.same (same_new (o := HO.tup [.int (j : Nat), .ref c]) nT)
            have hce2 := (same_new (o := HO.tup [.int (j : Nat), .ref c]) nT) _ _ (g.2.1 _ _ hce)
            have ege : es.getD j .none = e' := by rw [List.getD_eq_getElem?_getD, he']; rfl
            refine ⟨T0, _, rfl, SqT.of upd_same, rfl, _, _, rfl, _, _, rfl, rfl, wipe_two (by decide), tst_opX ⟨.str nm, ?_, .ref c, ?_, c, _, rfl, .inl (SqL.of hce2), rfl, flat_strsV _, ?_⟩⟩
            · show ((((((σ.set 4 (some (V.ref PD))).set 9 none).set 8 none).set 8 (some (.int (j : Nat)))).set 9 (some (.ref c))))[2]? = _
              rw [List.getElem?_set_ne (by decide), List.getElem?_set_ne (by decide), List.getElem?_set_ne (by decide), List.getElem?_set_ne (by decide)]
              exact s2
            · exact List.getElem?_set_self (by show 9 < ((((σ.set 4 (some (V.ref PD))).set 9 none).set 8 none).set 8 (some (.int (j : Nat)))).length; rw [List.length_set, List.length_set, List.length_set, N4]; decide)
            · rw [if_neg Bool.false_ne_true, in_strs]
              refine ⟨_, rfl, ?_⟩
              have es2 : intsD ((List.range (j + 1)).filter fun i => inE nm (es.getD i .none)) = intsD ((List.range j).filter fun i => inE nm (es.getD i .none)) ++ (if inE nm (es.getD j .none) = true then [.int ((j : Nat) : Int)] else []) := filter_succ (f := fun (x : Nat) => PyData.int (x : Int)) (p := fun i => inE nm (es.getD i .none)) j
              rw [es2, ege]
              by_cases hp : inE nm e' = true
              · have hp' : decide (nm ∈ namesN 6 e') = true := hp
                rw [hp', if_pos rfl, if_pos hp]
                refine ⟨_, by rw [List.getElem?_set_ne (by decide)]; exact List.getElem?_set_self (by show 8 < (((σ.set 4 (some (V.ref PD))).set 9 none).set 8 none).length; rw [List.length_set, List.length_set, N4]; decide), ?_⟩
                obtain ⟨zs, hL, hzl, _, g'⟩ := g1.add (Same.refl _) (.cons (.int ((j : Nat) : Int)) .nil) rfl
                have hfl := List.length_filter_le (fun i => inE nm (es.getD i .none)) (List.range j)
                unfold intsD at hzl
                rw [List.length_map] at hzl
                rw [List.length_range] at hfl
                exact ⟨zs, hL, by rw [sizeLine_eq]; omega, g'⟩
              · have hp' : decide (nm ∈ namesN 6 e') = false := Bool.not_eq_true _ ▸ hp
                rw [hp', if_neg Bool.false_ne_true, if_neg hp, List.append_nil]
                exact g1
          · rintro H5 g
            rw [List.length_map, las] at g
            obtain ⟨zs, Hq, n0, Sq0, Sq2, eD, dz⟩ := gr_out g
            have S5 := Sq0.trans Sq2
            rw [dat_intsV dz] at eD
            have hfirst := first_filter (n := es.length) (j := k) (p := fun i => inE nm (es.getD i .none)) hkl (by rw [List.getD_eq_getElem?_getD, hei]; exact decide_eq_true hne) (fun i hi => by
              have hil : i < es.length := by omega
              rw [List.getD_eq_getElem?_getD, List.getElem?_eq_getElem hil]
              exact hbef i _ hi (List.getElem?_eq_getElem hil))
            refine ⟨D2, _, 0, .int (k : Nat), rfl, rfl, SqL.of eD, atI_nat (j := 0) (by rw [List.getElem?_map, hfirst]; rfl), ?_⟩
            have S5' : ST H [(0, joinD wd es), (1, srowD row1), (2, .str nm)] 3 (acc.map stpD) ((σ.set 4 (some (V.ref PD))).set 5 (some (.int (k : Nat)))) H5 := (S4'.next S5).skip rfl (by decide)
            have N5 : ((σ.set 4 (some (V.ref PD))).set 5 (some (V.int (k : Nat)))).length = 11 := by rw [List.length_set, N4]
            -- before
            obtain ⟨u1, s1, du1⟩ := S5'.env (1, srowD row1) (by simp)
            have fz1 := fz_dat du1
            obtain ⟨a1, xs1, rfl, ha1, hx1⟩ := dat_tup du1
            obtain rfl := dat_strs (ns := row1) hx1
            obtain ⟨u2', s2', du2'⟩ := S5'.env (2, .str nm) (by simp)
            obtain rfl := dat_strV du2'
            obtain ⟨i1, i2, i3⟩ := idx_firstS hnr1
            refine sq_anyX (slf_to ⟨_, s1, ⟨_, s1, fz1, _, s2', a1, row1, nm, row1.idxOf nm, rfl, rfl, sqT_rd ha1, i1, i3, ⟨_, rfl, slAny_of ha1 fun b H6 S6 hb => ?_⟩⟩⟩)
            rw [cutV_to, ← List.map_take] at hb
            obtain ⟨bf, hbf⟩ : ∃ bf, bf = row1.take (row1.idxOf nm) := ⟨_, rfl⟩
            rw [← hbf] at hb htot
            have hbl : bf.length ≤ 100 := by rw [hbf, List.length_take]; omega
            have hbs : ∀ z ∈ bf, z.length ≤ 1000 := fun z hz => hsh1 z (List.mem_of_mem_take (by rw [← hbf]; exact hz))
            have S6' : ST H [(0, joinD wd es), (1, srowD row1), (2, .str nm)] 3 (acc.map stpD) (((σ.set 4 (some (V.ref PD))).set 5 (some (.int (k : Nat)))).set 6 (some (.ref b))) H6 := (S5'.next S6).skip rfl (by decide)
            have N6 : (((σ.set 4 (some (V.ref PD))).set 5 (some (V.int (k : Nat)))).set 6 (some (V.ref b))).length = 11 := by rw [List.length_set, N5]
            have t4 : (((σ.set 4 (some (V.ref PD))).set 5 (some (V.int (k : Nat)))).set 6 (some (V.ref b)))[4]? = some (some (.ref PD)) := by rw [List.getElem?_set_ne (by decide), List.getElem?_set_ne (by decide)]; exact s4
            have t5 : (((σ.set 4 (some (V.ref PD))).set 5 (some (V.int (k : Nat)))).set 6 (some (V.ref b)))[5]? = some (some (.int (k : Nat))) := by rw [List.getElem?_set_ne (by decide)]; exact List.getElem?_set_self (by rw [N4]; decide)
            have t6 : (((σ.set 4 (some (V.ref PD))).set 5 (some (V.int (k : Nat)))).set 6 (some (V.ref b)))[6]? = some (some (.ref b)) := List.getElem?_set_self (by rw [N5]; decide)
            have P6 : H6 PD = some (.lst (as.map V.ref)) := S6 _ _ (S5 _ _ hPD)
            have A6 : NsAt H6 as es := paired_imp (fun c e' h => S6 _ _ (S5 _ _ h)) hN
            have M0w : ∀ (G : List (Nat × PyData)), (0, joinD wd es) ∈ G → Mk G (tVar 0) (.tuple [.str wd, .tuple es]) := fun G h => mk_var h
            obtain ⟨L, _, hL3, hLH, _, _⟩ := S2'.out
            have t3 : (((σ.set 4 (some (V.ref PD))).set 5 (some (V.int (k : Nat)))).set 6 (some (V.ref b)))[3]? = some (some (.ref L)) := by rw [List.getElem?_set_ne (by decide), List.getElem?_set_ne (by decide), List.getElem?_set_ne (by decide)]; exact hL3
            refine nx_of ?_
            generalize ((σ.set 4 (some (V.ref PD))).set 5 (some (V.int (k : Nat)))).set 6 (some (V.ref b)) = τ at S6' N6 t3 t4 t5 t6 ⊢
            -- the found list is none of the lists of names
            have hL3' := S3 _ _ hLH
            have hPL : PD ≠ L := fun z => by rw [z, hL3'] at nPD; cases nPD
            have hasL : ∀ c ∈ as, c ≠ L := fun c hc z => by
              have := (hnew c hc).1
              rw [z, hL3'] at this
              cases this
            have lt := stepsL_len nm n d row
            refine ⟨fun σ' H' => σ' = τ ∧ H' PD = some (.lst (as.map V.ref)) ∧ NsAt H' as es ∧ ∃ acc', ST H [(0, joinD wd es), (1, srowD row1), (2, .str nm)] 3 (acc'.map stpD) τ H' ∧ acc' ++ stepsLM nm m e (row1.filter fun z => decide (z ∈ namesN 6 e)) = stepsLM nm n d row ∧ acc'.length ≤ 6, ?_, ?_⟩
            · rcases hw with rfl | rfl
              · rw [if_neg (by decide), List.nil_append] at htot
                refine ifs_of ((mkt (mk_eqS (a := "series") (b := "parallel") (mk_ixT (K := K) (j := 0) (d := .str "series") (M0w [(0, joinD "series" es), (1, srowD row1), (2, .str nm)] (by simp)) rfl rfl) (mk_str (by decide)) (decide_eq_false (by decide)))) τ H6 _ S6'.env fun H7 S7 => if_f rfl ?_)
                exact ⟨rfl, S7 _ _ P6, paired_imp (fun c e' h => S7 _ _ h) A6, acc, S6'.next S7, htot, hacc⟩
              · rw [if_pos rfl] at htot
                refine ifs_of ((mkt (mk_eqS (a := "parallel") (b := "parallel") (mk_ixT (K := K) (j := 0) (d := .str "parallel") (M0w [(0, joinD "parallel" es), (1, srowD row1), (2, .str nm)] (by simp)) rfl rfl) (mk_str (by decide)) (decide_eq_true rfl))) τ H6 _ S6'.env fun H7 S7 => if_t rfl ?_)
                have hlen : acc.length + 1 ≤ 6 := by
                  have := congrArg List.length htot
                  rw [List.length_append, List.length_append, List.length_cons, List.length_nil] at this
                  omega
                have P7 := S7 _ _ P6
                have A7 : NsAt H7 as es := paired_imp (fun c e' h => S7 _ _ h) A6
                have hb7 := upR hb S7
                refine st_appR (K := K) (Q := fun _ H1 => _) (d := stpD (es.map (cntB bf), k)) (S6'.next S7) (fun Q kq => ?_) (by show (noLs (intsD _) && _) = true; rw [ints_noL]; rfl) (by rw [List.length_map]; omega) fun H8 S8 keep => ?_
                · refine cons_ofT (cb_1 ⟨_, t4, PD, rfl, ⟨_, SqL.of P7⟩, fun D3 nD3 => lc_list (K := K) (xs := as.map V.ref) (fun j Hz => Gr H7 D3 (intsD ((es.take j).map (cntB bf))) Hz) (by rw [List.take_zero]; exact Gr.start nD3) (fun j Hz _ g => SqL.of (g.2.1 _ _ P7)) ?_ ?_⟩)
                  · rintro j y Hz hy g3
                    rw [List.getElem?_map] at hy
                    obtain ⟨c, hc, rfl⟩ := Option.map_eq_some_iff.mp hy
                    obtain ⟨e', he', hce⟩ := paired_at A7 hc
                    have hjl := (List.getElem?_eq_some_iff.mp he').1
                    refine ⟨wipe_one, ?_⟩
                    dsimp only [tYes]
                    have N9 : ((τ.set 9 none).set 9 (some (V.ref c))).length = 11 := by rw [List.length_set, List.length_set, N6]
                    refine if_t rfl (cb_1 (lc_strPT (l := bf) (p := fun z => decide (z ∈ namesN 6 e')) (fun Q2 kq2 => ⟨_, ?_, kq2 (.ref b) Hz (Same.refl _) (.tup (upR hb7 g3.2.1) (strs_all _ _ hbs))⟩) (by omega) hbs (by show 10 < ((τ.set 9 none).set 9 (some (V.ref c))).length; rw [N9]; decide) (fun z hz H9 Q9 S9 kq9 => ?_) fun L9 H9 n9 S9 e9 => ⟨L9, _, rfl, .inl (SqL.of e9), ?_⟩))
                    · show ((τ.set 9 none).set 9 (some (V.ref c)))[6]? = _
                      rw [List.getElem?_set_ne (by decide), List.getElem?_set_ne (by decide)]
                      exact t6
                    · refine tst_opX ⟨.str z, ?_, .ref c, ?_, c, _, rfl, .inl (SqL.of (S9 _ _ (g3.2.1 _ _ hce))), rfl, flat_strsV _, ?_⟩
                      · exact List.getElem?_set_self (by show 10 < (((τ.set 9 none).set 9 (some (V.ref c))).set 10 none).length; rw [List.length_set, N9]; decide)
                      · show (((((τ.set 9 none).set 9 (some (V.ref c))).set 10 none).set 10 (some (V.str z))))[9]? = _
                        rw [List.getElem?_set_ne (by decide), List.getElem?_set_ne (by decide)]
                        exact List.getElem?_set_self (by rw [List.length_set, N6]; decide)
                      · rw [if_neg Bool.false_ne_true, in_strs]
                        exact ⟨_, rfl, kq9 H9 (Same.refl _)⟩
                    · obtain ⟨zs, hL, hzl, _, g'⟩ := g3.add S9 (.cons (.int (((bf.filter fun z => decide (z ∈ namesN 6 e')).map V.str).length : Nat)) .nil) rfl
                      unfold intsD at hzl
                      rw [List.length_map, List.length_map, List.length_take] at hzl
                      refine ⟨zs, hL, by rw [sizeLine_eq]; omega, ?_⟩
                      rw [take_sub he', List.map_append]
                      unfold intsD at g' ⊢
                      rw [List.map_append]
                      rw [List.length_map] at g'
                      rw [List.length_map]
                      exact g'
                  · rintro Hz g3
                    rw [List.length_map, las, List.take_length] at g3
                    obtain ⟨zs3, Hq3, n03, Sq3, Sq4, e3, d3'⟩ := gr_out g3
                    refine ⟨D3, zs3, rfl, SqL.of e3, fun l o nl no => ⟨_, t5, (by show 2 ≤ sizeLine; decide), fun l2 o2 n2 no2 => ?_⟩⟩
                    refine kq _ _ ((Sq3.trans Sq4).trans ((same_new nl).trans (same_new n2))) (.tup (TP.fz upd_same no2) (.cons (Dat.same (same_new n2) (.tup (TP.fz upd_same no) ((d3'.same Sq4).same (same_new nl)))) (.cons (.int _) .nil)))
                · refine ⟨rfl, keep L PD _ t3 hPL P7, paired_impM (fun c hc b' h => keep L c _ t3 (hasL c hc) h) A7, acc ++ [(es.map (cntB bf), k)], ?_, ?_, ?_⟩
                  · rw [List.map_append]
                    exact S8
                  · rw [List.append_assoc]
                    exact htot
                  · rw [List.length_append]
                    exact hlen
            · rintro σ' H' ⟨hσ', P7, A7, acc', S7', htot', hacc'⟩
              rw [hσ']
              obtain ⟨c, hc⟩ : ∃ c, as[k]? = some c := ⟨as[k]'(by omega), List.getElem?_eq_getElem _⟩
              obtain ⟨e', he', hce⟩ := paired_at A7 hc
              rw [hei] at he'
              cases he'
              obtain ⟨v1', w1, dv1⟩ := S7'.env (1, srowD row1) (by simp)
              refine par_of (consA_of (cb_1 (lc_strPT (l := row1) (p := fun z => decide (z ∈ namesN 6 e)) (fun Q2 kq2 => ⟨_, w1, kq2 _ H' (Same.refl _) dv1⟩) (by omega) hsh1 (by rw [N6]; decide) (fun z hz H9 Q9 S9 kq9 => ?_) fun L9 H9 n9 S9 e9 => ?_)))
              · refine tst_opX ⟨.str z, ?_, op_ofX ⟨.ref PD, ?_, .int (k : Nat), ?_, PD, as.map V.ref, (k : Nat), .ref c, rfl, rfl, SqL.of (S9 _ _ P7), atI_nat (by rw [List.getElem?_map, hc]; rfl), c, _, rfl, .inl (SqL.of (S9 _ _ hce)), rfl, flat_strsV _, ?_⟩⟩
                · exact List.getElem?_set_self (by rw [List.length_set, N6]; decide)
                · rw [List.getElem?_set_ne (by decide), List.getElem?_set_ne (by decide)]; exact t4
                · rw [List.getElem?_set_ne (by decide), List.getElem?_set_ne (by decide)]; exact t5
                · rw [if_neg Bool.false_ne_true, in_strs]
                  exact ⟨_, rfl, kq9 H9 (Same.refl _)⟩
              · refine ⟨L9, _, rfl, SqL.of e9, fun l o nl no => ?_⟩
                have Sn := S9.trans (same_new (o := HO.frz o (.tup ((row1.filter fun z => decide (z ∈ namesN 6 e)).map V.str))) nl)
                have dl : Dat (upd H9 l (.frz o (.tup ((row1.filter fun z => decide (z ∈ namesN 6 e)).map V.str)))) (.ref l) (srowD (row1.filter fun z => decide (z ∈ namesN 6 e))) := .tup (TP.fz upd_same no) (strs_all _ _ fun z hz => hsh1 z (List.mem_filter.mp hz).1)
                generalize upd H9 l (.frz o (.tup ((row1.filter fun z => decide (z ∈ namesN 6 e)).map V.str))) = H10 at Sn dl ⊢
                have S10 := S7'.next Sn
                refine consA_of (mk_ixTn (K := K) (ds := es) (j := k) (d := e) (G := [(5, .int (k : Nat)), (0, joinD wd es), (1, srowD row1), (2, .str nm)]) (mk_ixT (K := K) (ds := [.str wd, .tuple es]) (j := 1) (d := .tuple es) (M0w _ (by simp)) rfl rfl) (mk_var (i := 5) List.mem_cons_self) hei τ H10 _ (fun p hp => ?_) fun u11 H11 S11 d11 => ?_)
                · rcases List.mem_cons.mp hp with rfl | hp
                  · exact ⟨_, t5, .int _⟩
                  · exact S10.env p hp
                · refine ⟨_, _, rfl, ?_⟩
                  have W1 := (S10.weak (G' := [(2, .str nm)]) fun p hp => by
                    rw [List.mem_singleton] at hp
                    subst hp
                    simp)
                  have W2 := st_set (j := 1) W1 S11 (dl.same S11) (srowD_noL _) (ne_of rfl) (by decide) (by rw [N6]; decide)
                  have W3 := st_set (j := 0) W2 (Same.refl _) d11 (order_noL m e (hes e hem)) (ne_of rfl) (by decide) (by rw [List.length_set, N6]; decide)
                  refine ⟨by rw [List.length_set, List.length_set, N6], e, _, acc', W3, hes e hem, by omega, hne, List.mem_filter.mpr ⟨hnr1, decide_eq_true hne⟩, Nat.le_trans (List.length_filter_le _ _) hrl1, fun z hz => hsh1 z (List.mem_filter.mp hz).1, htot', hacc'⟩
end
end KB
set_option maxRecDepth 100000
set_option maxHeartbeats 8000000
namespace KB
open PySem PySem.Spec PyProof.Rows L2
/-! ### both ways to the steps -/
theorem one_in {a : Str} : ∀ {B : List Str}, B.Nodup → (B.filter fun z => decide (z = a)).length = if a ∈ B then 1 else 0
  | [], _ => rfl
  | b :: B, h => by
    have hb := List.nodup_cons.mp h
    have ih := one_in (a := a) hb.2
    by_cases e : b = a
    · subst e
      rw [List.filter_cons_of_pos (by simp), List.length_cons, ih, if_neg hb.1, if_pos List.mem_cons_self]
    · rw [List.filter_cons_of_neg (by simpa using e), ih]
      have : a ∈ b :: B ↔ a ∈ B := by simp [Ne.symm e]
      by_cases h2 : a ∈ B
      · rw [if_pos h2, if_pos (this.mpr h2)]
      · rw [if_neg h2, if_neg (fun z => h2 (this.mp z))]
theorem split_len {α : Type} {p q s : α → Bool} (h : ∀ x, p x = (q x || s x)) (hd : ∀ x, ¬ (q x = true ∧ s x = true)) : ∀ B : List α, (B.filter p).length = (B.filter q).length + (B.filter s).length
  | [] => rfl
  | b :: B => by
    have ih := split_len h hd B
    have h1 := h b
    have h2 := hd b
    by_cases hq : q b = true
    · have hs : ¬ s b = true := fun z => h2 ⟨hq, z⟩
      rw [List.filter_cons_of_pos (by rw [h1, hq]; rfl), List.filter_cons_of_pos hq, List.filter_cons_of_neg hs, List.length_cons, List.length_cons, ih]
      omega
    · by_cases hs : s b = true
      · rw [List.filter_cons_of_pos (by rw [h1, hs]; simp), List.filter_cons_of_neg hq, List.filter_cons_of_pos hs, List.length_cons, List.length_cons, ih]
        omega
      · rw [List.filter_cons_of_neg (by rw [h1]; simp [hq, hs]), List.filter_cons_of_neg hq, List.filter_cons_of_neg hs, ih]
theorem inter_len : ∀ {A B : List Str}, A.Nodup → B.Nodup → (A.filter fun z => decide (z ∈ B)).length = (B.filter fun z => decide (z ∈ A)).length
  | [], B, _, _ => by
    show 0 = (B.filter fun z => decide (z ∈ [])).length
    rw [List.filter_eq_nil_iff.mpr (fun x _ => by simp)]
    rfl
  | a :: A, B, h, hB => by
    have ha := List.nodup_cons.mp h
    have ih := inter_len ha.2 hB
    have sp := split_len (p := fun z => decide (z ∈ a :: A)) (q := fun z => decide (z = a)) (s := fun z => decide (z ∈ A)) (fun x => by simp [List.mem_cons]) (fun x ⟨h1, h2⟩ => by
      have e1 := of_decide_eq_true h1
      have e2 := of_decide_eq_true h2
      rw [e1] at e2
      exact ha.1 e2) B
    rw [sp, one_in hB, ← ih]
    by_cases hb : a ∈ B
    · rw [List.filter_cons_of_pos (p := fun z => decide (z ∈ B)) (decide_eq_true hb), List.length_cons, if_pos hb]
      omega
    · rw [List.filter_cons_of_neg (p := fun z => decide (z ∈ B)) (by simpa using hb), if_neg hb]
      omega
theorem idx_ne {a nm : Str} {r : List Str} (e : ¬ a = nm) : (a :: r).idxOf nm = r.idxOf nm + 1 := by
  rw [List.idxOf_cons, beq_false_of_ne e]
  rfl
theorem take_idx {nm : Str} {p : Str → Bool} (hp : p nm = true) : ∀ (r : List Str), nm ∈ r → (r.filter p).take ((r.filter p).idxOf nm) = (r.take (r.idxOf nm)).filter p
  | [], h => by cases h
  | a :: r, h => by
    by_cases e : a = nm
    · subst e
      rw [List.filter_cons_of_pos hp, List.idxOf_cons_self, List.idxOf_cons_self]
      rfl
    · have hr : nm ∈ r := by
        rcases List.mem_cons.mp h with h | h
        · exact absurd h.symm e
        · exact h
      have ih := take_idx hp r hr
      rw [idx_ne e, List.take_succ_cons]
      by_cases ha : p a = true
      · rw [List.filter_cons_of_pos ha, idx_ne e, List.take_succ_cons, ih, List.filter_cons_of_pos ha]
      · rw [List.filter_cons_of_neg ha, ih, List.filter_cons_of_neg ha]
theorem nodup_part {α β : Type} {f : α → List β} : ∀ {es : List α}, (es.flatMap f).Nodup → ∀ e ∈ es, (f e).Nodup
  | [], _, e, h => by cases h
  | a :: es, h, e, he => by
    rw [List.flatMap_cons] at h
    obtain ⟨h1, h2, _⟩ := List.nodup_append.mp h
    rcases List.mem_cons.mp he with rfl | he
    · exact h1
    · exact nodup_part h2 e he
theorem steps_eq {r : List Str} {nm : Str} (nr : r.Nodup) (hr : nm ∈ r) : ∀ (n : Nat) (d : PyData), orderB n d = true → n ≤ 6 → nm ∈ namesN 6 d → (namesN 6 d).Nodup → stepsLM nm n d (r.filter fun z => decide (z ∈ namesN 6 d)) = stepsM (r.take (r.idxOf nm)) nm n d
  | 0, d, h, _, _, _ => by cases (show false = true from h)
  | n + 1, d, h, hn, hm, nd => by
    rcases order_view h with ⟨z, rfl, hz, en⟩ | ⟨wd, es, hw, rfl, l2, l6, hes, en⟩
    · unfold stepsM
      rw [stepsLM, parsM, if_pos (show wordOf (itemD z) = "item" from rfl), if_pos (show wordOf (itemD z) = "item" from rfl)]
      rfl
    · have e6 := names_six hw hes l2 l6 hn
      have hm' := hm
      rw [e6] at hm' nd
      obtain ⟨e, hei, hem, hne, hbef⟩ := find_kid hm'
      have w1 : wordOf (joinD wd es) = wd := rfl
      have w2 : kidsOf (joinD wd es) = es := rfl
      have hni : ¬ wd = "item" := by rcases hw with rfl | rfl <;> decide
      have eg : es.getD (es.findIdx (inE nm)) .none = e := by rw [List.getD_eq_getElem?_getD, hei]; rfl
      have sub : ∀ e' ∈ es, ∀ z ∈ namesN 6 e', z ∈ namesN 6 (joinD wd es) := fun e' he' z hz => by rw [e6]; exact List.mem_flatMap.mpr ⟨e', he', hz⟩
      have ff : ∀ (l : List Str), ∀ e' ∈ es, (l.filter fun z => decide (z ∈ namesN 6 (joinD wd es))).filter (fun z => decide (z ∈ namesN 6 e')) = l.filter fun z => decide (z ∈ namesN 6 e') := fun l e' he' => by
        rw [List.filter_filter]
        refine List.filter_congr fun z _ => ?_
        by_cases hz : z ∈ namesN 6 e'
        · simp [hz, sub e' he' z hz]
        · simp [hz]
      have ih := steps_eq nr hr n e (hes e hem) (by omega) hne (nodup_part nd e hem)
      unfold stepsM at ih ⊢
      rw [stepsLM, parsM, w1, w2, if_neg hni, if_neg hni, eg, ff r e hem, ih, List.map_append]
      congr 1
      by_cases hpar : wd = "parallel"
      · rw [if_pos hpar, if_pos hpar, List.map_cons, List.map_nil, w2]
        congr 2
        refine List.map_congr_left fun e' he' => ?_
        unfold cntB cntE
        rw [take_idx (p := fun z => decide (z ∈ namesN 6 (joinD wd es))) (decide_eq_true hm) r hr, ff _ e' he', inter_len (nr.sublist (List.take_sublist _ _)) (nodup_part nd e' he')]
      · rw [if_neg hpar, if_neg hpar]
        rfl
theorem steps_full {r : List Str} {nm : Str} {o : PyData} (ho : orderB 6 o = true) (hp : r.Perm (namesN 6 o)) (nr : r.Nodup) (hr : nm ∈ r) : stepsLM nm 6 o r = stepsM (r.take (r.idxOf nm)) nm 6 o := by
  have z := steps_eq nr hr 6 o ho (Nat.le_refl _) (hp.mem_iff.mp hr) (hp.nodup_iff.mp nr)
  rw [List.filter_eq_self.mpr fun x hx => decide_eq_true (hp.mem_iff.mp hx)] at z
  exact z
theorem dat_revX {H : Hp} : ∀ {vs : List V} {ds : List PyData}, DatAll H vs ds → DatAll H vs.reverse ds.reverse
  | _, _, .nil => .nil
  | _, _, .cons a t => by
    rw [List.reverse_cons, List.reverse_cons]
    exact datAll_append (dat_revX t) (.cons a .nil)
/-! ### what an arrangement answers, by the law -/
def spAItem : Sp := fun vs H Q _ => ∃ (v0 v1 v2 : V) (o : PyData) (r : List Str) (z nm : Str) (args : List PyData), vs = [v0, v1, v2] ∧ Dat H v0 o ∧ Dat H v1 (srowD r) ∧ Dat H v2 (.tuple (.str z :: args)) ∧ orderB 6 o = true ∧ r.Perm (namesN 6 o) ∧ r.Nodup ∧ r.length ≤ 100 ∧ ArrAsk r z args nm ∧ ∀ u H', Same H H' → Dat H' u (ansA o r z nm) → Q u H'
abbrev s_aitem : Stmt := top 40
section
variable {P : Program} {w : World} {K : PySem.W.Frag} {mg : Str → Option Value} {base : Heap}
abbrev NAi : List Str := ["_law_order_here", "_law_row", "_law_asked", "_law_steps_here", "_law_before", "_law_at"]
theorem sc_aitem : FnScope NAi ["_law_order_here", "_law_row", "_law_asked"] (defScope s_aitem) := ⟨rfl, rfl, rfl, by decide +kernel, rfl, by decide +kernel, by decide +kernel⟩
theorem okl_aitem {f fS fN : Addr} {fd fdS fdN : FuncData} (F : Fun K "_law_arrangement_item" "_law_arrangement_item" s_aitem f fd) (T : Nm mg) (D_steps : DefOk K mg "_law_steps" s_steps ["_law_order_here", "_law_row", "_law_name"] fS fdS) (D_lnames : DefOk K mg "_law_names" s_names ["_law_order_here"] fN fdN) : FnOk P w K mg base CX0 9 f fd ["_law_order_here", "_law_row", "_law_asked"] spAItem := by
  have G_steps : FnOk P w K mg base CX0 8 fS fdS ["_law_order_here", "_law_row", "_law_name"] (spSteps 6) := okl_steps D_steps.F T D_lnames 6
  refine F.ok sc_aitem (fun vs H Q E h => ?_) (fun cdv A outer s H vs Q E hr h => ?_)
  · obtain ⟨v0, v1, v2, o, r, z, nm, args, rfl, _⟩ := h
    rfl
  · obtain ⟨v0, v1, v2, o, r, z, nm, args, rfl, h0, h1, h2, ho, hp, nr, hrl, ha, q⟩ := h
    refine ⟨_, (pss_cons (ps_if (pt_cmpR op_eq (pe_ix ix_tup (pv 2) pe_int (fun _ _ => rfl)) pe_str (nomark _))
        (pss_one (ps_ret (pe_tupF (pa_cons (pe_callTy call_tupF (by rfl) T.tuple (by decide +kernel) (pa_cons (pe_call G_steps hr rfl D_steps.g D_steps.F.kp D_steps.b .nil pass0 (pa_cons (pv 0) (pa_cons (pv 1) (pa_cons (pe_ix ix_tup (pv 1) (pe_ix ix_tup (pv 2) pe_int (fun _ _ => rfl)) (fun _ _ => rfl)) pa_nil)))) pa_nil)) (pa_cons (pe_ix ix_tup (pv 1) (pe_ix ix_tup (pv 2) pe_int (fun _ _ => rfl)) (fun _ _ => rfl)) pa_nil)))))
        pss_nil)
      (pss_cons (ps_setLc (i := 3) (own := [("_law_before", 4), ("_law_at", 5)]) (g := (gTup K 2 (gCons (gName 4) (gCons (gName 5) gNil)))) (tt := tYes) (te := tTupF (tCons (tCB (rSumT K) (tCons (tVar 4) tNil)) (tCons (tVar 4) tNil))) rfl sc_aitem.nd rfl rfl (sw_true rfl rfl rfl (by decide +kernel)) (pi_list (pe_call G_steps hr rfl D_steps.g D_steps.F.kp D_steps.b .nil pass0 (pa_cons (pv 0) (pa_cons (pv 1) (pa_cons (pe_ix ix_tup (pv 2) pe_int (fun _ _ => rfl)) pa_nil))))) (blkOk_by (N := NAi) (sc := defScope s_aitem) (by decide +kernel))
          (fun _ _ _ _ _ => (pg_tup rfl (pgs_cons (pg_name (i := 4) sc_aitem.nd rfl (Or.inl rfl)) (pgs_cons (pg_name (i := 5) sc_aitem.nd rfl (Or.inl rfl)) pgs_nil)))) (fun _ _ _ _ _ => pts_nil) (fun _ _ _ _ _ => (pe_tupF (pa_cons (pe_callB (cr_sumT rfl) (by rfl) T.sum boot_sum (pa_cons (pv 4) pa_nil)) (pa_cons (pv 4) pa_nil)))))
      (pss_one (ps_ret (pe_tupF (pa_cons (pe_callTy call_tupF (by rfl) T.tuple (by decide +kernel) (pa_cons (pe_revL (pv 3)) pa_nil)) (pa_cons (pe_bmF PySem.F.plainAttrs_tuple PySem.F.slot_tuple_index PySem.F.type_tuple_index mt_tup_index (pv 1) (pa_cons (pe_ix ix_tup (pv 2) pe_int (fun _ _ => rfl)) pa_nil)) pa_nil))))))), ?_⟩
    have hnm : nm ∈ r := by
      cases ha with
      | entry i h => exact List.getElem_mem h
      | locate _ h => exact h
    have nOk := names_ok 6 o ho
    have sh : ∀ y ∈ r, y.length ≤ 1000 := fun y hy => name_short (nOk y (hp.mem_iff.mp hy))
    have E0 : EnvOk [(0, o), (1, srowD r), (2, .tuple (.str z :: args))] [some v0, some v1, some v2, none, none, none] H := fun p hp => by
      simp only [List.mem_cons, List.not_mem_nil, or_false] at hp
      rcases hp with rfl | rfl | rfl
      · exact ⟨_, rfl, h0⟩
      · exact ⟨_, rfl, h1⟩
      · exact ⟨_, rfl, h2⟩
    have eS := steps_full ho hp nr hnm
    have M1 : ∀ {G : List (Nat × PyData)}, (1, srowD r) ∈ G → Mk G (tVar 1) (.tuple (strsD r)) := fun h => mk_var h
    have M2 : Mk [(0, o), (1, srowD r), (2, .tuple (.str z :: args))] (tVar 2) (.tuple (.str z :: args)) := mk_var (by simp)
    have call : ∀ (R : VK) (Hx : Hp), Same H Hx → Fresh Hx R (fun ds => ds = (stepsM (r.take (r.idxOf nm)) nm 6 o).map stpD) → spSteps 6 [v0, v1, .str nm] Hx R L2.E0 := fun R Hx S k =>
      ⟨v0, v1, o, r, nm, rfl, Nat.le_refl _, h0.same S, h1.same S, ho, hp.mem_iff.mp hnm, hnm, hrl, sh, fun L zs ds H' n S' e d hd => k L zs ds H' n S' e d (by rw [hd, eS])⟩
    obtain ⟨sm, hsm⟩ : ∃ sm, sm = stepsM (r.take (r.idxOf nm)) nm 6 o := ⟨_, rfl⟩
    rw [← hsm] at call
    have lS : sm.length ≤ 6 := by rw [hsm]; unfold stepsM; rw [List.length_map]; exact pars_len nm 6 o
    cases ha with
    | entry i hi =>
      refine sq_if1 (mkt (mk_eqS (a := "entry") (mk_ixT (K := K) (j := 0) M2 rfl rfl) (mk_str (by decide)) (decide_eq_true rfl))) E0 fun H1 S1 => ?_
      have E1 := E0.same S1
      have MI : Mk [(0, o), (1, srowD r), (2, .tuple (.str "entry" :: [.int (i : Nat)]))] (tOp (rIxT K) (tVar 1) (tOp (rIxT K) (tVar 2) (tC (.int 1)))) (.str r[i]) := mk_ixTn (K := K) (j := i) (M1 (by simp)) (mk_ixT (K := K) (j := 1) M2 rfl rfl) (by unfold strsD; rw [List.getElem?_map, List.getElem?_eq_getElem hi]; rfl)
      refine ret_ofX (cons_ofT (cb_1 ⟨_, rfl, _, rfl, MI _ H1 _ E1 fun u2 H2 S2 d2 => ?_⟩))
      obtain rfl := dat_strV d2
      refine call _ H2 (S1.trans S2) fun L zs ds H3 n3 S3 e3 d3 hds => ⟨L, zs, rfl, SqL.of e3, fun l o2 nl no => ?_⟩
      subst hds
      have S4 := same_new (o := HO.frz o2 (.tup zs)) nl
      refine MI _ _ _ (E1.same (S2.trans (S3.trans S4))) fun u5 H5 S5 d5 => ⟨(by show 2 ≤ sizeLine; decide), fun l6 o6 n6 no6 => ?_⟩
      refine q _ _ ((S1.trans (S2.trans (S3.trans S4))).trans (S5.trans (same_new n6))) ?_
      unfold ansA ansE
      rw [if_pos rfl, ← hsm]
      exact .tup (TP.fz upd_same no6) (.cons (Dat.same (S5.trans (same_new n6)) (.tup (TP.fz upd_same no) (d3.same S4))) (.cons (d5.same (same_new n6)) .nil))
    | locate nm' hl =>
      refine sq_if0 (mkt (mk_eqS (a := "locate") (mk_ixT (K := K) (j := 0) M2 rfl rfl) (mk_str (by decide)) (decide_eq_false (by decide)))) E0 fun H1 S1 => ?_
      have E1 := E0.same S1
      have MI : Mk [(0, o), (1, srowD r), (2, .tuple (.str "locate" :: [.str nm]))] (tOp (rIxT K) (tVar 2) (tC (.int 1))) (.str nm) := mk_ixT (K := K) (j := 1) M2 rfl rfl
      refine sq_anyX (lc_toldL (K := K) (g := stpD) (f := sumD) (rs := sm) (fun Q kq => ?_) (by omega) (fun t0 ht y H4 Q2 Q3 S4 dy kq => ?_) (fun t _ => ?_) fun L zs H4 n4 S4 e4 d4 => ?_)
      · refine ⟨_, rfl, _, rfl, MI _ H1 _ E1 fun u2 H2 S2 d2 => ?_⟩
        obtain rfl := dat_strV d2
        exact call _ H2 (S1.trans S2) fun L zs ds H3 n3 S3 e3 d3 hds => kq L zs H3 (S2.trans S3) e3 (by rw [← hds]; exact d3)
      · obtain ⟨b0, ys, rfl, hb0, hys⟩ := dat_tup dy
        obtain ⟨y0, y1, rfl, c0, c1⟩ := dat_two hys
        obtain ⟨b1, ys1, rfl, hb1, hys1⟩ := dat_tup c0
        have ey := dat_intsV hys1
        refine ⟨b0, _, rfl, sqT_rd hb0, rfl, .ref b1, _, rfl, _, _, rfl, rfl, rfl, ?_⟩
        dsimp only [tYes]
        refine if_t rfl ⟨_, rfl, b1, t0.1.map fun (x : Nat) => (x : Int), rfl, by rw [List.map_map]; rw [ey] at hb1; exact sqT_rd hb1, _, rfl, (by show 2 ≤ sizeLine; decide), fun l o2 nl no => ?_⟩
        have es : (t0.1.map fun (x : Nat) => (x : Int)).sum = ((t0.1.sum : Nat) : Int) := by
          have z : ∀ l : List Nat, (l.map fun (x : Nat) => (x : Int)).sum = ((l.sum : Nat) : Int) := fun l => by
            induction l with
            | nil => rfl
            | cons a l ih => rw [List.map_cons, List.sum_cons, ih, List.sum_cons]; omega
          exact z _
        rw [es]
        exact kq _ _ (same_new nl) (.tup (TP.fz upd_same no) (.cons (.int _) (.cons (c0.same (same_new nl)) .nil)))
      · show (true && (noLs (intsD _) && true)) = true
        rw [ints_noL]
        rfl
      · obtain ⟨i1, i2, i3⟩ := idx_firstS hnm
        refine ret_ofX (cons_ofT (cb_1 ⟨_, rfl, L, zs, rfl, SqL.of e4, fun r1 nr1 => ⟨r1, zs.reverse, rfl, SqL.of upd_same, fun l o2 nl no => ?_⟩⟩))
        have S5 := (same_new (o := HO.lst zs.reverse) nr1).trans (same_new (o := HO.frz o2 (.tup zs.reverse)) nl)
        have dR : DatAll H4 zs.reverse (sm.map sumD).reverse := dat_revX d4
        have hl5 : TP (upd (upd H4 r1 (.lst zs.reverse)) l (.frz o2 (.tup zs.reverse))) l zs.reverse := TP.fz upd_same no
        generalize upd (upd H4 r1 (.lst zs.reverse)) l (.frz o2 (.tup zs.reverse)) = H5 at S5 hl5 ⊢
        have d15 := (((h1.same S1).same S4).same S5)
        have fz1 := fz_dat d15
        obtain ⟨a1, xs1, ev1, ha1, hx1⟩ := dat_tup d15
        obtain rfl := dat_strs (ns := r) hx1
        refine ⟨_, rfl, fz1, MI _ H5 _ ?_ fun u6 H6 S6 d6 => ?_⟩
        · intro p hp
          obtain ⟨u, hu, du⟩ := E1 p hp
          refine ⟨u, ?_, (du.same S4).same S5⟩
          simp only [List.mem_cons, List.not_mem_nil, or_false] at hp
          rcases hp with rfl | rfl | rfl <;> exact hu
        · obtain rfl := dat_strV d6
          refine ⟨a1, r, nm, r.idxOf nm, ev1, rfl, sqT_rd (upR ha1 S6), i1, i3, (by show 2 ≤ sizeLine; decide), fun l7 o7 n7 no7 => ?_⟩
          refine q _ _ (((S1.trans S4).trans S5).trans (S6.trans (same_new n7))) ?_
          unfold ansA ansLc
          rw [if_neg (by decide), ← hsm]
          rw [← List.map_reverse] at dR
          exact .tup (TP.fz upd_same no7) (.cons (.tup (upR (upR hl5 S6) (same_new n7)) (dR.same (S5.trans (S6.trans (same_new n7))))) (.cons (.int _) .nil))
end
end KB
set_option maxRecDepth 100000
set_option maxHeartbeats 8000000
namespace KB
open PySem PySem.Spec PyProof.Rows L2
/-! ### what a word answers -/
def prefM (cs : Cn) (r : List Str) (p : Nat) : List Nat := cntsM (cs.map (·.1)) (r.take p)
inductive WordAsk (cs : Cn) (r : List Str) : Str → List PyData → PyData → Prop
  | letter (p : Nat) (h : p < r.length) : WordAsk cs r "letter" [.int (p : Nat)] (.str r[p])
  | pref (p : Nat) (h : p ≤ r.length) : WordAsk cs r "prefix" [.int (p : Nat)] (.tuple (intsD (prefM cs r p)))
  | entry (p : Nat) (h : p < r.length) : WordAsk cs r "entry" [.int (p : Nat)] (.tuple [.tuple (intsD (prefM cs r p)), .str r[p]])
  | select (c : Str × Nat) (j : Nat) (hc : c ∈ cs) (h : j < (placesM r c.1).length) : WordAsk cs r "select" [.str c.1, .int (j : Nat)] (.tuple [.int ((placesM r c.1)[j] : Nat), .tuple (intsD (prefM cs r (placesM r c.1)[j]))])
def spDWord : Sp := fun vs H Q _ => ∃ (x v w : V) (z : Str) (cs : Cn) (r : List Str) (args : List PyData) (an : PyData), vs = [x, v, .str z, w] ∧ Dat H x (.tuple [.str "word", cntsD cs]) ∧ Dat H v (srowD r) ∧ Dat H w (.tuple args) ∧ cs.length ≤ 100 ∧ (∀ c ∈ cs, nameS c.1 = true) ∧ r.length ≤ 1000 ∧ WordAsk cs r z args an ∧ ∀ u H', Same H H' → Dat H' u an → Q u H'
abbrev s_dword : Stmt := top 6
section
variable {P : Program} {w : World} {K : PySem.W.Frag} {mg : Str → Option Value} {base : Heap}
abbrev NDw : List Str := ["part", "item", "word", "arguments", "letters", "place", "before", "pair"]
theorem sc_dword : FnScope NDw ["part", "item", "word", "arguments"] (defScope s_dword) := ⟨rfl, rfl, rfl, by decide +kernel, rfl, by decide +kernel, by decide +kernel⟩
theorem ok_dword {f fP fC : Addr} {fd fdP fdC : FuncData} (F : Fun K "describe_word" "describe_word" s_dword f fd) (T : Nm mg) (D_places : DefOk K mg "places_of" s_places ["row", "wanted"] fP fdP) (D_count : DefOk K mg "count_each" s_count ["letters", "row"] fC fdC) : FnOk P w K mg base CX0 3 f fd ["part", "item", "word", "arguments"] spDWord := by
  have G_places : FnOk P w K mg base CX0 1 fP fdP ["row", "wanted"] spPlaces := ok_places D_places.F T
  have G_count : FnOk P w K mg base CX0 2 fC fdC ["letters", "row"] spCount := ok_count D_count.F T D_places
  refine F.ok sc_dword (fun vs H Q E h => ?_) (fun cdv A outer s H vs Q E hr h => ?_)
  · obtain ⟨x, v, w', z, cs, r, args, an, rfl, _⟩ := h
    rfl
  · obtain ⟨x, v, w', z, cs, r, args, an, rfl, hx, hv, hw, hcl, hcs, hrl, ha, q⟩ := h
    have hr1 : Room 1 _ := hr.mono (by omega)
    refine ⟨_, (pss_cons (ps_setLc (i := 4) (own := [("pair", 7)]) (g := (gName 7)) (tt := tYes) (te := tOp (rIxT K) (tVar 7) (tC (.int 0))) rfl sc_dword.nd rfl rfl (sw_true rfl rfl rfl (by decide +kernel)) (pi_tup (pe_ix ix_tup (pv 0) pe_int (fun _ _ => rfl))) (blkOk_by (N := NDw) (sc := defScope s_dword) (by decide +kernel))
          (fun _ _ _ _ _ => (pg_name (i := 7) sc_dword.nd rfl (Or.inl rfl))) (fun _ _ _ _ _ => pts_nil) (fun _ _ _ _ _ => (pe_ix ix_tup (pv 7) pe_int (fun _ _ => rfl))))
      (pss_cons (ps_if (pt_cmpR op_eq (pv 2) pe_str (nomark _))
        (pss_cons (ps_set (i := 5) sc_dword.nd rfl (Or.inl rfl) (pe_ix ix_list (pe_call G_places hr1 rfl D_places.g D_places.F.kp D_places.b .nil pass0 (pa_cons (pv 1) (pa_cons (pe_ix ix_tup (pv 3) pe_int (fun _ _ => rfl)) pa_nil))) (pe_ix ix_tup (pv 3) pe_int (fun _ _ => rfl)) (fun _ _ => rfl)))
        (pss_one (ps_ret (pe_tupF (pa_cons (pv 5) (pa_cons (pe_call G_count hr rfl D_count.g D_count.F.kp D_count.b .nil pass0 (pa_cons (pv 4) (pa_cons (pe_slice sl_tupF (pv 1) po_none (po_some (pv 5))) pa_nil))) pa_nil))))))
        pss_nil)
      (pss_cons (ps_set (i := 5) sc_dword.nd rfl (Or.inl rfl) (pe_ix ix_tup (pv 3) pe_int (fun _ _ => rfl)))
      (pss_cons (ps_if (pt_cmpR op_eq (pv 2) pe_str (nomark _))
        (pss_one (ps_ret (pe_ix ix_tup (pv 1) (pv 5) (fun _ _ => rfl))))
        pss_nil)
      (pss_cons (ps_set (i := 6) sc_dword.nd rfl (Or.inl rfl) (pe_call G_count hr rfl D_count.g D_count.F.kp D_count.b .nil pass0 (pa_cons (pv 4) (pa_cons (pe_slice sl_tupF (pv 1) po_none (po_some (pv 5))) pa_nil))))
      (pss_cons (ps_if (pt_cmpR op_eq (pv 2) pe_str (nomark _))
        (pss_one (ps_ret (pv 6)))
        pss_nil)
      (pss_one (ps_ret (pe_tupF (pa_cons (pv 6) (pa_cons (pe_ix ix_tup (pv 1) (pv 5) (fun _ _ => rfl)) pa_nil))))))))))), ?_⟩
    have hzl : z.length ≤ 1000 := by cases ha <;> decide
    have E0 : EnvOk [(0, .tuple [.str "word", cntsD cs]), (1, srowD r), (2, .str z), (3, .tuple args)] [some x, some v, some (.str z), some w', none, none, none, none] H := fun p hp => by
      simp only [List.mem_cons, List.not_mem_nil, or_false] at hp
      rcases hp with rfl | rfl | rfl | rfl
      · exact ⟨_, rfl, hx⟩
      · exact ⟨_, rfl, hv⟩
      · exact ⟨_, rfl, .str _ hzl⟩
      · exact ⟨_, rfl, hw⟩
    -- letters
    refine sq_anyX (lc_toldT (K := K) (g := fun c : Str × Nat => .tuple [.str c.1, .int (c.2 : Nat)]) (f := fun c => PyData.str c.1) (rs := cs) (fun Q kq => mk_ixT (K := K) (ds := [.str "word", cntsD cs]) (j := 1) (d := cntsD cs) (mk_var (i := 0) List.mem_cons_self) rfl rfl _ H _ E0 fun u H1 S1 d1 => kq u H1 S1 d1) (by omega) (fun c hc y H2 Q2 Q3 S2 dy kq => ?_) (fun _ _ => rfl) fun L zs H1 n1 S1 e1 d1 => ?_)
    · refine ⟨rfl, ?_⟩
      dsimp only [tYes]
      obtain ⟨b0, ys, rfl, hb0, hys⟩ := dat_tup dy
      obtain ⟨y0, y1, rfl, c0, c1⟩ := dat_two hys
      exact if_t rfl ⟨_, rfl, b0, _, _, _, rfl, rfl, sqT_rd hb0, atI_nat (j := 0) rfl, kq _ H2 (Same.refl _) c0⟩
    · have eL : cs.map (fun c => PyData.str c.1) = strsD (cs.map (·.1)) := by unfold strsD; rw [List.map_map]; rfl
      rw [eL] at d1
      have E1 : EnvOk [(4, .list (strsD (cs.map (·.1)))), (1, srowD r), (2, .str z), (3, .tuple args)] [some x, some v, some (.str z), some w', some (.ref L), none, none, none] H1 := fun p hp => by
        rcases List.mem_cons.mp hp with rfl | hp
        · exact ⟨_, rfl, .lst e1 d1⟩
        · obtain ⟨u, hu, du⟩ := E0 p (List.mem_cons_of_mem _ hp)
          refine ⟨u, ?_, du.same S1⟩
          simp only [List.mem_cons, List.not_mem_nil, or_false] at hp
          rcases hp with rfl | rfl | rfl <;> exact hu
      -- counting the letters before a place
      have MC : ∀ (p : Nat), Mk [(5, .int (p : Nat)), (4, .list (strsD (cs.map (·.1)))), (1, srowD r), (2, .str z), (3, .tuple args)] (tCall spCount [] L2.E0 (tCons (tVar 4) (tCons (tSl (rSlF K) (tVar 1) tNoPart (tPart (tVar 5))) tNil))) (.tuple (intsD (prefM cs r p))) := fun p σ Hx Qx Ex kx => by
        obtain ⟨u4, hu4, du4⟩ := Ex (4, .list (strsD (cs.map (·.1)))) (by simp)
        refine ⟨u4, hu4, mk_slToA (K := K) (ds := strsD r) (n := p) (mk_var (i := 1) (by simp [srowD])) (mk_var (i := 5) List.mem_cons_self) σ Hx _ Ex fun u5 H5 S5 d5 => ⟨u4, u5, (cs.map fun (c : Str × Nat) => c.1), r.take p, rfl, du4.same S5, ?_, by rw [List.length_map]; omega, by rw [List.length_take]; omega, fun u6 H6 S6 d6 => kx u6 H6 (S5.trans S6) d6⟩⟩
        unfold strsD at d5 ⊢
        rw [List.map_take]
        exact d5
      have M3 : Mk [(4, .list (strsD (cs.map (·.1)))), (1, srowD r), (2, .str z), (3, .tuple args)] (tVar 3) (.tuple args) := mk_var (by simp)
      have M2 : ∀ {G : List (Nat × PyData)}, (2, .str z) ∈ G → Mk G (tVar 2) (.str z) := fun h => mk_var h
      have M1 : ∀ {G : List (Nat × PyData)}, (1, srowD r) ∈ G → Mk G (tVar 1) (.tuple (strsD r)) := fun h => mk_var h
      have sAt : ∀ (p : Nat) (h : p < r.length), (strsD r)[p]? = some (.str r[p]) := fun p h => by unfold strsD; rw [List.getElem?_map, List.getElem?_eq_getElem h]; rfl
      have q1 : ∀ u H', Same H1 H' → Dat H' u an → Q u H' := fun u H' S => q u H' (S1.trans S)
      clear q hx hv hw E0
      have hp5 : ∀ {σ : L2.St} {Hx : Hp} {p : Nat}, EnvOk [(4, .list (strsD (cs.map (·.1)))), (1, srowD r), (2, .str z), (3, .tuple args)] σ Hx → σ.length = 8 → EnvOk [(5, .int (p : Nat)), (4, .list (strsD (cs.map (·.1)))), (1, srowD r), (2, .str z), (3, .tuple args)] (σ.set 5 (some (.int (p : Nat)))) Hx := fun Ex h => Ex.put (ne_of rfl) (by rw [h]; decide) (.int _)
      cases ha with
      | select c j hc h =>
        refine sq_if1 (mkt (mk_eqS (a := "select") (M2 (by simp)) (mk_str (by decide)) (decide_eq_true rfl))) E1 fun H2 S2 => ?_
        have E2 := E1.same S2
        refine sq_anyX (op_ofX (call_2 (M1 (by simp) _ H2 _ E2 fun u1 H3 S3 d3 => mk_ixT (K := K) (j := 0) M3 rfl rfl _ H3 _ (E2.same S3) fun u2 H4 S4 d4 => ?_)))
        obtain rfl := dat_strV d4
        refine ⟨u1, r, c.1, rfl, d3.same S4, by omega, fun L5 zs5 ds5 H5 n5 S5 e5 d5 h5 => ?_⟩
        subst h5
        have E5 := ((E2.same S3).same S4).same S5
        refine mk_ixT (K := K) (j := 1) M3 rfl rfl _ H5 _ E5 fun u6 H6 S6 d6 => ?_
        obtain rfl := dat_isInt d6
        obtain ⟨y, hy, dy⟩ := d5.at (j := j) (d := .int ((placesM r c.1)[j] : Nat)) (by unfold intsD; rw [List.getElem?_map, List.getElem?_eq_getElem h]; rfl)
        obtain rfl := dat_isInt dy
        refine ⟨L5, zs5, (j : Nat), _, rfl, rfl, SqL.of (S6 _ _ e5), atI_nat hy, ?_⟩
        have E6 := hp5 (p := (placesM r c.1)[j]) (E5.same S6) rfl
        refine ret_ofX (mk_tup (mks_cons (mk_var (i := 5) List.mem_cons_self) (mks_cons (MC _) mks_nil)) (by show 2 ≤ 1000; decide) _ H6 _ E6 fun u7 H7 S7 d7 => q1 u7 H7 ((((S2.trans S3).trans S4).trans S5).trans (S6.trans S7)) d7)
      | letter p h =>
        refine sq_if0 (mkt (mk_eqS (a := "letter") (M2 (by simp)) (mk_str (by decide)) (decide_eq_false (by decide)))) E1 fun H2 S2 => ?_
        refine sq_set (mk_ixT (K := K) (j := 0) M3 rfl rfl) (E1.same S2) rfl (by show 5 < 8; decide) fun v5 H3 S3 E3 => ?_
        refine sq_if1 (mkt (mk_eqS (a := "letter") (M2 (by simp)) (mk_str (by decide)) (decide_eq_true rfl))) E3 fun H4 S4 => ?_
        exact ret_ofX (mk_ixTn (K := K) (j := p) (M1 (by simp)) (mk_var (i := 5) List.mem_cons_self) (sAt p h) _ H4 _ (E3.same S4) fun u5 H5 S5 d5 => q1 u5 H5 ((S2.trans S3).trans (S4.trans S5)) d5)
      | pref p h =>
        refine sq_if0 (mkt (mk_eqS (a := "prefix") (M2 (by simp)) (mk_str (by decide)) (decide_eq_false (by decide)))) E1 fun H2 S2 => ?_
        refine sq_set (mk_ixT (K := K) (j := 0) M3 rfl rfl) (E1.same S2) rfl (by show 5 < 8; decide) fun v5 H3 S3 E3 => ?_
        refine sq_if0 (mkt (mk_eqS (a := "prefix") (M2 (by simp)) (mk_str (by decide)) (decide_eq_false (by decide)))) E3 fun H4 S4 => ?_
        refine sq_set (MC p) (E3.same S4) rfl (by show 6 < 8; decide) fun v6 H5 S5 E5 => ?_
        refine sq_if1 (mkt (mk_eqS (a := "prefix") (M2 (by simp)) (mk_str (by decide)) (decide_eq_true rfl))) E5 fun H6 S6 => ?_
        exact ret_ofX (mk_var List.mem_cons_self _ H6 _ (E5.same S6) fun u7 H7 S7 d7 => q1 u7 H7 (((S2.trans S3).trans (S4.trans S5)).trans (S6.trans S7)) d7)
      | entry p h =>
        refine sq_if0 (mkt (mk_eqS (a := "entry") (M2 (by simp)) (mk_str (by decide)) (decide_eq_false (by decide)))) E1 fun H2 S2 => ?_
        refine sq_set (mk_ixT (K := K) (j := 0) M3 rfl rfl) (E1.same S2) rfl (by show 5 < 8; decide) fun v5 H3 S3 E3 => ?_
        refine sq_if0 (mkt (mk_eqS (a := "entry") (M2 (by simp)) (mk_str (by decide)) (decide_eq_false (by decide)))) E3 fun H4 S4 => ?_
        refine sq_set (MC p) (E3.same S4) rfl (by show 6 < 8; decide) fun v6 H5 S5 E5 => ?_
        refine sq_if0 (mkt (mk_eqS (a := "entry") (M2 (by simp)) (mk_str (by decide)) (decide_eq_false (by decide)))) E5 fun H6 S6 => ?_
        exact ret_ofX (mk_tup (mks_cons (mk_var (i := 6) List.mem_cons_self) (mks_cons (mk_ixTn (K := K) (j := p) (M1 (by simp)) (mk_var (i := 5) (by simp)) (sAt p h)) mks_nil)) (by show 2 ≤ 1000; decide) _ H6 _ (E5.same S6) fun u7 H7 S7 d7 => q1 u7 H7 (((S2.trans S3).trans (S4.trans S5)).trans (S6.trans S7)) d7)
end
end KB
set_option maxRecDepth 100000
set_option maxHeartbeats 8000000
namespace KB
open PySem PySem.Spec PyProof.Rows L2
theorem places_len (z : Str) (l : List Str) : (placesM l z).length = (l.filter fun y => decide (y = z)).length := by
  have h : ∀ n, (l.take n).length = n → (placesM (l.take n) z).length = ((l.take n).filter fun y => decide (y = z)).length := fun n => by
    induction n with
    | zero => intro _; rfl
    | succ n ih =>
      intro hn
      rw [List.length_take] at hn
      have hl : n < l.length := by omega
      have e : l.take (n + 1) = l.take n ++ [l[n]] := take_sub (List.getElem?_eq_getElem hl)
      rw [e, places_snoc, ih (by rw [List.length_take]; omega), List.filter_append, List.length_append]
      congr 1
      by_cases h : l[n] = z
      · rw [if_pos h, List.filter_cons_of_pos (by simpa using h)]
        rfl
      · rw [if_neg h, List.filter_cons_of_neg (by simpa using h)]
        rfl
  have := h l.length (by rw [List.take_length])
  rw [List.take_length] at this
  exact this
section
variable {σ : L2.St} {H : Hp} {t te : TE} {tt : TT} {gg : TG} {vs : List Nat} {K : PySem.W.Frag}
/-- a one for each of a tuple of texts that passes a test -/
theorem lc_onesT {l : List Str} {p : Str → Bool} {i : Nat} {Q : VK} (M : ∀ Q : VK, (∀ (v : V) (H1 : Hp), Same H H1 → Dat H1 v (srowD l) → Q v H1) → t σ H Q) (hl : l.length ≤ 50000)
    (ht : ∀ z ∈ l, ∀ (H2 : Hp) (Q2 : Bool → Hp → Prop), Same H H2 → (∀ H3, Same H2 H3 → Q2 (p z) H3) → tt ((σ.set i none).set i (some (.str z))) H2 Q2)
    (q : ∀ (L : Addr) (zs : List V) (H' : Hp), H L = none → Same H H' → H' L = some (.lst zs) → zs.length = (l.filter p).length → Q (.ref L) H') : tLc (iTup K t) (gName i) tt (tC (.int 1)) [i] σ H Q := M _ fun v H1 S1 dv => by
  obtain ⟨a, xs, rfl, ha, hx⟩ := dat_tup dv
  obtain rfl := dat_strs (ns := l) hx
  refine ⟨a, rfl, ⟨_, sqT_rd ha⟩, fun D nD => lc_tup (K := K) (xs := l.map V.str) (fun j Hz => Gr H1 D (((l.take j).filter p).map fun _ => PyData.int 1) Hz) (by rw [List.take_zero]; exact Gr.start nD) (fun j Hz _ g => sqT_rd (upR ha g.2.1)) ?_ ?_⟩
  · rintro j y Hz hy gr
    rw [List.getElem?_map] at hy
    obtain ⟨z, hz, rfl⟩ := Option.map_eq_some_iff.mp hy
    have hm := List.mem_of_getElem? hz
    refine ⟨wipe_one, ht z hm Hz _ (S1.trans gr.2.1) fun H3 S3 => ?_⟩
    have g2 := gr.same S3
    rw [filter_snoc hz, List.map_append]
    by_cases hp : p z = true
    · rw [if_pos hp, if_pos hp]
      obtain ⟨zs, hL, hzl, _, g'⟩ := g2.add (Same.refl _) (.cons (.int 1) .nil) rfl
      have hfl := List.length_filter_le p (l.take j)
      rw [List.length_map] at hzl
      rw [List.length_take] at hfl
      exact ⟨zs, hL, by rw [sizeLine_eq]; omega, g'⟩
    · rw [if_neg hp, if_neg hp, List.map_nil, List.append_nil]
      exact g2
  · rintro Hz gr
    rw [List.length_map, List.take_length] at gr
    obtain ⟨zs, H0, n0, S0, S2, e, d⟩ := gr_out gr
    exact q D zs Hz (none_back (S1.trans S0) n0) ((S1.trans S0).trans S2) e (by rw [d.len, List.length_map])
/-- the places of a text in a tuple of texts: over enumerate -/
theorem lc_plcT {l : List Str} {y : Str} {i k : Nat} {ta : TA} {Q : VK} (hik : i ≠ k) (hi : i < σ.length) (hk : k < σ.length) (M : ∀ Q : List V → Hp → Prop, (∀ (v : V) (H1 : Hp), Same H H1 → Dat H1 v (srowD l) → Q [v] H1) → ta σ H Q) (hl : l.length ≤ 50000)
    (ht : ∀ (j : Nat) (z : Str), l[j]? = some z → ∀ (H2 : Hp) (Q2 : Bool → Hp → Prop), Same H H2 → (∀ H3, Same H2 H3 → Q2 (decide (z = y)) H3) → tt (((wipe σ [i, k]).set i (some (.int (j : Nat)))).set k (some (.str z))) H2 Q2)
    (q : ∀ (L : Addr) (zs : List V) (H' : Hp), H L = none → Same H H' → H' L = some (.lst zs) → DatAll H' zs (intsD (placesM l y)) → Q (.ref L) H') : tLc (iEnumT K ta) (gTup K 2 (gCons (gName i) (gCons (gName k) gNil))) tt (tVar i) [i, k] σ H Q := M _ fun v H1 S1 dv => by
  obtain ⟨a, xs, rfl, ha, hx⟩ := dat_tup dv
  obtain rfl := dat_strs (ns := l) hx
  refine ⟨a, _, rfl, sqT_rd ha, fun D nD => lc_it (walk_enumT (K := K) (a := a) (xs := l.map V.str)) (fun j Hz => Gr H1 D (intsD ((List.range j).filter fun i => decide (l[i]? = some y))) Hz) (Gr.start nD) (fun j Hz _ g => sqT_rd (upR ha g.2.1)) ?_ ?_⟩
  · rintro j x Hz Hy hj g ⟨T0, x0, y0, rfl, nT, rfl, e1, e2⟩
    cases e1
    replace e2 : (l.map V.str)[j]? = some y0 := e2
    rw [List.getElem?_map] at e2
    obtain ⟨c, hc, rfl⟩ := Option.map_eq_some_iff.mp e2
    have g1 := g.same (same_new (o := HO.tup [.int (j : Nat), .str c]) nT)
    have wl : (wipe σ [i, k]).length = σ.length := by
      show ((σ.set k none).set i none).length = _
      rw [List.length_set, List.length_set]
    refine ⟨T0, _, rfl, SqT.of upd_same, rfl, _, _, rfl, _, _, rfl, rfl, wipe_two hik, ht j c hc _ _ (S1.trans g1.2.1) fun H3 S3 => ?_⟩
    have g2 := g1.same S3
    have es : intsD ((List.range (j + 1)).filter fun i => decide (l[i]? = some y)) = intsD ((List.range j).filter fun i => decide (l[i]? = some y)) ++ (if decide (l[j]? = some y) = true then [.int ((j : Nat) : Int)] else []) := filter_succ (f := fun (x : Nat) => PyData.int (x : Int)) (p := fun i => decide (l[i]? = some y)) j
    rw [es, hc]
    by_cases h : c = y
    · have h2 : decide (some c = some y) = true := by rw [h]; simp
      rw [decide_eq_true h, h2, if_pos rfl, if_pos rfl]
      refine ⟨_, by rw [List.getElem?_set_ne (Ne.symm hik)]; exact List.getElem?_set_self (by rw [wl]; exact hi), ?_⟩
      obtain ⟨zs, hL, hzl, _, g'⟩ := g2.add (Same.refl _) (.cons (.int ((j : Nat) : Int)) .nil) rfl
      have hfl := List.length_filter_le (fun i => decide (l[i]? = some y)) (List.range j)
      unfold intsD at hzl
      rw [List.length_map] at hzl
      rw [List.length_range] at hfl
      rw [List.length_map] at hj
      exact ⟨zs, hL, by rw [sizeLine_eq]; omega, g'⟩
    · have h2 : decide (some c = some y) = false := decide_eq_false fun e => h (Option.some.inj e)
      rw [decide_eq_false h, h2, if_neg Bool.false_ne_true, if_neg Bool.false_ne_true, List.append_nil]
      exact g2
  · rintro Hz g
    rw [List.length_map] at g
    obtain ⟨zs, H0, n0, S0, S2, e, d⟩ := gr_out g
    exact q D zs Hz (none_back (S1.trans S0) n0) ((S1.trans S0).trans S2) e (d.same S2)
end
def spWItem : Sp := fun vs H Q _ => ∃ (v0 v1 v2 : V) (z : Str) (cs : Cn) (r : List Str) (args : List PyData) (an : PyData), vs = [v0, v1, v2] ∧ Dat H v0 (cntsD cs) ∧ Dat H v1 (srowD r) ∧ Dat H v2 (.tuple (.str z :: args)) ∧ cs.length ≤ 100 ∧ (∀ c ∈ cs, nameS c.1 = true) ∧ r.length ≤ 1000 ∧ WordAsk cs r z args an ∧ ∀ u H', Same H H' → Dat H' u an → Q u H'
abbrev s_witem : Stmt := top 39
section
variable {P : Program} {w : World} {K : PySem.W.Frag} {mg : Str → Option Value} {base : Heap}
abbrev NWi : List Str := ["_law_counts_here", "_law_letters", "_law_asked", "_law_word", "_law_p", "_law_prefix", "_law_k", "_law_letter", "_law_often", "_law_own"]
abbrev scW2 : Scope := { kind := .function, names := [(".0", .local), ("_law_letter", .cell), ("_law_often", .local), ("len", .globalImplicit), ("_law_letters", .cell), ("_law_p", .cell)], isGenerator := false, isCoroutine := false, more := [] }
theorem sc_witem : FnScope NWi ["_law_counts_here", "_law_letters", "_law_asked"] (defScope s_witem) := ⟨rfl, rfl, rfl, by decide +kernel, rfl, by decide +kernel, by decide +kernel⟩
theorem okl_witem {f : Addr} {fd : FuncData} (F : Fun K "_law_word_item" "_law_word_item" s_witem f fd) (T : Nm mg) : FnOk P w K mg base CX0 1 f fd ["_law_counts_here", "_law_letters", "_law_asked"] spWItem := by
  refine F.ok sc_witem (fun vs H Q E h => ?_) (fun cdv A outer s H vs Q E hr h => ?_)
  · obtain ⟨v0, v1, v2, z, cs, r, args, an, rfl, _⟩ := h
    rfl
  · obtain ⟨v0, v1, v2, z, cs, r, args, an, rfl, h0, h1, h2, hcl, hcs, hrl, ha, q⟩ := h
    refine ⟨_, (pss_cons (ps_asg (pe_tupF (pa_cons (pe_ix ix_tup (pv 2) pe_int (fun _ _ => rfl)) (pa_cons (pe_ix ix_tup (pv 2) (pe_un un_neg pe_int) (fun _ _ => rfl)) pa_nil))) (pg_tup rfl (pgs_cons (pg_name (i := 3) sc_witem.nd rfl (Or.inl rfl)) (pgs_cons (pg_name (i := 4) sc_witem.nd rfl (Or.inr rfl)) pgs_nil))))
      (C8.pss_cut (ps_if (pt_cmpR op_eq (pv 3) pe_str (nomark _))
        (pss_one (ps_set (i := 4) sc_witem.nd rfl (Or.inr rfl) (pe_ix ix_list (pe_lc (own := [("_law_k", 6), ("_law_letter", 7)]) (g := (gTup K 2 (gCons (gName 6) (gCons (gName 7) gNil)))) (tt := tTest (tOp rEq (tVar 7) (tOp (rIxT K) (tVar 2) (tC (.int 1))))) (te := tVar 6) rfl sc_witem.nd (pi_enumT (by rfl) T.enumerate (pa_cons (pv 1) pa_nil)) (blkOk_by (N := NWi) (sc := defScope s_witem) (by decide +kernel))
          (fun _ _ _ _ _ => (pg_tup rfl (pgs_cons (pg_name (i := 6) sc_witem.nd rfl (Or.inl rfl)) (pgs_cons (pg_name (i := 7) sc_witem.nd rfl (Or.inl rfl)) pgs_nil)))) (fun _ _ _ _ _ => pts_one (pt_cmpR op_eq (pv 7) (pe_ix ix_tup (pv 2) pe_int (fun _ _ => rfl)) (nomark _))) (fun _ _ _ _ _ => (pv 6))) (pe_ix ix_tup (pv 2) pe_int (fun _ _ => rfl)) (fun _ _ => rfl))))
        pss_nil)
      (pss_cons (ps_set (i := 5) sc_witem.nd rfl (Or.inl rfl) (pe_callTy call_tupF (by rfl) T.tuple (by decide +kernel) (pa_cons (pe_lc (own := [("_law_letter", 7), ("_law_often", 8)]) (g := (gTup K 2 (gCons (gName 7) (gCons (gName 8) gNil)))) (tt := tYes) (te := tCB (rLenS K) (tCons (tLc (iTup K (tSl (rSlF K) (tVar 1) tNoPart (tPart (tVar 4)))) (gName 9) (tTest (tOp rEq (tVar 9) (tVar 7))) (tC (.int 1)) [9]) tNil)) rfl sc_witem.nd (pi_tup (pv 0)) (blkOk_by (N := NWi) (sc := defScope s_witem) (by decide +kernel))
          (fun _ _ _ _ _ => (pg_tup rfl (pgs_cons (pg_name (i := 7) sc_witem.nd rfl (Or.inr rfl)) (pgs_cons (pg_name (i := 8) sc_witem.nd rfl (Or.inl rfl)) pgs_nil)))) (fun _ _ _ _ _ => pts_nil) (fun _ _ _ _ _ => (pe_callB cr_lenS (by rfl) T.len PySem.boot_len (pa_cons (pe_lc (own := [("_law_own", 9)]) (g := (gName 9)) (tt := tTest (tOp rEq (tVar 9) (tVar 7))) (te := tC (.int 1)) rfl sc_witem.nd (pi_tup (pe_slice sl_tupF (pv 1) po_none (po_some (pv 4)))) (blkOk_by (N := NWi) (sc := scW2) (by decide +kernel))
          (fun _ _ _ _ _ => (pg_name (i := 9) sc_witem.nd rfl (Or.inl rfl))) (fun _ _ _ _ _ => pts_one (pt_cmpR op_eq (pv 9) (pv 7) (nomark _))) (fun _ _ _ _ _ => pe_int)) pa_nil)))) pa_nil)))
      (pss_cons (ps_if (pt_cmpR op_eq (pv 3) pe_str (nomark _))
        (pss_one (ps_ret (pv 5)))
        pss_nil)
      (pss_cons (ps_if (pt_cmpR op_eq (pv 3) pe_str (nomark _))
        (pss_one (ps_ret (pe_ix ix_tup (pv 1) (pv 4) (fun _ _ => rfl))))
        pss_nil)
      (pss_one (ps_ret (pe_ifExp (pt_cmpR op_eq (pv 3) pe_str (nomark _)) (pe_tupF (pa_cons (pv 5) (pa_cons (pe_ix ix_tup (pv 1) (pv 4) (fun _ _ => rfl)) pa_nil))) (pe_tupF (pa_cons (pv 4) (pa_cons (pv 5) pa_nil))))))))))), ?_⟩
    have sh : ∀ c ∈ cs, c.1.length ≤ 1000 := fun c hc => name_short (hcs c hc)
    have M2 : Mk [(0, cntsD cs), (1, srowD r), (2, .tuple (.str z :: args))] (tVar 2) (.tuple (.str z :: args)) := mk_var (by simp)
    have E0 : EnvOk [(0, cntsD cs), (1, srowD r), (2, .tuple (.str z :: args))] [some v0, some v1, some v2, none, none, none, none, none, none, none] H := fun p hp => by
      simp only [List.mem_cons, List.not_mem_nil, or_false] at hp
      rcases hp with rfl | rfl | rfl
      · exact ⟨_, rfl, h0⟩
      · exact ⟨_, rfl, h1⟩
      · exact ⟨_, rfl, h2⟩
    obtain ⟨n, hn⟩ : ∃ n : Nat, (PyData.str z :: args).getLast? = some (.int (n : Nat)) := by cases ha <;> exact ⟨_, rfl⟩
    -- word, p
    refine sq_anyX (mk_tup (mks_cons (mk_ixT (K := K) (j := 0) (d := .str z) M2 rfl rfl) (mks_cons (mk_lastT (K := K) M2 hn) mks_nil)) (by show 2 ≤ 1000; decide) _ H _ E0 fun u H1 S1 d1 => ?_)
    obtain ⟨au, yu, rfl, hau, hyu⟩ := dat_tup d1
    obtain ⟨w3, w4, rfl, c3, c4⟩ := dat_two hyu
    obtain rfl := dat_strV c3
    obtain rfl := dat_isInt c4
    refine ⟨au, _, rfl, sqT_rd hau, rfl, _, _, rfl, _, _, rfl, rfl, ?_⟩
    have hzl : z.length ≤ 1000 := by cases ha <;> decide
    have EP : ∀ (p : Nat) (Hx : Hp), Same H Hx → EnvOk [(4, .int (p : Nat)), (3, .str z), (0, cntsD cs), (1, srowD r), (2, .tuple (.str z :: args))] [some v0, some v1, some v2, some (.str z), some (.int (p : Nat)), none, none, none, none, none] Hx := fun p Hx S q hq => by
      simp only [List.mem_cons, List.not_mem_nil, or_false] at hq
      rcases hq with rfl | rfl | rfl | rfl | rfl
      · exact ⟨_, rfl, .int _⟩
      · exact ⟨_, rfl, .str _ hzl⟩
      · exact ⟨_, rfl, h0.same S⟩
      · exact ⟨_, rfl, h1.same S⟩
      · exact ⟨_, rfl, h2.same S⟩
    -- the prefix
    have PR : ∀ (p : Nat) (Hx : Hp) (R : VK), Same H Hx → (∀ v H', Same Hx H' → Dat H' v (.tuple (intsD (prefM cs r p))) → R v H') → tCB (rTupF K) (tCons (tLc (iTup K (tVar 0)) (gTup K 2 (gCons (gName 7) (gCons (gName 8) gNil))) tYes (tCB (rLenS K) (tCons (tLc (iTup K (tSl (rSlF K) (tVar 1) tNoPart (tPart (tVar 4)))) (gName 9) (tTest (tOp rEq (tVar 9) (tVar 7))) (tC (.int 1)) [9]) tNil)) [7, 8]) tNil) [some v0, some v1, some v2, some (.str z), some (.int (p : Nat)), none, none, none, none, none] Hx R := fun p Hx R S k => by
      refine cb_1 (lc_toldT (K := K) (g := fun c : Str × Nat => .tuple [.str c.1, .int (c.2 : Nat)]) (f := fun c => PyData.int ((placesM (r.take p) c.1).length : Nat)) (rs := cs) (fun Q kq => ⟨_, rfl, kq v0 Hx (Same.refl _) (h0.same S)⟩) (by omega) (fun c hc y H2 Q2 Q3 S2 dy kq => ?_) (fun _ _ => rfl) fun L zs H2 n2 S2 e2 d2 => ⟨L, zs, rfl, SqL.of e2, fun l o nl no => ?_⟩)
      · obtain ⟨b0, ys, rfl, hb0, hys⟩ := dat_tup dy
        obtain ⟨y0, y1, rfl, c0, c1⟩ := dat_two hys
        obtain rfl := dat_strV c0
        refine ⟨b0, _, rfl, sqT_rd hb0, rfl, _, _, rfl, y1, _, rfl, rfl, wipe_two (by decide), ?_⟩
        dsimp only [tYes]
        refine if_t rfl (cb_1 (lc_onesT (l := r.take p) (p := fun y => decide (y = c.1)) (fun Q kq2 => ?_) (by rw [List.length_take]; omega) (fun y hy H3 Q3 S3 kq3 => ?_) fun L zs H3 n3 S3 e3 hz3 => ⟨L, zs, rfl, .inl (SqL.of e3), ?_⟩))
        · have E2 : EnvOk [(4, PyData.int (p : Nat)), (1, srowD r)] [some v0, some v1, some v2, some (.str z), some (.int (p : Nat)), none, none, some (.str c.1), some y1, none] H2 := fun q hq => by
            simp only [List.mem_cons, List.not_mem_nil, or_false] at hq
            rcases hq with rfl | rfl
            · exact ⟨_, rfl, .int _⟩
            · exact ⟨_, rfl, (h1.same S).same S2⟩
          refine mk_slToA (K := K) (ds := strsD r) (n := p) (mk_var (i := 1) (by simp [srowD])) (mk_var (i := 4) List.mem_cons_self) _ H2 _ E2 fun u5 H5 S5 d5 => kq2 u5 H5 S5 ?_
          unfold srowD strsD at d5 ⊢
          rw [List.map_take]
          exact d5
        · refine ⟨_, rfl, _, rfl, rfl, _, rfl, ?_⟩
          rw [dec_str]
          exact kq3 H3 (Same.refl _)
        · rw [hz3, ← places_len]
          exact kq _ H3 S3 (.int _)
      · refine k _ _ (S2.trans (same_new nl)) (.tup (TP.fz upd_same no) ?_)
        have e' : intsD (prefM cs r p) = cs.map fun c => PyData.int ((placesM (r.take p) c.1).length : Nat) := by
          unfold intsD prefM cntsM
          rw [List.map_map, List.map_map]
          rfl
        rw [e']
        exact d2.same (same_new nl)
    -- where the place is known
    obtain ⟨p, hp⟩ : ∃ p : Nat, (¬ z = "select" → n = p) ∧ (z = "select" → ∃ (c : Str × Nat) (j : Nat), c ∈ cs ∧ args = [.str c.1, .int (j : Nat)] ∧ (placesM r c.1)[j]? = some p) := by
      cases ha with
      | letter p h => exact ⟨n, fun _ => rfl, fun e => absurd e (by decide)⟩
      | pref p h => exact ⟨n, fun _ => rfl, fun e => absurd e (by decide)⟩
      | entry p h => exact ⟨n, fun _ => rfl, fun e => absurd e (by decide)⟩
      | select c j hc h => exact ⟨_, fun e => absurd rfl e, fun _ => ⟨c, j, hc, rfl, List.getElem?_eq_getElem h⟩⟩
    refine ⟨fun σ' H' => σ' = [some v0, some v1, some v2, some (.str z), some (.int (p : Nat)), none, none, none, none, none] ∧ Same H H', ?_, ?_⟩
    · by_cases hz : z = "select"
      · obtain ⟨c, j, hc, rfl, hj⟩ := hp.2 hz
        refine ifs_of ((mkt (mk_eqS (a := z) (mk_var (i := 3) (by simp)) (mk_str (by decide)) (decide_eq_true (by rw [hz])))) _ H1 _ (EP n H1 S1) fun H2 S2 => if_t rfl ?_)
        refine as_any (op_ofX (lc_plcT (l := r) (y := c.1) (by decide) (by show 6 < 10; decide) (by show 7 < 10; decide) (fun Q kq => ⟨_, rfl, kq v1 H2 (Same.refl _) ((h1.same S1).same S2)⟩) (by omega) (fun j2 y hy H3 Q3 S3 kq3 => ?_) fun L zs H3 n3 S3 e3 d3 => ?_))
        · obtain ⟨b2, xs2, rfl, hb2, hx2⟩ := dat_tup (((h2.same S1).same S2).same S3)
          cases hx2 with
          | @cons x0 _ _ _ c0 t0 =>
            cases t0 with
            | @cons x1 _ _ _ c1 t1 =>
              obtain rfl := dat_strV c1
              refine tst_opX ⟨_, rfl, op_ofX ⟨_, rfl, b2, _, _, _, rfl, rfl, sqT_rd hb2, atI_nat (j := 1) rfl, rfl, _, rfl, ?_⟩⟩
              rw [dec_str]
              exact kq3 H3 (Same.refl _)
        · obtain ⟨y, hy, dy⟩ := d3.at (j := j) (d := .int (p : Nat)) (by unfold intsD; rw [List.getElem?_map, hj]; rfl)
          obtain rfl := dat_isInt dy
          refine mk_ixT (K := K) (ds := [.str z, .str c.1, .int (j : Nat)]) (j := 2) (mk_var (i := 2) (by simp)) rfl rfl _ H3 _ (EP n H3 ((S1.trans S2).trans S3)) fun u4 H4 S4 d4 => ?_
          obtain rfl := dat_isInt d4
          exact ⟨L, zs, (j : Nat), _, rfl, rfl, SqL.of (S4 _ _ e3), atI_nat hy, rfl, ((S1.trans S2).trans S3).trans S4⟩
      · have hnp := hp.1 hz
        subst hnp
        exact ifs_of ((mkt (mk_eqS (a := z) (mk_var (i := 3) (by simp)) (mk_str (by decide)) (decide_eq_false (fun y => hz (V.str.inj y))))) _ H1 _ (EP n H1 S1) fun H2 S2 => if_f rfl ⟨rfl, S1.trans S2⟩)
    · rintro σ' H2 ⟨rfl, S2⟩
      refine sq_anyX (PR p H2 _ S2 fun v5 H3 S3 d5 => ?_)
      have S23 := S2.trans S3
      have E5 : EnvOk [(5, .tuple (intsD (prefM cs r p))), (4, .int (p : Nat)), (3, .str z), (1, srowD r)] [some v0, some v1, some v2, some (.str z), some (.int (p : Nat)), some v5, none, none, none, none] H3 := fun q hq => by
        simp only [List.mem_cons, List.not_mem_nil, or_false] at hq
        rcases hq with rfl | rfl | rfl | rfl
        · exact ⟨_, rfl, d5⟩
        · exact ⟨_, rfl, .int _⟩
        · exact ⟨_, rfl, .str _ hzl⟩
        · exact ⟨_, rfl, h1.same S23⟩
      have M3 : ∀ {G : List (Nat × PyData)}, (3, .str z) ∈ G → Mk G (tVar 3) (.str z) := fun h => mk_var h
      have M1 : ∀ {G : List (Nat × PyData)}, (1, srowD r) ∈ G → Mk G (tVar 1) (.tuple (strsD r)) := fun h => mk_var h
      have sAt : ∀ (p : Nat) (h : p < r.length), (strsD r)[p]? = some (.str r[p]) := fun p h => by unfold strsD; rw [List.getElem?_map, List.getElem?_eq_getElem h]; rfl
      have T3 : ∀ {zz : Str} {G : List (Nat × PyData)}, zz.length ≤ 1000 → (3, .str z) ∈ G → MkT G (tTest (tOp rEq (tVar 3) (tC (.str zz)))) (decide (z = zz)) := fun hl h => by
        have := mk_eqS (M3 h) (mk_str hl) rfl
        rw [dec_str] at this
        exact mkt this
      cases ha with
      | letter p' h =>
        obtain rfl := hp.1 (by decide)
        cases hn
        refine sq_if0 (T3 (zz := "prefix") (by decide) (by simp)) E5 fun H4 S4 => ?_
        refine sq_if1 (T3 (zz := "letter") (by decide) (by simp)) (E5.same S4) fun H5 S5 => ?_
        exact ret_ofX (mk_ixTn (K := K) (j := n) (M1 (by simp)) (mk_var (i := 4) (by simp)) (sAt n h) _ H5 _ ((E5.same S4).same S5) fun u6 H6 S6 d6 => q u6 H6 ((S23.trans S4).trans (S5.trans S6)) d6)
      | pref p' h =>
        obtain rfl := hp.1 (by decide)
        cases hn
        refine sq_if1 (T3 (zz := "prefix") (by decide) (by simp)) E5 fun H4 S4 => ?_
        exact ret_ofX (mk_var List.mem_cons_self _ H4 _ (E5.same S4) fun u6 H6 S6 d6 => q u6 H6 ((S23.trans S4).trans S6) d6)
      | entry p' h =>
        obtain rfl := hp.1 (by decide)
        cases hn
        refine sq_if0 (T3 (zz := "prefix") (by decide) (by simp)) E5 fun H4 S4 => ?_
        refine sq_if0 (T3 (zz := "letter") (by decide) (by simp)) (E5.same S4) fun H5 S5 => ?_
        exact ret_ofX (mk_ifT (T3 (zz := "entry") (by decide) (by simp)) (mk_tup (mks_cons (mk_var (i := 5) List.mem_cons_self) (mks_cons (mk_ixTn (K := K) (j := n) (M1 (by simp)) (mk_var (i := 4) (by simp)) (sAt n h)) mks_nil)) (by show 2 ≤ 1000; decide)) _ H5 _ ((E5.same S4).same S5) fun u6 H6 S6 d6 => q u6 H6 ((S23.trans S4).trans (S5.trans S6)) d6)
      | select c j hc h =>
        obtain ⟨c', j', hc', e', hj'⟩ := hp.2 rfl
        injection e' with e1 e2
        injection e1 with e1
        injection e2 with e2 _
        injection e2 with e2
        have e2 : j = j' := by omega
        subst e2
        rw [← e1, List.getElem?_eq_getElem h] at hj'
        obtain rfl := Option.some.inj hj'
        refine sq_if0 (T3 (zz := "prefix") (by decide) (by simp)) E5 fun H4 S4 => ?_
        refine sq_if0 (T3 (zz := "letter") (by decide) (by simp)) (E5.same S4) fun H5 S5 => ?_
        exact ret_ofX (mk_ifF (T3 (zz := "entry") (by decide) (by simp)) (mk_tup (mks_cons (mk_var (i := 4) (by simp)) (mks_cons (mk_var (i := 5) List.mem_cons_self) mks_nil)) (by show 2 ≤ 1000; decide)) _ H5 _ ((E5.same S4).same S5) fun u6 H6 S6 d6 => q u6 H6 ((S23.trans S4).trans (S5.trans S6)) d6)
end
end KB
set_option maxRecDepth 100000
set_option maxHeartbeats 8000000
namespace KB
open PySem PySem.Spec PyProof.Rows L2
/-! ### the leaves of this law, what they answer -/
inductive Lf7
  | sub (n k : Nat)
  | word (cs : Cn)
  | arr (o : PyData)
  | cyc (n : Nat)
  | mat (n : Nat)
  | tree (n : Nat)
  | perm (n : Nat) (mv : List Nat)
def kd : Lf7 → Str
  | .sub _ _ => "subset"
  | .word _ => "word"
  | .arr _ => "arrangement"
  | .cyc _ => "cycle"
  | .mat _ => "matching"
  | .tree _ => "tree"
  | .perm _ _ => "permutation"
def lfR : Lf7 → List PyData
  | .sub n k => [.int (n : Nat), .int (k : Nat)]
  | .word cs => [cntsD cs]
  | .arr o => [o]
  | .cyc n => [.int (n : Nat)]
  | .mat n => [.int (n : Nat)]
  | .tree n => [.int (n : Nat)]
  | .perm n mv => [.int (n : Nat), .tuple (intsD mv)]
def lfD (l : Lf7) : PyData := .tuple (.str (kd l) :: lfR l)
inductive Ans : Lf7 → PyData → Str → List PyData → PyData → Prop
  | sub {n k : Nat} {r : List Nat} {z : Str} {i : Nat} (hr : r.length ≤ 100) (hz : z = "contains" ∨ z = "rank" ∨ z = "select") (hi : z = "select" → i < r.length) : Ans (.sub n k) (rowD r) z [.int (i : Nat)] (ansS r z i)
  | cyc {n : Nat} {r : List Nat} {z : Str} {i : Nat} (hr : r.length ≤ 100) (hz : z = "successor" ∨ z = "predecessor") (hi : i < r.length) (hm : i ∈ r) : Ans (.cyc n) (rowD r) z [.int (i : Nat)] (.int (ansN "successor" r z i : Nat))
  | perm {n : Nat} {mv r : List Nat} {z : Str} {i : Nat} (hr : r.length ≤ 100) (hz : z = "image" ∨ z = "preimage") (hi : i < r.length) (hm : i ∈ r) : Ans (.perm n mv) (rowD r) z [.int (i : Nat)] (.int (ansN "image" r z i : Nat))
  | mat {n : Nat} {r : List Nat} {i : Nat} (hr : r.length ≤ 100) (hi : i < r.length) : Ans (.mat n) (rowD r) "partner" [.int (i : Nat)] (.int (r.getD i 0 : Nat))
  | tree {n : Nat} {r : List Nat} {i : Nat} (hr : r.length ≤ 100) (hi : i < r.length) : Ans (.tree n) (treeD r) "parent" [.int ((i + 1 : Nat) : Int)] (.int (r.getD i 0 : Nat))
  | word {cs : Cn} {r : List Str} {z : Str} {args : List PyData} {an : PyData} (hl : cs.length ≤ 100) (hn : ∀ c ∈ cs, nameS c.1 = true) (hr : r.length ≤ 100) (h : WordAsk cs r z args an) : Ans (.word cs) (srowD r) z args an
  | arr {o : PyData} {r : List Str} {z nm : Str} {args : List PyData} (ho : orderB 6 o = true) (hp : r.Perm (namesN 6 o)) (nr : r.Nodup) (hr : r.length ≤ 100) (h : ArrAsk r z args nm) : Ans (.arr o) (srowD r) z args (ansA o r z nm)
theorem ans_z {l : Lf7} {t : PyData} {z : Str} {args : List PyData} {an : PyData} (h : Ans l t z args an) : z.length ≤ 1000 := by
  cases h with
  | sub hr hz hi => rcases hz with rfl | rfl | rfl <;> decide
  | cyc hr hz hi hm => rcases hz with rfl | rfl <;> decide
  | perm hr hz hi hm => rcases hz with rfl | rfl <;> decide
  | mat hr hi => decide
  | tree hr hi => decide
  | word hl hn hr h => cases h <;> decide
  | arr ho hp nr hr h => cases h <;> decide
theorem kd_len (l : Lf7) : (kd l).length ≤ 1000 := by
  cases l with
  | sub n k => show ("subset" : Str).length ≤ 1000; decide
  | word cs => show ("word" : Str).length ≤ 1000; decide
  | arr o => show ("arrangement" : Str).length ≤ 1000; decide
  | cyc n => show ("cycle" : Str).length ≤ 1000; decide
  | mat n => show ("matching" : Str).length ≤ 1000; decide
  | tree n => show ("tree" : Str).length ≤ 1000; decide
  | perm n mv => show ("permutation" : Str).length ≤ 1000; decide
theorem call_3 {sp : Sp} {E0 : XK} {t u w : TE} {σ : L2.St} {H : Hp} {Q : VK} (h : t σ H fun v H1 => u σ H1 fun v2 H2 => w σ H2 fun v3 H3 => sp [v, v2, v3] H3 Q E0) : tCall sp [] E0 (tCons t (tCons u (tCons w tNil))) σ H Q := h
def spItem : Sp := fun vs H Q _ => ∃ (v0 v1 v2 : V) (l : Lf7) (t : PyData) (z : Str) (args : List PyData) (an : PyData), vs = [v0, v1, v2] ∧ Dat H v0 (lfD l) ∧ Dat H v1 t ∧ Dat H v2 (.tuple (.str z :: args)) ∧ Ans l t z args an ∧ ∀ u H', Same H H' → Dat H' u an → Q u H'
abbrev s_item : Stmt := top 41
section
variable {P : Program} {w : World} {K : PySem.W.Frag} {mg : Str → Option Value} {base : Heap}
abbrev NIt : List Str := ["_law_part", "_law_own", "_law_asked", "_law_word", "_law_kind", "_law_p"]
theorem sc_item : FnScope NIt ["_law_part", "_law_own", "_law_asked"] (defScope s_item) := ⟨rfl, rfl, rfl, by decide +kernel, rfl, by decide +kernel, by decide +kernel⟩
theorem okl_item {f fW fA fS fN : Addr} {fd fdW fdA fdS fdN : FuncData} (F : Fun K "_law_item" "_law_item" s_item f fd) (T : Nm mg) (D_witem : DefOk K mg "_law_word_item" s_witem ["_law_counts_here", "_law_letters", "_law_asked"] fW fdW) (D_aitem : DefOk K mg "_law_arrangement_item" s_aitem ["_law_order_here", "_law_row", "_law_asked"] fA fdA)
    (D_steps : DefOk K mg "_law_steps" s_steps ["_law_order_here", "_law_row", "_law_name"] fS fdS) (D_lnames : DefOk K mg "_law_names" s_names ["_law_order_here"] fN fdN) : FnOk P w K mg base CX0 10 f fd ["_law_part", "_law_own", "_law_asked"] spItem := by
  have G_witem : FnOk P w K mg base CX0 1 fW fdW ["_law_counts_here", "_law_letters", "_law_asked"] spWItem := okl_witem D_witem.F T
  have G_aitem : FnOk P w K mg base CX0 9 fA fdA ["_law_order_here", "_law_row", "_law_asked"] spAItem := okl_aitem D_aitem.F T D_steps D_lnames
  refine F.ok sc_item (fun vs H Q E h => ?_) (fun cdv A outer s H vs Q E hr h => ?_)
  · obtain ⟨v0, v1, v2, l, t, z, args, an, rfl, _⟩ := h
    rfl
  · obtain ⟨v0, v1, v2, l, t, z, args, an, rfl, h0, h1, h2, ha, q⟩ := h
    have hu1 := units1 hr
    have hr1 : Room 1 _ := hr.mono (by omega)
    refine ⟨_, (pss_cons (ps_par (i := 3) (j := 4) rfl sc_item.nd rfl rfl (by decide) rfl rfl (pa_cons (pe_ix ix_tup (pv 2) pe_int (fun _ _ => rfl)) (pa_cons (pe_ix ix_tup (pv 0) pe_int (fun _ _ => rfl)) pa_nil)) (by rfl))
      (pss_cons (ps_if (pt_cmpR op_eq (pv 4) pe_str (nomark _))
        (pss_cons (ps_if (pt_cmpR op_eq (pv 3) pe_str (nomark _))
          (pss_one (ps_ret (pe_callB cr_lenS (by rfl) T.len PySem.boot_len (pa_cons (pe_lc (own := [("_law_p", 5)]) (g := (gName 5)) (tt := tTest (tOp (rI0 fun i j => .bl (decide (i < j))) (tVar 5) (tOp (rIxT K) (tVar 2) (tC (.int 1))))) (te := tVar 5) rfl sc_item.nd (pi_tup (pv 1)) (blkOk_by (N := NIt) (sc := defScope s_item) (by decide +kernel))
          (fun _ _ _ _ _ => (pg_name (i := 5) sc_item.nd rfl (Or.inl rfl))) (fun _ _ _ _ _ => pts_one (pt_cmpR op_lt (pv 5) (pe_ix ix_tup (pv 2) pe_int (fun _ _ => rfl)) (nomark _))) (fun _ _ _ _ _ => (pv 5))) pa_nil))))
          pss_nil)
        (pss_one (ps_ret (pe_ifExp (pt_cmpR op_eq (pv 3) pe_str (nomark _)) (pe_ix ix_tup (pv 1) (pe_ix ix_tup (pv 2) pe_int (fun _ _ => rfl)) (fun _ _ => rfl)) (pe_cmpR op_in_seq (pe_ix ix_tup (pv 2) pe_int (fun _ _ => rfl)) (pv 1) rfl)))))
        pss_nil)
      (pss_cons (ps_if (pt_cmpR op_eq (pv 4) pe_str (nomark _))
        (pss_one (ps_ret (pe_call G_witem hr1 rfl D_witem.g D_witem.F.kp D_witem.b .nil pass0 (pa_cons (pe_ix ix_tup (pv 0) pe_int (fun _ _ => rfl)) (pa_cons (pv 1) (pa_cons (pv 2) pa_nil))))))
        pss_nil)
      (pss_cons (ps_if (pt_cmpR op_eq (pv 4) pe_str (nomark _))
        (pss_one (ps_ret (pe_call G_aitem hr rfl D_aitem.g D_aitem.F.kp D_aitem.b .nil pass0 (pa_cons (pe_ix ix_tup (pv 0) pe_int (fun _ _ => rfl)) (pa_cons (pv 1) (pa_cons (pv 2) pa_nil))))))
        pss_nil)
      (pss_one (ps_ret (pe_ifExp (pt_cmpR (op_inStrs hu1) (pv 3) (pe_tupF (pa_cons pe_str (pa_cons pe_str pa_nil))) rfl) (pe_bmF PySem.F.plainAttrs_tuple PySem.F.slot_tuple_index PySem.F.type_tuple_index mt_tup_indexI (pv 1) (pa_cons (pe_ix ix_tup (pv 2) pe_int (fun _ _ => rfl)) pa_nil)) (pe_ix ix_tup (pv 1) (pe_ix ix_tup (pv 2) pe_int (fun _ _ => rfl)) (fun _ _ => rfl))))))))), ?_⟩
    have hzl := ans_z ha
    have E0 : EnvOk [(0, lfD l), (1, t), (2, .tuple (.str z :: args))] [some v0, some v1, some v2, none, none, none] H := fun p hp => by
      simp only [List.mem_cons, List.not_mem_nil, or_false] at hp
      rcases hp with rfl | rfl | rfl
      · exact ⟨_, rfl, h0⟩
      · exact ⟨_, rfl, h1⟩
      · exact ⟨_, rfl, h2⟩
    refine sq_par (mks_cons (mk_ixT (K := K) (ds := .str z :: args) (j := 0) (d := .str z) (mk_var (i := 2) (by simp)) rfl rfl) (mks_cons (mk_ixT (K := K) (ds := .str (kd l) :: lfR l) (j := 0) (d := .str (kd l)) (mk_var (i := 0) (by simp [lfD])) rfl rfl) mks_nil)) E0 fun w3 w4 H1 S1 d3 d4 => ?_
    obtain rfl := dat_strV d3
    obtain rfl := dat_strV d4
    have E1 : EnvOk [(4, .str (kd l)), (3, .str z), (0, lfD l), (1, t), (2, .tuple (.str z :: args))] [some v0, some v1, some v2, some (.str z), some (.str (kd l)), none] H1 := fun p hp => by
      simp only [List.mem_cons, List.not_mem_nil, or_false] at hp
      rcases hp with rfl | rfl | rfl | rfl | rfl
      · exact ⟨_, rfl, d4⟩
      · exact ⟨_, rfl, d3⟩
      · exact ⟨_, rfl, h0.same S1⟩
      · exact ⟨_, rfl, h1.same S1⟩
      · exact ⟨_, rfl, h2.same S1⟩
    have T4 : ∀ {zz : Str}, zz.length ≤ 1000 → MkT [(4, .str (kd l)), (3, .str z), (0, lfD l), (1, t), (2, .tuple (.str z :: args))] (tTest (tOp rEq (tVar 4) (tC (.str zz)))) (decide (kd l = zz)) := fun hl => by
      have := mk_eqS (a := kd l) (mk_var (G := [(4, .str (kd l)), (3, .str z), (0, lfD l), (1, t), (2, .tuple (.str z :: args))]) (i := 4) (by simp)) (mk_str hl) rfl
      rw [dec_str] at this
      exact mkt this
    have T3 : ∀ {zz : Str}, zz.length ≤ 1000 → MkT [(4, .str (kd l)), (3, .str z), (0, lfD l), (1, t), (2, .tuple (.str z :: args))] (tTest (tOp rEq (tVar 3) (tC (.str zz)))) (decide (z = zz)) := fun hl => by
      have := mk_eqS (a := z) (mk_var (G := [(4, .str (kd l)), (3, .str z), (0, lfD l), (1, t), (2, .tuple (.str z :: args))]) (i := 3) (by simp)) (mk_str hl) rfl
      rw [dec_str] at this
      exact mkt this
    have q1 : ∀ u H', Same H1 H' → Dat H' u an → Q u H' := fun u H' S => q u H' (S1.trans S)
    -- the last line: a place, or what stands at a place
    have fin : ∀ (ds : List PyData) (i : Nat) (d : PyData) (Hx : Hp), Same H1 Hx → t = .tuple ds → args = [.int (i : Nat)] → (z = "predecessor" ∨ z = "preimage" → ∃ r : List Nat, ds = intsD r ∧ i ∈ r ∧ an = .int (r.idxOf i : Nat)) → (¬ (z = "predecessor" ∨ z = "preimage") → ds[i]? = some an) →
        tIf (tTest (tOp (rInStrs false) (tVar 3) (tTupF (tCons (tC (.str "predecessor")) (tCons (tC (.str "preimage")) tNil))))) (tBMF (rTupIxI K) (tVar 1) (tCons (tOp (rIxT K) (tVar 2) (tC (.int 1))) tNil)) (tOp (rIxT K) (tVar 1) (tOp (rIxT K) (tVar 2) (tC (.int 1)))) [some v0, some v1, some v2, some (.str z), some (.str (kd l)), none] Hx Q := fun ds i d Hx S et ea hA hB => by
      subst et
      subst ea
      refine tst_opX ⟨_, rfl, ⟨(by show 2 ≤ sizeLine; decide), fun p o np no => ⟨.str z, p, ["predecessor", "preimage"], .str z hzl, rfl, TP.fz upd_same no, _, rfl, ?_⟩⟩⟩
      have Sp := same_new (o := HO.frz o (.tup [V.str "predecessor", V.str "preimage"])) np
      generalize upd Hx p (.frz o (.tup [V.str "predecessor", V.str "preimage"])) = Hy at Sp ⊢
      have Sy := S.trans Sp
      have eany : ((["predecessor", "preimage"] : List Str).any fun y => eqStr y (.str z)) = decide (z = "predecessor" ∨ z = "preimage") := by
        show ((z == "predecessor") || ((z == "preimage") || false)) = _
        by_cases e1 : z = "predecessor"
        · simp [e1]
        · by_cases e2 : z = "preimage"
          · simp [e2]
          · simp [e1, e2]
      rw [if_neg Bool.false_ne_true, eany]
      have E2 := E1.same Sy
      have MI : Mk [(4, .str (kd l)), (3, .str z), (0, lfD l), (1, .tuple ds), (2, .tuple (.str z :: [.int (i : Nat)]))] (tOp (rIxT K) (tVar 2) (tC (.int 1))) (.int (i : Nat)) := mk_ixT (K := K) (ds := [.str z, .int (i : Nat)]) (j := 1) (mk_var (i := 2) (by simp)) rfl rfl
      by_cases hz : z = "predecessor" ∨ z = "preimage"
      · obtain ⟨r, rfl, hm, rfl⟩ := hA hz
        obtain ⟨f1, f2⟩ := idx_first hm
        have dv := (h1.same S1).same Sy
        refine if_t (decide_eq_true hz) ⟨_, rfl, fz_dat dv, MI _ Hy _ E2 fun u3 H3 S3 d3' => ?_⟩
        obtain rfl := dat_isInt d3'
        obtain ⟨a1, xs1, rfl, ha1, hx1⟩ := dat_tup dv
        obtain rfl := dat_intsV (r := r) hx1
        refine ⟨a1, r.map fun (x : Nat) => (x : Int), _, _, rfl, rfl, by rw [List.map_map]; exact sqT_rd (upR ha1 S3), f1, f2, q1 _ H3 (Sy.trans S3) (.int _)⟩
      · refine if_f (decide_eq_false hz) (mk_ixTn (K := K) (ds := ds) (j := i) (d := an) (mk_var (i := 1) (by simp)) MI (hB hz) _ Hy _ E2 fun u3 H3 S3 d3' => q1 u3 H3 (Sy.trans S3) d3')
    have iAt : ∀ (r : List Nat) (i : Nat), i < r.length → (intsD r)[i]? = some (.int (r.getD i 0 : Nat)) := fun r i h => by
      unfold intsD
      rw [List.getElem?_map, List.getElem?_eq_getElem h, List.getD_eq_getElem?_getD, List.getElem?_eq_getElem h]
      rfl
    cases ha with
    | @sub n k r z i hrl hz hi =>
      refine sq_if1 (T4 (zz := "subset") (by decide)) E1 fun H2 S2 => ?_
      have E2 := E1.same S2
      have M2 : Mk [(4, .str (kd (.sub n k))), (3, .str z), (0, lfD (.sub n k)), (1, rowD r), (2, .tuple (.str z :: [.int (i : Nat)]))] (tOp (rIxT K) (tVar 2) (tC (.int 1))) (.int (i : Nat)) := mk_ixT (K := K) (ds := [.str z, .int (i : Nat)]) (j := 1) (mk_var (i := 2) (by simp)) rfl rfl
      have M1 : Mk [(4, .str (kd (.sub n k))), (3, .str z), (0, lfD (.sub n k)), (1, rowD r), (2, .tuple (.str z :: [.int (i : Nat)]))] (tVar 1) (rowD r) := mk_var (by simp)
      rcases hz with rfl | rfl | rfl
      · refine sq_if0 (T3 (zz := "rank") (by decide)) E2 fun H3 S3 => ?_
        exact ret_ofX (mk_ifF (T3 (zz := "select") (by decide)) (mk_inI (K := K) M2 M1) _ H3 _ (E2.same S3) fun u H4 S4 d4' => q1 u H4 ((S2.trans S3).trans S4) d4')
      · refine sq_if1 (T3 (zz := "rank") (by decide)) E2 fun H3 S3 => ?_
        have MF := mkf_tupT (K := K) (N := 6) (i := 5) (g := fun (x : Nat) => PyData.int (x : Int)) (p := fun x => decide (x < i)) (rs := r) M1 (by omega) (fun _ _ => rfl) rfl (by decide) (tt := tTest (tOp (rI0 fun i j => .bl (decide (i < j))) (tVar 5) (tOp (rIxT K) (tVar 2) (tC (.int 1))))) fun y hy => mkt (mk_cmp (mk_var List.mem_cons_self) (mk_ixT (K := K) (j := 1) (d := .int (i : Nat)) (ds := [.str "rank", .int (i : Nat)]) (mk_var (i := 2) (by simp)) rfl rfl) (congrArg V.bl (decide_eq_decide.mpr (by omega))))
        exact ret_ofX (mkn_lenL (K := K) MF.n (List.length_map ..) _ H3 _ rfl (E2.same S3) fun u H4 S4 d4' => q1 u H4 ((S2.trans S3).trans S4) d4')
      · refine sq_if0 (T3 (zz := "rank") (by decide)) E2 fun H3 S3 => ?_
        have hil := hi rfl
        exact ret_ofX (mk_ifT (T3 (zz := "select") (by decide)) (mk_ixTn (K := K) (d := .int (r.getD i 0 : Nat)) M1 M2 (iAt r i hil)) _ H3 _ (E2.same S3) fun u H4 S4 d4' => q1 u H4 ((S2.trans S3).trans S4) d4')
    | @word cs r z args an hl hn hrl h =>
      refine sq_if0 (T4 (zz := "subset") (by decide)) E1 fun H2 S2 => ?_
      refine sq_if1 (T4 (zz := "word") (by decide)) (E1.same S2) fun H3 S3 => ?_
      refine ret_ofX (call_3 (mk_ixT (K := K) (ds := [.str "word", cntsD cs]) (j := 1) (d := cntsD cs) (mk_var (G := [(4, .str (kd (.word cs))), (3, .str z), (0, lfD (.word cs)), (1, srowD r), (2, .tuple (.str z :: args))]) (i := 0) (by simp [lfD, kd, lfR])) rfl rfl _ H3 _ ((E1.same S2).same S3) fun u H4 S4 d4' => ⟨_, rfl, _, rfl, ?_⟩))
      have SS := (S2.trans S3).trans S4
      exact ⟨u, v1, v2, z, cs, r, args, an, rfl, d4', (h1.same S1).same SS, (h2.same S1).same SS, hl, hn, by omega, h, fun u5 H5 S5 d5 => q1 u5 H5 (SS.trans S5) d5⟩
    | @arr o r z nm args ho hp nr hrl h =>
      refine sq_if0 (T4 (zz := "subset") (by decide)) E1 fun H2 S2 => ?_
      refine sq_if0 (T4 (zz := "word") (by decide)) (E1.same S2) fun H3 S3 => ?_
      refine sq_if1 (T4 (zz := "arrangement") (by decide)) ((E1.same S2).same S3) fun H4 S4 => ?_
      refine ret_ofX (call_3 (mk_ixT (K := K) (ds := [.str "arrangement", o]) (j := 1) (d := o) (mk_var (G := [(4, .str (kd (.arr o))), (3, .str z), (0, lfD (.arr o)), (1, srowD r), (2, .tuple (.str z :: args))]) (i := 0) (by simp [lfD, kd, lfR])) rfl rfl _ H4 _ (((E1.same S2).same S3).same S4) fun u H5 S5 d5 => ⟨_, rfl, _, rfl, ?_⟩))
      have SS := (S2.trans S3).trans (S4.trans S5)
      exact ⟨u, v1, v2, o, r, z, nm, args, rfl, d5, (h1.same S1).same SS, (h2.same S1).same SS, ho, hp, nr, hrl, h, fun u5 H5 S5' d5' => q1 u5 H5 (SS.trans S5') d5'⟩
    | @cyc n r z i hrl hz hi hm =>
      refine sq_if0 (T4 (zz := "subset") (by decide)) E1 fun H2 S2 => ?_
      refine sq_if0 (T4 (zz := "word") (by decide)) (E1.same S2) fun H3 S3 => ?_
      refine sq_if0 (T4 (zz := "arrangement") (by decide)) ((E1.same S2).same S3) fun H4 S4 => ?_
      refine ret_ofX (fin (intsD r) i .none H4 ((S2.trans S3).trans S4) rfl rfl (fun e => ⟨r, rfl, hm, ?_⟩) (fun e => ?_))
      · rcases hz with rfl | rfl
        · exact absurd e (by decide)
        · rfl
      · rcases hz with rfl | rfl
        · exact iAt r i hi
        · exact absurd (Or.inl rfl) e
    | @perm n mv r z i hrl hz hi hm =>
      refine sq_if0 (T4 (zz := "subset") (by decide)) E1 fun H2 S2 => ?_
      refine sq_if0 (T4 (zz := "word") (by decide)) (E1.same S2) fun H3 S3 => ?_
      refine sq_if0 (T4 (zz := "arrangement") (by decide)) ((E1.same S2).same S3) fun H4 S4 => ?_
      refine ret_ofX (fin (intsD r) i .none H4 ((S2.trans S3).trans S4) rfl rfl (fun e => ⟨r, rfl, hm, ?_⟩) (fun e => ?_))
      · rcases hz with rfl | rfl
        · exact absurd e (by decide)
        · rfl
      · rcases hz with rfl | rfl
        · exact iAt r i hi
        · exact absurd (Or.inr rfl) e
    | @mat n r i hrl hi =>
      refine sq_if0 (T4 (zz := "subset") (by decide)) E1 fun H2 S2 => ?_
      refine sq_if0 (T4 (zz := "word") (by decide)) (E1.same S2) fun H3 S3 => ?_
      refine sq_if0 (T4 (zz := "arrangement") (by decide)) ((E1.same S2).same S3) fun H4 S4 => ?_
      exact ret_ofX (fin (intsD r) i .none H4 ((S2.trans S3).trans S4) rfl rfl (fun e => absurd e (by decide)) (fun e => iAt r i hi))
    | @tree n r i hrl hi =>
      refine sq_if0 (T4 (zz := "subset") (by decide)) E1 fun H2 S2 => ?_
      refine sq_if0 (T4 (zz := "word") (by decide)) (E1.same S2) fun H3 S3 => ?_
      refine sq_if0 (T4 (zz := "arrangement") (by decide)) ((E1.same S2).same S3) fun H4 S4 => ?_
      exact ret_ofX (fin (.none :: intsD r) (i + 1) .none H4 ((S2.trans S3).trans S4) rfl rfl (fun e => absurd e (by decide)) (fun e => by rw [List.getElem?_cons_succ]; exact iAt r i hi))
end
end KB
set_option maxRecDepth 100000
set_option maxHeartbeats 8000000
namespace KB
open PySem PySem.Spec PyProof.Rows L2
/-! ### answer_to -/
def spOf : Lf7 → Sp
  | .sub _ _ => spDSub
  | .word _ => spDWord
  | .arr _ => spDArr
  | .cyc _ => spIxOf "successor"
  | .mat _ => spIx
  | .tree _ => spIx
  | .perm _ _ => spIxOf "image"
structure Descs (P : Program) (w : World) (K : PySem.W.Frag) (mg : Str → Option Value) (base : Heap) (dD : Addr) (S : Addr → Option Sp) : Prop where
  g : mg "DESCRIPTIONS" = some (.ref dD)
  k : ∃ es n, KDict K w dD es n
  held : ∀ f sp, S f = some sp → Held P w K mg base 15 f sp
  at_ : ∀ l : Lf7, ∃ f, PySem.W.nsIn K dD (kd l) = some (some (.ref f)) ∧ S f = some (spOf l)
def answD (an : PyData) : PyData := .tuple [.tuple [], .tuple [an]]
def qryD (z : Str) (args : List PyData) : PyData := .tuple (.tuple [] :: .str z :: args)
def spAns : Sp := fun vs H Q _ => ∃ (v0 v1 v2 : V) (l : Lf7) (t : PyData) (z : Str) (args : List PyData) (an : PyData), vs = [v0, v1, v2] ∧ Dat H v0 (lfD l) ∧ Dat H v1 t ∧ Dat H v2 (qryD z args) ∧ Ans l t z args an ∧ ∀ u H', Same H H' → Dat H' u (answD an) → Q u H'
/-- what is described is what the relation says -/
theorem desc_ok {l : Lf7} {t : PyData} {z : Str} {args : List PyData} {an : PyData} (h : Ans l t z args an) {v0 v1 v3 : V} {H : Hp} {Q : VK} (h0 : Dat H v0 (lfD l)) (h1 : Dat H v1 t) (h3 : Dat H v3 (.tuple args)) (q : ∀ u H', Same H H' → Dat H' u an → Q u H') : spOf l [v0, v1, .str z, v3] H Q L2.E0 := by
  have hzl := ans_z h
  cases h with
  | @sub n k r z i hrl hz hi =>
    refine ⟨v0, v1, v3, z, r, [], i, rfl, hzl, by omega, h1, h3, fun e1 e2 => ?_, q⟩
    rcases hz with rfl | rfl | rfl
    · exact absurd rfl e1
    · exact absurd rfl e2
    · exact hi rfl
  | @word cs r z args an hl hn hrl h => exact ⟨v0, v1, v3, z, cs, r, args, an, rfl, h0, h1, h3, hl, hn, by omega, h, q⟩
  | @arr o r z nm args ho hp nr hrl h => exact ⟨v0, v1, v3, z, nm, o, r, args, rfl, h0, h1, h3, ho, hp, hrl, h, q⟩
  | @cyc n r z i hrl hz hi hm => exact ⟨v0, v1, v3, z, r, [], i, rfl, hzl, h1, h3, hi, hm, q⟩
  | @perm n mv r z i hrl hz hi hm => exact ⟨v0, v1, v3, z, r, [], i, rfl, hzl, h1, h3, hi, hm, q⟩
  | @mat n r i hrl hi =>
    refine ⟨v0, v1, v3, "partner", intsD r, [], i, .int (r.getD i 0 : Nat), rfl, h1, h3, ?_, q⟩
    unfold intsD
    rw [List.getElem?_map, List.getElem?_eq_getElem hi, List.getD_eq_getElem?_getD, List.getElem?_eq_getElem hi]
    rfl
  | @tree n r i hrl hi =>
    refine ⟨v0, v1, v3, "parent", .none :: intsD r, [], i + 1, .int (r.getD i 0 : Nat), rfl, h1, h3, ?_, q⟩
    rw [List.getElem?_cons_succ]
    unfold intsD
    rw [List.getElem?_map, List.getElem?_eq_getElem hi, List.getD_eq_getElem?_getD, List.getElem?_eq_getElem hi]
    rfl
theorem tc_of {v : V} {σ : L2.St} {H : Hp} {Q : VK} (h : Q v H) : tC v σ H Q := h
theorem callA_of {i : Nat} {S : Addr → Option Sp} {t : TA} {σ : L2.St} {H : Hp} {Q : VK} (f : Addr) (sp : Sp) (hf : σ[i]? = some (some (.ref f))) (hS : S f = some sp) (h : t σ H fun vs H1 => sp vs H1 Q L2.E0) : tCallA i S t σ H Q := ⟨f, sp, hf, hS, h⟩
abbrev s_answer : Stmt := top 3
abbrev s_stepin : Stmt := top 4
section
variable {P : Program} {w : World} {K : PySem.W.Frag} {mg : Str → Option Value} {base : Heap}
abbrev NAn : List Str := ["space", "obj", "query", "selections", "part", "item", "step", "describe"]
theorem sc_answer : FnScope NAn ["space", "obj", "query"] (defScope s_answer) := ⟨rfl, rfl, rfl, by decide +kernel, rfl, by decide +kernel, by decide +kernel⟩
theorem ok_answer {f fS dD : Addr} {fd fdS : FuncData} {S : Addr → Option Sp} (F : Fun K "answer_to" "answer_to" s_answer f fd) (Z : Descs P w K mg base dD S) (D_step : DefOk K mg "step_in" s_stepin ["part", "item", "step"] fS fdS) : FnOk P w K mg base CX0 16 f fd ["space", "obj", "query"] spAns := by
  have G_step : FnOk P w K mg base CX0 0 fS fdS ["part", "item", "step"] (fun _ _ _ _ => False) := fn_none
  obtain ⟨es, n, DD⟩ := Z.k
  refine F.ok sc_answer (fun vs H Q E h => ?_) (fun cdv A outer s H vs Q E hr h => ?_)
  · obtain ⟨v0, v1, v2, l, t, z, args, an, rfl, _⟩ := h
    rfl
  · obtain ⟨v0, v1, v2, l, t, z, args, an, rfl, h0, h1, h2, ha, q⟩ := h
    have hr0 : Room 0 _ := hr.mono (by omega)
    refine ⟨_, (pss_cons (ps_set (i := 3) sc_answer.nd rfl (Or.inl rfl) (pe_tupF pa_nil))
      (pss_cons (ps_set (i := 4) sc_answer.nd rfl (Or.inl rfl) (pv 0))
      (pss_cons (ps_set (i := 5) sc_answer.nd rfl (Or.inl rfl) (pv 1))
      (pss_cons (ps_for PassesOwn.never rfl (pi_tup (pe_ix ix_tup (pv 2) pe_int (fun _ _ => rfl))) (pg_name (i := 6) sc_answer.nd rfl (Or.inl rfl))
        (pss_cons (ps_if (pt_cmpR op_eq (pe_ix ix_tup (pv 4) pe_int (fun _ _ => rfl)) pe_str (nomark _))
          (pss_cons (ps_set (i := 3) sc_answer.nd rfl (Or.inl rfl) (pe_op op_catF (pv 3) (pe_tupF (pa_cons (pe_ix ix_tup (pv 5) pe_int (fun _ _ => rfl)) pa_nil))))
          (pss_one (ps_if (pt_cmpR op_ne (pe_ix ix_tup (pv 5) pe_int (fun _ _ => rfl)) (pv 6) (nomark _))
            (pss_one (ps_ret (pe_tupF (pa_cons (pv 3) (pa_cons (pe_tupF pa_nil) pa_nil)))))
            pss_nil)))
          pss_nil)
        (pss_one (ps_asg (pe_call G_step hr0 rfl D_step.g D_step.F.kp D_step.b .nil pass0 (pa_cons (pv 4) (pa_cons (pv 5) (pa_cons (pv 6) pa_nil)))) (pg_tup rfl (pgs_cons (pg_name (i := 4) sc_answer.nd rfl (Or.inl rfl)) (pgs_cons (pg_name (i := 5) sc_answer.nd rfl (Or.inl rfl)) pgs_nil)))))))
      (pss_cons (ps_set (i := 7) sc_answer.nd rfl (Or.inl rfl) (pe_ix (ix_kd (X := _) DD) (pe_glob (v := .ref dD) rfl Z.g rfl) (pe_ix ix_tup (pv 4) pe_int (fun _ _ => rfl)) (fun _ _ => rfl)))
      (pss_one (ps_ret (pe_tupF (pa_cons (pv 3) (pa_cons (pe_tupF (pa_cons (pe_callA (i := 7) (S := S) Z.held hr rfl (Or.inl rfl) (pa_cons (pv 4) (pa_cons (pv 5) (pa_cons (pe_ix ix_tup (pv 2) pe_int (fun _ _ => rfl)) (pa_cons (pe_slice sl_tupF (pv 2) (po_some pe_int) po_none) pa_nil))))) pa_nil)) pa_nil)))))))))), ?_⟩
    have hzl := ans_z ha
    refine sq_anyX ⟨(by show 0 ≤ sizeLine; decide), fun p0 o0 n0 no0 => ?_⟩
    have S0 := same_new (o := HO.frz o0 (.tup [])) n0
    have e0 : TP (upd H p0 (.frz o0 (.tup []))) p0 [] := TP.fz upd_same no0
    generalize upd H p0 (.frz o0 (.tup [])) = H1 at S0 e0 ⊢
    refine sq_anyX ⟨_, rfl, ?_⟩
    refine sq_anyX ⟨_, rfl, ?_⟩
    have E1 : EnvOk [(3, .tuple []), (4, lfD l), (5, t), (2, qryD z args)] [some v0, some v1, some v2, some (.ref p0), some v0, some v1, none, none] H1 := fun p hp => by
      simp only [List.mem_cons, List.not_mem_nil, or_false] at hp
      rcases hp with rfl | rfl | rfl | rfl
      · exact ⟨_, rfl, .tup e0 .nil⟩
      · exact ⟨_, rfl, h0.same S0⟩
      · exact ⟨_, rfl, h1.same S0⟩
      · exact ⟨_, rfl, h2.same S0⟩
    have M2 : ∀ {G : List (Nat × PyData)}, (2, qryD z args) ∈ G → Mk G (tVar 2) (.tuple (.tuple [] :: .str z :: args)) := fun h => mk_var h
    refine sq_of (mk_ixT (K := K) (ds := .tuple [] :: .str z :: args) (j := 0) (d := .tuple []) (M2 (G := [(3, .tuple []), (4, lfD l), (5, t), (2, qryD z args)]) (by simp)) rfl rfl _ H1 _ E1 fun u H2 S2 d2 => ?_)
    obtain ⟨a, xs, rfl, ha2, hx2⟩ := dat_tup d2
    cases hx2
    refine ⟨a, rfl, ⟨_, sqT_rd ha2⟩, for_tup (K := K) (xs := []) (fun _ σ' H' => σ' = [some v0, some v1, some v2, some (.ref p0), some v0, some v1, none, none] ∧ H' = H2) ⟨rfl, rfl⟩ (fun _ σ' H' _ g => by rw [g.2]; exact sqT_rd ha2) (fun j y σ' H' hy => by simp at hy) ?_⟩
    rintro σ' H' ⟨rfl, rfl⟩
    have E2 := E1.same S2
    -- describe
    obtain ⟨fD, hns, hS⟩ := Z.at_ l
    dsimp only
    refine sq_anyX (op_ofX (tc_of ?_))
    refine (mk_ixT (K := K) (ds := .str (kd l) :: lfR l) (j := 0) (d := .str (kd l)) (mk_var (G := [(3, .tuple []), (4, lfD l), (5, t), (2, qryD z args)]) (i := 4) (by simp [lfD])) rfl rfl _ H' _ E2 fun u H3 S3 d3 => ?_)
    obtain rfl := dat_strV d3
    refine ⟨kd l, .ref fD, .ref fD, rfl, rfl, hns, rfl, ?_⟩
    have S03 := (S0.trans S2).trans S3
    have E3 : EnvOk [(2, qryD z args)] [some v0, some v1, some v2, some (.ref p0), some v0, some v1, none, some (.ref fD)] H3 := fun p hp => by
      rw [List.mem_singleton] at hp
      subst hp
      exact ⟨_, rfl, h2.same S03⟩
    refine ret_ofX (cons_ofT ⟨_, rfl, consA_of (cons_ofT (callA_of fD (spOf l) rfl hS ⟨_, rfl, _, rfl, ?_⟩))⟩)
    refine consA_of (mk_ixT (K := K) (ds := .tuple [] :: .str z :: args) (j := 1) (d := .str z) (M2 List.mem_cons_self) rfl rfl _ H3 _ E3 fun u4 H4 S4 d4 => ?_)
    obtain rfl := dat_strV d4
    refine consA_of (mk_slFromA (K := K) (ds := .tuple [] :: .str z :: args) (n := 2) (M2 List.mem_cons_self) (mk_nat (y := 2) rfl) _ H4 _ (E3.same S4) fun u5 H5 S5 d5 => ?_)
    have S05 := (S03.trans S4).trans S5
    refine desc_ok ha (h0.same S05) (h1.same S05) d5 fun u6 H6 S6 d6 => ?_
    refine ⟨(by show 1 ≤ sizeLine; decide), fun p7 o7 n7 no7 => ⟨(by show 2 ≤ sizeLine; decide), fun p8 o8 n8 no8 => ?_⟩⟩
    have S7 := same_new (o := HO.frz o7 (.tup [u6])) n7
    have S8 := same_new (o := HO.frz o8 (.tup [.ref p0, .ref p7])) n8
    refine q _ _ ((S05.trans S6).trans (S7.trans S8)) (.tup (TP.fz upd_same no8) (.cons (.tup (upR e0 ((S2.trans S3).trans (((S4.trans S5).trans S6).trans (S7.trans S8)))) .nil) (.cons (Dat.same S8 (.tup (TP.fz upd_same no7) (.cons (d6.same S7) .nil))) .nil)))
end
end KB
set_option maxRecDepth 100000
set_option maxHeartbeats 8000000
namespace KB
open PySem PySem.Spec PyProof.Rows L2
/-! ### the queries of a leaf -/
def LfOk : Lf7 → Prop
  | .sub n k => n ≤ 5 ∧ k ≤ n
  | .word cs => CnOk cs 5
  | .arr o => orderB 6 o = true ∧ (namesN 6 o).length ≤ 4 ∧ (namesN 6 o).Nodup
  | .cyc n => 1 ≤ n ∧ n ≤ 4
  | .mat n => n ≤ 3
  | .tree n => 1 ≤ n ∧ n ≤ 4
  | .perm n mv => n ≤ 4 ∧ (∀ x ∈ mv, x < n) ∧ mv.length ≤ 100
def qP (w : Str) (lo n : Nat) : List PyData := (List.range n).map fun p => .tuple [.str w, .int ((lo : Nat) + (p : Nat) : Int)]
def okQs : Lf7 → List PyData → Prop
  | .sub n k => fun ds => ds = qW "contains" n ++ qW "rank" (n + 1) ++ qW "select" k
  | .word cs => fun ds => ds = rowQ cs
  | .arr o => fun ds => ∃ ns, ns.Perm (namesN 6 o) ∧ ds = arrQ ns
  | .cyc n => fun ds => ds = qP "successor" 0 n ++ qP "predecessor" 0 n
  | .mat n => fun ds => ds = qP "partner" 0 (2 * n)
  | .tree n => fun ds => ds = qP "parent" 1 (n - 1)
  | .perm n _ => fun ds => ds = qP "image" 0 n ++ qP "preimage" 0 n
theorem merge_new : ∀ (more kvs : List (Key × V)), ((kvs ++ more).map (·.1)).Nodup → mergeK kvs more = kvs ++ more
  | [], kvs, _ => by rw [List.append_nil]; rfl
  | p :: more, kvs, h => by
    have hn : valV kvs p.1 = none := by
      cases e : valV kvs p.1 with
      | none => rfl
      | some v =>
        exfalso
        unfold valV at e
        obtain ⟨q, hq, _⟩ := Option.map_eq_some_iff.mp e
        have hm := List.mem_of_find?_eq_some hq
        have he : q.1 = p.1 := by simpa using List.find?_some hq
        rw [List.map_append, List.nodup_append] at h
        exact h.2.2 q.1 (List.mem_map_of_mem hm) p.1 (List.mem_map_of_mem List.mem_cons_self) he
    show mergeK (putK kvs p.1 p.2) more = _
    rw [putK_new p.2 hn, merge_new more (kvs ++ [(p.1, p.2)]) (by rw [List.append_assoc]; exact h), List.append_assoc]
    rfl
def ownM : Lf7 → List Str
  | .cyc _ => ["successor", "predecessor"]
  | .mat _ => ["partner"]
  | .tree _ => ["parent"]
  | .perm _ _ => ["image", "preimage"]
  | _ => []
def numM : Lf7 → Nat
  | .cyc n => n
  | .mat n => 2 * n
  | .tree n => n
  | .perm n _ => n
  | _ => 0
def loM : Lf7 → Nat
  | .tree _ => 1
  | _ => 0
def isOwn : Lf7 → Bool
  | .sub _ _ => false
  | .word _ => false
  | .arr _ => false
  | _ => true
def kvM (t1 t2 t3 : Addr) : List (Key × V) := [(.inr "cycle", .ref t1), (.inr "matching", .ref t2), (.inr "permutation", .ref t3)]
def qF (l : Lf7) : PyData → List PyData := fun d => (List.range (numM l - loM l)).map fun p => .tuple [d, .int ((loM l : Nat) + (p : Nat) : Int)]
theorem qF_noL (l : Lf7) {d : PyData} (h : noL d = true) : noLs (qF l d) = true := noLs_iff.mpr fun e he => by
  obtain ⟨k, _, rfl⟩ := List.mem_map.mp he
  simp [noL, noLs, h]
theorem qF_len (l : Lf7) (d : PyData) : (qF l d).length = numM l - loM l := by unfold qF; rw [List.length_map, List.length_range]
theorem qFs_len (l : Lf7) : ∀ ds : List PyData, (ds.flatMap (qF l)).length = ds.length * (numM l - loM l)
  | [] => by simp
  | d :: ds => by
    rw [List.flatMap_cons, List.length_append, qFs_len l ds, qF_len, List.length_cons, Nat.succ_mul]
    omega
theorem num_le {l : Lf7} (h : LfOk l) : numM l ≤ 10 := by
  cases l <;> simp only [LfOk] at h <;> simp only [numM] <;> omega
theorem own_le (l : Lf7) : (ownM l).length ≤ 2 := by cases l <;> simp [ownM]
theorem own_qs {l : Lf7} (h : isOwn l = true) : okQs l (((ownM l).map PyData.str).flatMap (qF l)) := by
  cases l with
  | cyc n =>
    show (([("successor" : Str), "predecessor"]).map PyData.str).flatMap (qF (.cyc n)) = qP "successor" 0 n ++ qP "predecessor" 0 n
    rw [List.map_cons, List.map_cons, List.flatMap_cons, List.flatMap_cons, List.map_nil, List.flatMap_nil, List.append_nil]
    rfl
  | mat n =>
    show (([("partner" : Str)]).map PyData.str).flatMap (qF (.mat n)) = qP "partner" 0 (2 * n)
    rw [List.map_cons, List.flatMap_cons, List.map_nil, List.flatMap_nil, List.append_nil]
    rfl
  | tree n =>
    show (([("parent" : Str)]).map PyData.str).flatMap (qF (.tree n)) = qP "parent" 1 (n - 1)
    rw [List.map_cons, List.flatMap_cons, List.map_nil, List.flatMap_nil, List.append_nil]
    rfl
  | perm n mv =>
    show (([("image" : Str), "preimage"]).map PyData.str).flatMap (qF (.perm n mv)) = qP "image" 0 n ++ qP "preimage" 0 n
    rw [List.map_cons, List.map_cons, List.flatMap_cons, List.flatMap_cons, List.map_nil, List.flatMap_nil, List.append_nil]
    rfl
  | _ => cases h
theorem own_n {l : Lf7} (h : isOwn l = true) (hl : LfOk l) : ∃ (n : Nat) (rest : List PyData), lfR l = .int (n : Nat) :: rest ∧ n ≤ 5 ∧ n * (1 + (if decide (kd l = "matching") = true then 1 else 0)) = numM l := by
  have F : ∀ z : Str, decide (z = "matching") = false → ∀ n : Nat, n * (1 + (if decide (z = "matching") = true then 1 else 0)) = n := fun z hz n => by
    rw [if_neg (by rw [hz]; exact Bool.false_ne_true)]
    omega
  cases l with
  | cyc n =>
    have hn : n ≤ 4 := hl.2
    exact ⟨n, [], rfl, by omega, F "cycle" (by decide +kernel) n⟩
  | mat n =>
    have hn : n ≤ 3 := hl
    exact ⟨n, [], rfl, by omega, by
      show n * (1 + (if decide (("matching" : Str) = "matching") = true then 1 else 0)) = 2 * n
      rw [if_pos (decide_eq_true rfl)]
      omega⟩
  | tree n =>
    have hn : n ≤ 4 := hl.2
    exact ⟨n, [], rfl, by omega, F "tree" (by decide +kernel) n⟩
  | perm n mv =>
    have hn : n ≤ 4 := hl.1
    exact ⟨n, _, rfl, by omega, F "permutation" (by decide +kernel) n⟩
  | _ => cases h
theorem own_lo {l : Lf7} (h : isOwn l = true) : (if decide (kd l = "tree") = true then 1 else 0 : Int) = ((loM l : Nat) : Int) := by
  cases l with
  | cyc n => exact if_neg (by show ¬ decide (("cycle" : Str) = "tree") = true; decide +kernel)
  | mat n => exact if_neg (by show ¬ decide (("matching" : Str) = "tree") = true; decide +kernel)
  | tree n => exact if_pos (by show decide (("tree" : Str) = "tree") = true; decide +kernel)
  | perm n mv => exact if_neg (by show ¬ decide (("permutation" : Str) = "tree") = true; decide +kernel)
  | _ => cases h
theorem own_in {l : Lf7} (h : isOwn l = true) : (["word", "arrangement"].any fun z => eqStr z (.str (kd l))) = false := by
  cases l with
  | cyc n => show (["word", "arrangement"].any fun z => eqStr z (.str "cycle")) = false; decide +kernel
  | mat n => show (["word", "arrangement"].any fun z => eqStr z (.str "matching")) = false; decide +kernel
  | tree n => show (["word", "arrangement"].any fun z => eqStr z (.str "tree")) = false; decide +kernel
  | perm n mv => show (["word", "arrangement"].any fun z => eqStr z (.str "permutation")) = false; decide +kernel
  | _ => cases h
theorem own_sub {l : Lf7} (h : isOwn l = true) : decide (kd l = "subset") = false := by
  cases l with
  | cyc n => show decide (("cycle" : Str) = "subset") = false; decide +kernel
  | mat n => show decide (("matching" : Str) = "subset") = false; decide +kernel
  | tree n => show decide (("tree" : Str) = "subset") = false; decide +kernel
  | perm n mv => show decide (("permutation" : Str) = "subset") = false; decide +kernel
  | _ => cases h
theorem own_look {l : Lf7} (h : isOwn l = true) {t1 t2 t3 tz : Addr} {o1 o2 o3 oz : Obj} {Hx : Hp} (n1 : o1.dict = none) (n2 : o2.dict = none) (n3 : o3.dict = none) (nz : oz.dict = none) (h1 : Hx t1 = some (.frz o1 (.tup [.str "successor", .str "predecessor"]))) (h2 : Hx t2 = some (.frz o2 (.tup [.str "partner"]))) (h3 : Hx t3 = some (.frz o3 (.tup [.str "image", .str "preimage"]))) (hz : Hx tz = some (.frz oz (.tup [.str "parent"]))) :
    Dat Hx ((valV (kvM t1 t2 t3) (.inr (kd l))).getD (.ref tz)) (.tuple ((ownM l).map PyData.str)) := by
  cases l with
  | cyc n =>
    rw [show valV (kvM t1 t2 t3) (.inr (kd (.cyc n))) = some (.ref t1) from valV_pos rfl]
    exact .tup (TP.fz h1 n1) (.cons (.str _ (by decide)) (.cons (.str _ (by decide)) .nil))
  | mat n =>
    rw [show valV (kvM t1 t2 t3) (.inr (kd (.mat n))) = some (.ref t2) from (valV_neg (fun e => absurd (show ("cycle" : Str) = "matching" from Sum.inr.inj e) (by decide +kernel))).trans (valV_pos rfl)]
    exact .tup (TP.fz h2 n2) (.cons (.str _ (by decide)) .nil)
  | perm n mv =>
    rw [show valV (kvM t1 t2 t3) (.inr (kd (.perm n mv))) = some (.ref t3) from (valV_neg (fun e => absurd (show ("cycle" : Str) = "permutation" from Sum.inr.inj e) (by decide +kernel))).trans ((valV_neg (fun e => absurd (show ("matching" : Str) = "permutation" from Sum.inr.inj e) (by decide +kernel))).trans (valV_pos rfl))]
    exact .tup (TP.fz h3 n3) (.cons (.str _ (by decide)) (.cons (.str _ (by decide)) .nil))
  | tree n =>
    rw [show valV (kvM t1 t2 t3) (.inr (kd (.tree n))) = none from (valV_neg (fun e => absurd (show ("cycle" : Str) = "tree" from Sum.inr.inj e) (by decide +kernel))).trans ((valV_neg (fun e => absurd (show ("matching" : Str) = "tree" from Sum.inr.inj e) (by decide +kernel))).trans ((valV_neg (fun e => absurd (show ("permutation" : Str) = "tree" from Sum.inr.inj e) (by decide +kernel))).trans rfl))]
    exact .tup (TP.fz hz nz) (.cons (.str _ (by decide)) .nil)
  | _ => cases h
theorem fine_word {cs : Cn} (h : CnOk cs 5) : FineS (.leaf (.word cs)) := by
  have h1 := h.len
  have h2 := h.tot
  refine ⟨?_, ?_, ?_⟩
  · rw [okS]
    exact decide_eq_true (by omega)
  · rw [tinyS, ldt]
    have := cnts_noL cs
    simp [noL, noLs, this]
  · rw [smS, Bool.and_eq_true]
    refine ⟨decide_eq_true h.nd, ?_⟩
    show cntsY cs = true
    unfold cntsY
    rw [Bool.and_eq_true, List.all_eq_true]
    exact ⟨decide_eq_true (by unfold totN at h2; omega), h.nm⟩
theorem fine_arr {o : PyData} (h : orderB 6 o = true) (hl : (namesN 6 o).length ≤ 4) : FineS (.leaf (.arr o)) := by
  refine ⟨?_, ?_, ?_⟩
  · rw [okS]
    exact h
  · rw [tinyS, ldt]
    have := order_noL 6 o h
    simp [noL, noLs, this]
  · rw [smS, Bool.and_eq_true]
    exact ⟨rfl, decide_eq_true (by omega)⟩
def spPartQ : Sp := fun vs H Q _ => ∃ (v : V) (l : Lf7), vs = [v] ∧ Dat H v (lfD l) ∧ LfOk l ∧ Fresh H Q (okQs l)
abbrev rInt1 : List V → Hp → VK → Prop := fun xs H Q => (∃ i, xs = [.int i] ∧ Q (.int i) H) ∨ ∃ k, xs = [.bl k] ∧ Q (.int (if k then 1 else 0)) H
theorem mk_intB {G : List (Nat × PyData)} {t : TE} {b : Bool} (h : Mk G t (.bool b)) : Mk G (tCB rInt1 (tCons t tNil)) (.int (if b then 1 else 0)) := fun σ H Q E q => h σ H _ E fun v H1 S d => by
  rw [dat_bl d]
  exact .inr ⟨b, rfl, q _ H1 S (.int _)⟩
abbrev s_partq : Stmt := top 43
section
variable {P : Program} {w : World} {K : PySem.W.Frag} {mg : Str → Option Value} {base : Heap}
abbrev NPq : List Str := ["_law_part", "_law_word", "_law_n", "_law_found", "_law_words_here", "_law_own", "_law_p", "_law_j", "_law_k"]
theorem sc_partq : FnScope NPq ["_law_part"] (defScope s_partq) := ⟨rfl, rfl, rfl, by decide +kernel, rfl, by decide +kernel, by decide +kernel⟩
theorem okl_partq {f fR fN : Addr} {fd fdR fdN : FuncData} (F : Fun K "_law_part_queries" "_law_part_queries" s_partq f fd) (T : Nm mg) (Ts : mg "sorted" = none) (D_rowq : DefOk K mg "_law_row_queries" s_row_queries ["_law_part"] fR fdR) (D_lnames : DefOk K mg "_law_names" s_names ["_law_order_here"] fN fdN) : FnOk P w K mg base CX0 9 f fd ["_law_part"] spPartQ := by
  have G_rowq : FnOk P w K mg base CX0 8 fR fdR ["_law_part"] spRowQs := okl_rowq D_rowq.F T Ts D_lnames
  refine F.ok sc_partq (fun vs H Q E h => ?_) (fun cdv A outer s H vs Q E hr h => ?_)
  · obtain ⟨v, l, rfl, _⟩ := h
    rfl
  · obtain ⟨v, l, rfl, hv, hl, q⟩ := h
    have hu1 := units1 hr
    refine ⟨_, (pss_cons (ps_set (i := 1) sc_partq.nd rfl (Or.inl rfl) (pe_ix ix_tup (pv 0) pe_int (fun _ _ => rfl)))
      (pss_cons (ps_if (pt_cmpR (op_inStrs hu1) (pv 1) (pe_tupF (pa_cons pe_str (pa_cons pe_str pa_nil))) rfl)
        (pss_one (ps_ret (pe_call G_rowq hr rfl D_rowq.g D_rowq.F.kp D_rowq.b .nil pass0 (pa_cons (pv 0) pa_nil))))
        pss_nil)
      (pss_cons (ps_set (i := 2) sc_partq.nd rfl (Or.inl rfl) (pe_op op_mul (pe_ix ix_tup (pv 0) pe_int (fun _ _ => rfl)) (pe_op op_add pe_int (pe_callTy call_int1 (by rfl) T.int (by decide +kernel) (pa_cons (pe_cmpR op_eq (pv 1) pe_str (nomark _)) pa_nil)))))
      (pss_cons (ps_if (pt_cmpR op_eq (pv 1) pe_str (nomark _))
        (pss_cons (ps_set (i := 3) sc_partq.nd rfl (Or.inl rfl) (pe_op op_cat (pe_lc (own := [("_law_p", 6)]) (g := (gName 6)) (tt := tYes) rfl sc_partq.nd (pi_range1 rfl T.range (pa_cons (pv 2) pa_nil)) (blkOk_by (N := NPq) (sc := defScope s_partq) (by decide +kernel))
          (fun _ _ _ _ _ => (pg_name (i := 6) sc_partq.nd rfl (Or.inl rfl))) (fun _ _ _ _ _ => pts_nil) (fun _ _ _ _ _ => (pe_tupF (pa_cons pe_str (pa_cons (pv 6) pa_nil))))) (pe_lc (own := [("_law_p", 6)]) (g := (gName 6)) (tt := tYes) rfl sc_partq.nd (pi_range1 rfl T.range (pa_cons (pe_op op_add (pv 2) pe_int) pa_nil)) (blkOk_by (N := NPq) (sc := defScope s_partq) (by decide +kernel))
          (fun _ _ _ _ _ => (pg_name (i := 6) sc_partq.nd rfl (Or.inl rfl))) (fun _ _ _ _ _ => pts_nil) (fun _ _ _ _ _ => (pe_tupF (pa_cons pe_str (pa_cons (pv 6) pa_nil)))))))
        (pss_one (ps_ret (pe_op op_cat (pv 3) (pe_lc (own := [("_law_j", 7)]) (g := (gName 7)) (tt := tYes) rfl sc_partq.nd (pi_range1 rfl T.range (pa_cons (pe_ix ix_tup (pv 0) pe_int (fun _ _ => rfl)) pa_nil)) (blkOk_by (N := NPq) (sc := defScope s_partq) (by decide +kernel))
          (fun _ _ _ _ _ => (pg_name (i := 7) sc_partq.nd rfl (Or.inl rfl))) (fun _ _ _ _ _ => pts_nil) (fun _ _ _ _ _ => (pe_tupF (pa_cons pe_str (pa_cons (pv 7) pa_nil)))))))))
        pss_nil)
      (pss_cons (ps_set (i := 4) sc_partq.nd rfl (Or.inl rfl) (pe_disp (pps_cons pe_str (pe_tupF (pa_cons pe_str (pa_cons pe_str pa_nil))) (pps_cons pe_str (pe_tupF (pa_cons pe_str pa_nil)) (pps_cons pe_str (pe_tupF (pa_cons pe_str (pa_cons pe_str pa_nil))) pps_nil))) rfl rfl (by decide) (by decide)))
      (pss_cons (ps_set (i := 3) sc_partq.nd rfl (Or.inl rfl) (pe_lst pa_nil))
      (pss_cons (ps_for PassesOwn.never rfl (pi_tup (pe_dget2 hu1 (pv 4) (pv 1) (pe_tupF (pa_cons pe_str pa_nil)) ⟨rfl, rfl, rfl, rfl⟩)) (pg_name (i := 5) sc_partq.nd rfl (Or.inr rfl))
        (pss_one (ps_expr (pe_bm PySem.F.plainAttrs_list PySem.F.slot_list_extend PySem.F.type_list_extend mt_extend (pv 3) (pa_cons (pe_lc (own := [("_law_k", 8)]) (g := (gName 8)) (tt := tYes) (te := tTupF (tCons (tVar 5) (tCons (tVar 8) tNil))) rfl sc_partq.nd (pi_range2 rfl T.range (pa_cons (pe_callTy call_int1 (by rfl) T.int (by decide +kernel) (pa_cons (pe_cmpR op_eq (pv 1) pe_str (nomark _)) pa_nil)) (pa_cons (pv 2) pa_nil))) (blkOk_by (N := NPq) (sc := defScope s_partq) (by decide +kernel))
          (fun _ _ _ _ _ => (pg_name (i := 8) sc_partq.nd rfl (Or.inl rfl))) (fun _ _ _ _ _ => pts_nil) (fun _ _ _ _ _ => (pe_tupF (pa_cons (pv 5) (pa_cons (pv 8) pa_nil))))) pa_nil)))))
      (pss_one (ps_ret (pv 3)))))))))), ?_⟩
    have E0 : EnvOk [(0, lfD l)] [some v, none, none, none, none, none, none, none, none] H := fun p hp => by
      obtain rfl := List.mem_singleton.mp hp
      exact ⟨_, rfl, hv⟩
    refine sq_set (mk_ixT (K := K) (ds := .str (kd l) :: lfR l) (j := 0) (d := .str (kd l)) (mk_var (i := 0) (by simp [lfD])) rfl rfl) E0 rfl (by show 1 < 9; decide) fun v1 H1 S1 E1 => ?_
    obtain ⟨u1, hu1', du1⟩ := E1 (1, .str (kd l)) List.mem_cons_self
    obtain rfl := dat_strV du1
    have hv1 : v1 = .str (kd l) := Option.some.inj (Option.some.inj hu1')
    subst hv1
    refine sq_of (ifs_of (tst_opX ⟨_, rfl, ⟨(by show 2 ≤ sizeLine; decide), fun p o np no => ⟨.str (kd l), p, ["word", "arrangement"], .str _ (kd_len l), rfl, TP.fz upd_same no, _, rfl, ?_⟩⟩⟩))
    have Sp := same_new (o := HO.frz o (.tup [V.str "word", V.str "arrangement"])) np
    generalize upd H1 p (.frz o (.tup [V.str "word", V.str "arrangement"])) = H2 at Sp ⊢
    have S2 := S1.trans Sp
    have E2 := E1.same Sp
    rw [if_neg Bool.false_ne_true]
    -- what is asked of the other kinds
    have MB : ∀ (zz : Str), zz.length ≤ 1000 → ∀ {G : List (Nat × PyData)}, (1, PyData.str (kd l)) ∈ G → Mk G (tCB rInt1 (tCons (tOp rEq (tVar 1) (tC (.str zz))) tNil)) (.int (if decide (kd l = zz) = true then 1 else 0)) := fun zz hz G h => by
      have := mk_eqS (a := kd l) (mk_var h) (mk_str hz) rfl
      rw [dec_str] at this
      exact mk_intB this
    have MN : ∀ (n m : Nat) (rest : List PyData), lfR l = .int (n : Nat) :: rest → n ≤ 5 → n * (1 + (if decide (kd l = "matching") = true then 1 else 0)) = m → Mk [(1, PyData.str (kd l)), (0, lfD l)] (tOp (rI CMul fun i j => .int (i * j)) (tOp (rIxT K) (tVar 0) (tC (.int 1))) (tOp (rI0 fun i j => .int (i + j)) (tC (.int 1)) (tCB rInt1 (tCons (tOp rEq (tVar 1) (tC (.str "matching"))) tNil)))) (.int (m : Nat)) := fun n m rest hR hn hm => by
      refine mk_op (mk_ixT (K := K) (ds := .str (kd l) :: lfR l) (j := 1) (d := .int (n : Nat)) (mk_var (i := 0) (by simp [lfD])) rfl (by rw [hR]; rfl)) (mk_op0 mk_int (MB "matching" (by decide) List.mem_cons_self) rfl) (.inl ⟨by omega, by omega⟩) ?_
      rw [← hm]
      by_cases h : kd l = "matching"
      · rw [if_pos (decide_eq_true h), if_pos (decide_eq_true h)]
        exact congrArg V.int (by omega)
      · rw [if_neg (by rw [decide_eq_false h]; exact Bool.false_ne_true), if_neg (by rw [decide_eq_false h]; exact Bool.false_ne_true)]
        exact congrArg V.int (by omega)
    have T1 : ∀ (zz : Str), zz.length ≤ 1000 → ∀ {G : List (Nat × PyData)}, (1, PyData.str (kd l)) ∈ G → MkT G (tTest (tOp rEq (tVar 1) (tC (.str zz)))) (decide (kd l = zz)) := fun zz hz G h => by
      have := mk_eqS (a := kd l) (mk_var h) (mk_str hz) rfl
      rw [dec_str] at this
      exact mkt this
    have q2 : Fresh H2 Q (okQs l) := fun L zs ds H' n0 S e d h => q L zs ds H' (none_back S2 n0) (S2.trans S) e d h
    by_cases ho : isOwn l = true
    case neg =>
      cases l with
      | word cs =>
        refine if_t (by show (["word", "arrangement"].any fun z => eqStr z (.str "word")) = true; decide +kernel) ?_
        refine ret_ofX ⟨v, rfl, v, .leaf (.word cs), rfl, ?_, fine_word hl, rfl, q2⟩
        rw [dt]
        exact hv.same S2
      | arr o =>
        refine if_t (by show (["word", "arrangement"].any fun z => eqStr z (.str "arrangement")) = true; decide +kernel) ?_
        refine ret_ofX ⟨v, rfl, v, .leaf (.arr o), rfl, ?_, fine_arr hl.1 hl.2.1, rfl, q2⟩
        rw [dt]
        exact hv.same S2
      | sub n k =>
        refine if_f (by show (["word", "arrangement"].any fun z => eqStr z (.str "subset")) = false; decide +kernel) ?_
        have ⟨hn, hk⟩ : n ≤ 5 ∧ k ≤ n := hl
        refine sq_set (MN n n _ rfl hn (by
          rw [if_neg (by show ¬ decide (("subset" : Str) = "matching") = true; decide +kernel)]
          omega)) E2 rfl (by show 2 < 9; decide) fun v6 H6 S6 E6 => ?_
        refine sq_if1 ((by have := T1 "subset" (by decide) (G := [(2, PyData.int (n : Nat)), (1, .str (kd (.sub n k))), (0, lfD (.sub n k))]) (by simp); rwa [show decide (kd (.sub n k) = "subset") = true from by show decide (("subset" : Str) = "subset") = true; decide +kernel] at this)) E6 fun H7 S7 => ?_
        refine sq_setN (N := 9) (d := .list (qW "contains" n ++ qW "rank" (n + 1))) (MkF.n (mkf_cat (MkF.n (mkf_range1 (n := n) (f := fun p => .tuple [.str "contains", .int (p : Nat)]) (mk_var List.mem_cons_self) (by omega) rfl (by decide) (fun j _ => mks_tup2 (mk_str (by decide)) (mk_var List.mem_cons_self)) (fun _ _ => rfl)))
          (MkF.n (mkf_range1 (n := n + 1) (f := fun p => .tuple [.str "rank", .int (p : Nat)]) (mk_addN (x := n) (y := 1) (mk_var List.mem_cons_self) mk_int rfl) (by omega) rfl (by decide) (fun j _ => mks_tup2 (mk_str (by decide)) (mk_var List.mem_cons_self)) (fun _ _ => rfl))) (by first | (rw [qW_len, qW_len]; omega) | (simp only [List.length_map, List.length_range]; omega)))) rfl (E6.same S7) rfl (by decide) fun v8 H8 S8 E8 => ?_
        have T8 := (S6.trans S7).trans S8
        refine rt_mkf (N := 9) (mkf_cat (mk_var List.mem_cons_self).n (MkF.n (mkf_range1 (n := k) (f := fun p => .tuple [.str "select", .int (p : Nat)]) (mk_ixT (K := K) (ds := .str (kd (.sub n k)) :: lfR (.sub n k)) (j := 2) (mk_var (i := 0) (by simp [lfD])) rfl rfl) (by omega) rfl (by decide) (fun j _ => mks_tup2 (mk_str (by decide)) (mk_var List.mem_cons_self)) (fun _ _ => rfl)))
          (by rw [List.length_append, qW_len, qW_len]; first | (rw [qW_len]; omega) | (simp only [List.length_map, List.length_range]; omega))) rfl E8 fun L zs H' n0 S e d => q2 L zs _ H' (none_back T8 n0) (T8.trans S) e d rfl
      | cyc n => exact absurd rfl ho
      | mat n => exact absurd rfl ho
      | tree n => exact absurd rfl ho
      | perm n mv => exact absurd rfl ho
    refine if_f (own_in ho) ?_
    obtain ⟨n, rest, hR, hn5, hnum⟩ := own_n ho hl
    have hn10 := num_le hl
    generalize hN : numM l = m at hnum hn10
    refine sq_set (MN n m rest hR hn5 hnum) E2 rfl (by show 2 < 9; decide) fun v6 H6 S6 E6 => ?_
    refine sq_if0 (by have := T1 "subset" (by decide) (G := [(2, PyData.int (m : Nat)), (1, .str (kd l)), (0, lfD l)]) (by simp); rwa [own_sub ho] at this) E6 fun H7 S7 => ?_
    have E7 := E6.same S7
    have T7 := S6.trans S7
    refine sq_anyX (fun p np => ⟨(by show 2 ≤ sizeLine; decide), fun t1 o1 n1 m1 => ⟨(by show 1 ≤ sizeLine; decide), fun t2 o2 n2 m2 => ⟨(by show 2 ≤ sizeLine; decide), fun t3 o3 n3 m3 => ?_⟩⟩⟩)
    have s1 := same_new (o := HO.frz o1 (.tup [V.str "successor", V.str "predecessor"])) n1
    have e1 : upd (upd H7 p (.dK [])) t1 (.frz o1 (.tup [V.str "successor", V.str "predecessor"])) t1 = some (.frz o1 (.tup [V.str "successor", V.str "predecessor"])) := upd_same
    have ep0 : upd H7 p (.dK []) p = some (.dK []) := upd_same
    have Sd : ∀ b o, H7 b = some o → b ≠ p ∧ upd H7 p (.dK []) b = some o := fun b o e => ⟨ne_of_none e np, by rw [upd_ne (ne_of_none e np)]; exact e⟩
    generalize upd H7 p (.dK []) = G0 at ep0 Sd n1 s1 e1 n2 n3 ⊢
    have ep1 := s1 _ _ ep0
    generalize upd G0 t1 (.frz o1 (.tup [V.str "successor", V.str "predecessor"])) = G1 at s1 e1 ep1 n2 n3 ⊢
    have s2 := same_new (o := HO.frz o2 (.tup [V.str "partner"])) n2
    have e2 : upd G1 t2 (.frz o2 (.tup [V.str "partner"])) t2 = some (.frz o2 (.tup [V.str "partner"])) := upd_same
    have ep2 := s2 _ _ ep1
    generalize upd G1 t2 (.frz o2 (.tup [V.str "partner"])) = G2 at s2 e2 ep2 n3 ⊢
    have s3 := same_new (o := HO.frz o3 (.tup [V.str "image", V.str "preimage"])) n3
    have e3 : upd G2 t3 (.frz o3 (.tup [V.str "image", V.str "preimage"])) t3 = some (.frz o3 (.tup [V.str "image", V.str "preimage"])) := upd_same
    have ep3 := s3 _ _ ep2
    generalize upd G2 t3 (.frz o3 (.tup [V.str "image", V.str "preimage"])) = G3 at s3 e3 ep3 ⊢
    refine ⟨ep3, kvM t1 t2 t3, rfl, (by show 3 ≤ 15; decide), ?_⟩
    have em : mergeK [] (kvM t1 t2 t3) = kvM t1 t2 t3 := merge_new _ _ (by
      show ([.inr "cycle", .inr "matching", .inr "permutation"] : List Key).Nodup
      decide +kernel)
    have d1 := s3 _ _ (s2 _ _ e1)
    have d2 := s3 _ _ e2
    have np1 : t1 ≠ p := fun e => by rw [e, ep3] at d1; cases d1
    have np2 : t2 ≠ p := fun e => by rw [e, ep3] at d2; cases d2
    have np3 : t3 ≠ p := fun e => by rw [e, ep3] at e3; cases e3
    rw [em]
    have hd1 := (upd_ne (o := HO.dK (kvM t1 t2 t3)) np1).trans d1
    have hd2 := (upd_ne (o := HO.dK (kvM t1 t2 t3)) np2).trans d2
    have hd3 := (upd_ne (o := HO.dK (kvM t1 t2 t3)) np3).trans e3
    have hdp : upd G3 p (.dK (kvM t1 t2 t3)) p = some (.dK (kvM t1 t2 t3)) := upd_same
    have hSd : Same H7 (upd G3 p (.dK (kvM t1 t2 t3))) := fun b o e => by
      obtain ⟨hb, e⟩ := Sd b o e
      rw [upd_ne hb]
      exact s3 _ _ (s2 _ _ (s1 _ _ e))
    generalize upd G3 p (.dK (kvM t1 t2 t3)) = Hd at hd1 hd2 hd3 hdp hSd ⊢
    have Td := T7.trans hSd
    have Ed4 := (E7.same hSd).set (i := 4) (v := .ref p) (ne_of (by rfl))
    refine sq_newN (N := 9) mksn_nil rfl Ed4 (by decide) (ne_of (by rfl)) (by decide) fun p8 H8 g8 => ?_
    refine sq_of (for_itemsP (N := 9) (K := K) (ps := (ownM l).map PyData.str) (fF := qF l) g8 rfl (fun Q' k => ?_) (strs_noL _) rfl (by decide) (by decide) ?_ ?_)
    · refine ⟨_, rfl, p, rfl, .inl ⟨_, .inl (g8.same _ _ hdp)⟩, _, rfl, (by show 1 ≤ sizeLine; decide), fun tz oz nz mz => ⟨_, DGet.k (k := .inr (kd l)) (same_new nz _ _ (g8.same _ _ hdp)), ?_⟩⟩
      have Sz := g8.same.trans (same_new (o := HO.frz oz (.tup [V.str "parent"])) nz)
      exact k _ _ (same_new nz) (own_look ho m1 m2 m3 mz (Sz _ _ hd1) (Sz _ _ hd2) (Sz _ _ hd3) upd_same)
    · intro j p0 Hb acc σ' H' D' hp hN' hacc g k
      have hm := List.mem_of_getElem? hp
      have hpn : noL p0 = true := noLs_iff.mp (strs_noL _) _ hm
      have hlo1 : loM l ≤ 1 := by cases l <;> simp [loM]
      have la : ((((ownM l).map PyData.str).take j).flatMap (qF l)).length ≤ 20 := by
        rw [qFs_len, List.length_take, List.length_map]
        have h2 := own_le l
        have h3 : min j (ownM l).length * (numM l - loM l) ≤ 2 * 10 := Nat.mul_le_mul (by omega) (by omega)
        omega
      have lr := qF_len l p0
      refine one_ext g hN' (mkf_range2 (i := 8) (lo := ((loM l : Nat) : Int)) (hi := ((m : Nat) : Int)) (n := numM l - loM l) (f := fun k => .tuple [p0, .int ((loM l : Nat) + (k : Nat) : Int)]) (by have := MB "tree" (by decide) (G := (5, p0) :: [(2, PyData.int (m : Nat)), (1, .str (kd l)), (0, lfD l)]) (by simp); rwa [own_lo ho] at this) (mk_var (by simp)) (by omega) (by omega) (by omega) (by omega) rfl (by decide) (fun j _ => mks_tup2 (mk_var (by simp)) (mk_var List.mem_cons_self)) (fun _ _ => by simp [noL, noLs, hpn])) (qF_noL l hpn) ?_ k
      rw [hacc, List.nil_append]
      simp only [List.length_map, List.length_range]
      omega
    · intro σ' H' hN' g
      rw [List.nil_append] at g
      exact rt_st g fun L zs n0 S e d => q2 L zs _ H' (none_back Td n0) (Td.trans S) e d (own_qs ho)
end
end KB
set_option maxRecDepth 100000
set_option maxHeartbeats 8000000
namespace KB
open PySem PySem.Spec PyProof.Rows L2
/-! ### all objects of a leaf -/
theorem mkt_in2 {G : List (Nat × PyData)} {i : Nat} {z a b : Str} {c : Bool} (hm : (i, PyData.str z) ∈ G) (hl : z.length ≤ 1000) (hc : (eqStr a (.str z) || (eqStr b (.str z) || false)) = c) : MkT G (tTest (tOp (rInStrs false) (tVar i) (tTupF (tCons (tC (.str a)) (tCons (tC (.str b)) tNil))))) c := fun σ H Q E q => by
  obtain ⟨u, hu, du⟩ := E _ hm
  obtain rfl := dat_strV du
  refine tst_opX ⟨_, hu, ⟨(by show 2 ≤ sizeLine; decide), fun p o np no => ⟨.str z, p, [a, b], .str _ hl, rfl, TP.fz upd_same no, _, rfl, ?_⟩⟩⟩
  rw [if_neg Bool.false_ne_true, show ([a, b].any fun y => eqStr y (.str z)) = c from hc]
  exact q _ (same_new np)
def okObjs : Lf7 → List PyData → Prop
  | .sub n k => fun ds => ds = (subsM n k).map rowD
  | .word cs => okWords cs
  | .arr o => okArrs (namesN 6 o)
  | .cyc n => okCyc n
  | .mat n => okMat n
  | .tree n => okTrees n
  | .perm n _ => okPerms n
def spLeafObjs : Sp := fun vs H Q _ => ∃ (v : V) (l : Lf7), vs = [v] ∧ Dat H v (lfD l) ∧ LfOk l ∧ Fresh H Q (okObjs l)
abbrev s_leaf_objects : Stmt := top 36
section
variable {P : Program} {w : World} {K : PySem.W.Frag} {mg : Str → Option Value} {base : Heap}
theorem sc_leaf_objects : FnScope ["_law_leaf_here", "_law_word"] ["_law_leaf_here"] (defScope s_leaf_objects) := ⟨rfl, rfl, rfl, by decide +kernel, rfl, by decide +kernel, by decide +kernel⟩
theorem okl_leafobjs {f fS fW fA fC fM fP fT fO fR fG : Addr} {fd fdS fdW fdA fdC fdM fdP fdT fdO fdR fdG : FuncData} (F : Fun K "_law_leaf_objects" "_law_leaf_objects" s_leaf_objects f fd) (T : Nm mg)
    (D_subsets : DefOk K mg "_law_subsets" s_subsets ["_law_n", "_law_k"] fS fdS) (D_words : DefOk K mg "_law_words" s_words ["_law_counts_here"] fW fdW) (D_arrangements : DefOk K mg "_law_arrangements" s_arrangements ["_law_order_here"] fA fdA)
    (D_cycles : DefOk K mg "_law_cycles" s_cycles ["_law_n"] fC fdC) (D_matchings : DefOk K mg "_law_matchings" s_matchings ["_law_m"] fM fdM) (D_permutations : DefOk K mg "_law_permutations" s_permutations ["_law_n", "_law_moved"] fP fdP) (D_trees : DefOk K mg "_law_trees" s_trees ["_law_n"] fT fdT)
    (D_orders : DefOk K mg "_law_orders" s_orders ["_law_items"] fO fdO) (D_rooted : DefOk K mg "_law_is_rooted" s_is_rooted ["_law_row"] fR fdR) (D_merged : DefOk K mg "_law_merged" s_merged ["_law_one", "_law_other"] fG fdG) : FnOk P w K mg base CX0 10 f fd ["_law_leaf_here"] spLeafObjs := by
  have G_subsets : FnOk P w K mg base CX0 1 fS fdS ["_law_n", "_law_k"] spSubs := okl_subsets D_subsets.F T
  have G_words : FnOk P w K mg base CX0 1 fW fdW ["_law_counts_here"] spWordsL := okl_words D_words.F T
  have G_arrangements : FnOk P w K mg base CX0 9 fA fdA ["_law_order_here"] (spArrs 6) := okl_arrs D_arrangements.F D_arrangements.b D_arrangements.g T D_merged D_subsets 6
  have G_cycles : FnOk P w K mg base CX0 2 fC fdC ["_law_n"] spCycles := okl_cycles D_cycles.F T D_orders
  have G_matchings : FnOk P w K mg base CX0 1 fM fdM ["_law_m"] spMat := okl_matchings D_matchings.F T
  have G_permutations : FnOk P w K mg base CX0 2 fP fdP ["_law_n", "_law_moved"] spPerms := okl_permutations D_permutations.F T D_orders
  have G_trees : FnOk P w K mg base CX0 2 fT fdT ["_law_n"] spTrees := okl_trees D_trees.F T D_rooted
  refine F.ok sc_leaf_objects (fun vs H Q E h => ?_) (fun cdv A outer s H vs Q E hr h => ?_)
  · obtain ⟨v, l, rfl, _⟩ := h
    rfl
  · obtain ⟨v, l, rfl, hv, hl, q⟩ := h
    have hu1 := units1 hr
    have hr1 : Room 1 _ := hr.mono (by omega)
    have hr2 : Room 2 _ := hr.mono (by omega)
    refine ⟨_, (pss_cons (ps_set (i := 1) sc_leaf_objects.nd rfl (Or.inl rfl) (pe_ix ix_tup (pv 0) pe_int (fun _ _ => rfl)))
      (pss_cons (ps_if (pt_cmpR op_eq (pv 1) pe_str (nomark _))
        (pss_one (ps_ret (pe_call G_subsets hr1 rfl D_subsets.g D_subsets.F.kp D_subsets.b .nil pass0 (pa_cons (pe_ix ix_tup (pv 0) pe_int (fun _ _ => rfl)) (pa_cons (pe_ix ix_tup (pv 0) pe_int (fun _ _ => rfl)) pa_nil)))))
        pss_nil)
      (pss_cons (ps_if (pt_cmpR (op_inStrs hu1) (pv 1) (pe_tupF (pa_cons pe_str (pa_cons pe_str pa_nil))) rfl)
        (pss_one (ps_ret (pe_ifExp (pt_cmpR op_eq (pv 1) pe_str (nomark _)) (pe_call G_words hr1 rfl D_words.g D_words.F.kp D_words.b .nil pass0 (pa_cons (pe_ix ix_tup (pv 0) pe_int (fun _ _ => rfl)) pa_nil)) (pe_call G_arrangements hr rfl D_arrangements.g D_arrangements.F.kp D_arrangements.b .nil pass0 (pa_cons (pe_ix ix_tup (pv 0) pe_int (fun _ _ => rfl)) pa_nil)))))
        pss_nil)
      (pss_cons (ps_if (pt_cmpR (op_inStrs hu1) (pv 1) (pe_tupF (pa_cons pe_str (pa_cons pe_str pa_nil))) rfl)
        (pss_one (ps_ret (pe_ifExp (pt_cmpR op_eq (pv 1) pe_str (nomark _)) (pe_call G_cycles hr2 rfl D_cycles.g D_cycles.F.kp D_cycles.b .nil pass0 (pa_cons (pe_ix ix_tup (pv 0) pe_int (fun _ _ => rfl)) pa_nil)) (pe_call G_matchings hr1 rfl D_matchings.g D_matchings.F.kp D_matchings.b .nil pass0 (pa_cons (pe_ix ix_tup (pv 0) pe_int (fun _ _ => rfl)) pa_nil)))))
        pss_nil)
      (pss_one (ps_ret (pe_ifExp (pt_cmpR op_eq (pv 1) pe_str (nomark _)) (pe_call G_permutations hr2 rfl D_permutations.g D_permutations.F.kp D_permutations.b .nil pass0 (pa_cons (pe_ix ix_tup (pv 0) pe_int (fun _ _ => rfl)) (pa_cons (pe_ix ix_tup (pv 0) pe_int (fun _ _ => rfl)) pa_nil))) (pe_call G_trees hr2 rfl D_trees.g D_trees.F.kp D_trees.b .nil pass0 (pa_cons (pe_ix ix_tup (pv 0) pe_int (fun _ _ => rfl)) pa_nil))))))))), ?_⟩
    have E0 : EnvOk [(0, lfD l)] [some v, none] H := fun p hp => by
      obtain rfl := List.mem_singleton.mp hp
      exact ⟨_, rfl, hv⟩
    have q0 := q
    refine sq_set (mk_ixT (K := K) (ds := .str (kd l) :: lfR l) (j := 0) (d := .str (kd l)) (mk_var (i := 0) (by simp [lfD])) rfl rfl) E0 rfl (by show 1 < 2; decide) fun v1 H1 S1 E1 => ?_
    have T1 : ∀ {z : Str} {c : Bool}, z.length ≤ 1000 → decide (kd l = z) = c → MkT [(1, PyData.str (kd l)), (0, lfD l)] (tTest (tOp rEq (tVar 1) (tC (.str z)))) c := fun {z c} hl hc => by
      have := mk_eqS (a := kd l) (mk_var (G := [(1, PyData.str (kd l)), (0, lfD l)]) (i := 1) (by simp)) (mk_str hl) rfl
      rw [dec_str, hc] at this
      exact mkt this
    have I1 : ∀ {a b : Str} {c : Bool}, (eqStr a (.str (kd l)) || (eqStr b (.str (kd l)) || false)) = c → MkT [(1, PyData.str (kd l)), (0, lfD l)] (tTest (tOp (rInStrs false) (tVar 1) (tTupF (tCons (tC (.str a)) (tCons (tC (.str b)) tNil))))) c := fun {a b c} hc => mkt_in2 (z := kd l) (by simp) (kd_len l) hc
    have X1 : ∀ {d : PyData} {j : Nat}, (.str (kd l) :: lfR l)[j]? = some d → Mk [(1, PyData.str (kd l)), (0, lfD l)] (tOp (rIxT K) (tVar 0) (tC (.int (j : Nat)))) d := fun {d j} h => mk_ixT (K := K) (ds := .str (kd l) :: lfR l) (j := j) (d := d) (mk_var (i := 0) (by simp [lfD])) rfl h
    have q1 : ∀ {Hx : Hp}, Same H Hx → Fresh Hx Q (okObjs l) := fun {Hx} Sx L zs ds H' n0 S e d h => q L zs ds H' (none_back Sx n0) (Sx.trans S) e d h
    cases l with
    | sub n k =>
      have ⟨hn, hk⟩ : n ≤ 5 ∧ k ≤ n := hl
      refine sq_if1 (T1 (by decide) (by show decide (("subset" : Str) = "subset") = true; decide +kernel)) E1 fun H2 S2 => ?_
      refine ret_ofX (call_2 (X1 (j := 1) (d := .int (n : Nat)) rfl _ H2 _ (E1.same S2) fun u1 H3 S3 d3 => X1 (j := 2) (d := .int (k : Nat)) rfl _ H3 _ ((E1.same S2).same S3) fun u2 H4 S4 d4 => ?_))
      obtain rfl := dat_isInt d3
      obtain rfl := dat_isInt d4
      exact ⟨n, k, rfl, hn, by omega, q1 (((S1.trans S2).trans S3).trans S4)⟩
    | word cs =>
      refine sq_if0 (T1 (by decide) (by show decide (("word" : Str) = "subset") = false; decide +kernel)) E1 fun H2 S2 => ?_
      have E2 := E1.same S2
      refine sq_if1 (I1 (by show (eqStr "word" (.str "word") || (eqStr "arrangement" (.str "word") || false)) = true; decide +kernel)) E2 fun H3 S3 => ?_
      refine ret_ofX (T1 (z := "word") (by decide) (by show decide (("word" : Str) = "word") = true; decide +kernel) _ H3 _ (E2.same S3) fun H4 S4 => if_t rfl (X1 (j := 1) (d := cntsD cs) rfl _ H4 _ ((E2.same S3).same S4) fun u H5 S5 d5 => ?_))
      exact ⟨u, cs, rfl, d5, hl, q1 ((((S1.trans S2).trans S3).trans S4).trans S5)⟩
    | arr o =>
      refine sq_if0 (T1 (by decide) (by show decide (("arrangement" : Str) = "subset") = false; decide +kernel)) E1 fun H2 S2 => ?_
      have E2 := E1.same S2
      refine sq_if1 (I1 (by show (eqStr "word" (.str "arrangement") || (eqStr "arrangement" (.str "arrangement") || false)) = true; decide +kernel)) E2 fun H3 S3 => ?_
      refine ret_ofX (T1 (z := "word") (by decide) (by show decide (("arrangement" : Str) = "word") = false; decide +kernel) _ H3 _ (E2.same S3) fun H4 S4 => if_f rfl (X1 (j := 1) (d := o) rfl _ H4 _ ((E2.same S3).same S4) fun u H5 S5 d5 => ?_))
      exact ⟨u, o, rfl, by decide, d5, hl.1, hl.2.1, q1 ((((S1.trans S2).trans S3).trans S4).trans S5)⟩
    | cyc n =>
      refine sq_if0 (T1 (by decide) (by show decide (("cycle" : Str) = "subset") = false; decide +kernel)) E1 fun H2 S2 => ?_
      refine sq_if0 (I1 (by show (eqStr "word" (.str "cycle") || (eqStr "arrangement" (.str "cycle") || false)) = false; decide +kernel)) (E1.same S2) fun H3 S3 => ?_
      have E3 := (E1.same S2).same S3
      refine sq_if1 (I1 (by show (eqStr "cycle" (.str "cycle") || (eqStr "matching" (.str "cycle") || false)) = true; decide +kernel)) E3 fun H4 S4 => ?_
      refine ret_ofX (T1 (z := "cycle") (by decide) (by show decide (("cycle" : Str) = "cycle") = true; decide +kernel) _ H4 _ (E3.same S4) fun H5 S5 => if_t rfl (X1 (j := 1) (d := .int (n : Nat)) rfl _ H5 _ ((E3.same S4).same S5) fun u H6 S6 d6 => ?_))
      obtain rfl := dat_isInt d6
      exact ⟨n, rfl, hl.1, hl.2, q1 (((((S1.trans S2).trans S3).trans S4).trans S5).trans S6)⟩
    | mat n =>
      refine sq_if0 (T1 (by decide) (by show decide (("matching" : Str) = "subset") = false; decide +kernel)) E1 fun H2 S2 => ?_
      refine sq_if0 (I1 (by show (eqStr "word" (.str "matching") || (eqStr "arrangement" (.str "matching") || false)) = false; decide +kernel)) (E1.same S2) fun H3 S3 => ?_
      have E3 := (E1.same S2).same S3
      refine sq_if1 (I1 (by show (eqStr "cycle" (.str "matching") || (eqStr "matching" (.str "matching") || false)) = true; decide +kernel)) E3 fun H4 S4 => ?_
      refine ret_ofX (T1 (z := "cycle") (by decide) (by show decide (("matching" : Str) = "cycle") = false; decide +kernel) _ H4 _ (E3.same S4) fun H5 S5 => if_f rfl (X1 (j := 1) (d := .int (n : Nat)) rfl _ H5 _ ((E3.same S4).same S5) fun u H6 S6 d6 => ?_))
      obtain rfl := dat_isInt d6
      exact ⟨n, rfl, hl, q1 (((((S1.trans S2).trans S3).trans S4).trans S5).trans S6)⟩
    | tree n =>
      refine sq_if0 (T1 (by decide) (by show decide (("tree" : Str) = "subset") = false; decide +kernel)) E1 fun H2 S2 => ?_
      refine sq_if0 (I1 (by show (eqStr "word" (.str "tree") || (eqStr "arrangement" (.str "tree") || false)) = false; decide +kernel)) (E1.same S2) fun H3 S3 => ?_
      have E3 := (E1.same S2).same S3
      refine sq_if0 (I1 (by show (eqStr "cycle" (.str "tree") || (eqStr "matching" (.str "tree") || false)) = false; decide +kernel)) E3 fun H4 S4 => ?_
      refine ret_ofX (T1 (z := "permutation") (by decide) (by show decide (("tree" : Str) = "permutation") = false; decide +kernel) _ H4 _ (E3.same S4) fun H5 S5 => if_f rfl (X1 (j := 1) (d := .int (n : Nat)) rfl _ H5 _ ((E3.same S4).same S5) fun u H6 S6 d6 => ?_))
      obtain rfl := dat_isInt d6
      exact ⟨n, rfl, hl.1, hl.2, q1 (((((S1.trans S2).trans S3).trans S4).trans S5).trans S6)⟩
    | perm n mv =>
      have ⟨hn, hm, hml⟩ : n ≤ 4 ∧ (∀ x ∈ mv, x < n) ∧ mv.length ≤ 100 := hl
      refine sq_if0 (T1 (by decide) (by show decide (("permutation" : Str) = "subset") = false; decide +kernel)) E1 fun H2 S2 => ?_
      refine sq_if0 (I1 (by show (eqStr "word" (.str "permutation") || (eqStr "arrangement" (.str "permutation") || false)) = false; decide +kernel)) (E1.same S2) fun H3 S3 => ?_
      have E3 := (E1.same S2).same S3
      refine sq_if0 (I1 (by show (eqStr "cycle" (.str "permutation") || (eqStr "matching" (.str "permutation") || false)) = false; decide +kernel)) E3 fun H4 S4 => ?_
      have E4 := E3.same S4
      refine ret_ofX (T1 (z := "permutation") (by decide) (by show decide (("permutation" : Str) = "permutation") = true; decide +kernel) _ H4 _ E4 fun H5 S5 => if_t rfl (call_2 (X1 (j := 1) (d := .int (n : Nat)) rfl _ H5 _ (E4.same S5) fun u H6 S6 d6 => X1 (j := 2) (d := .tuple (intsD mv)) rfl _ H6 _ ((E4.same S5).same S6) fun u2 H7 S7 d7 => ?_)))
      obtain rfl := dat_isInt d6
      exact ⟨n, u2, mv, rfl, hn, d7, hm, hml, q1 ((((((S1.trans S2).trans S3).trans S4).trans S5).trans S6).trans S7)⟩
end
end KB
set_option maxRecDepth 100000
set_option maxHeartbeats 8000000
namespace KB
open PySem PySem.Spec PyProof.Rows L2
/-! ### what is asked of an object is answered; all of it is fine -/
theorem FineL.nil {s : Nat} : FineL s 0 0 [] := ⟨(fun d hd => by cases hd), by simp [massAll], by simp [PyData.depthAll]⟩
theorem FineL.cons {s m n m' n' : Nat} {d : PyData} {ds : List PyData} (F : Fine s m n d) (G : FineL s m' n' ds) : FineL s (m + m') (max n n') (d :: ds) := by
  have := (FineL.one F).app G
  exact this
theorem fine_n {s : Nat} {i : Int} (h1 : -1000000 ≤ i) (h2 : i ≤ 1000000) : Fine s 1 0 (.int i) := by
  refine ⟨?_, by simp [mass], by simp [PyData.depth]⟩
  rw [fineB]
  exact decide_eq_true (Nat.lt_of_lt_of_le (show i.natAbs < 10 ^ 7 by omega) (Nat.pow_le_pow_right (by decide) (by omega)))
theorem fine_str {s : Nat} {x : Str} (h : x.cps.toList.all (fun c => decide (c < 128)) = true) (h2 : x.length ≤ 12) : Fine s 13 0 (.str x) := by
  refine ⟨?_, ?_, by simp [PyData.depth]⟩
  · rw [fineB, h]
    exact decide_eq_true (by omega)
  · have e : x.length = x.cps.size := rfl
    simp only [mass]
    omega
theorem fine_nm {s : Nat} {x : Str} (h : nameS x = true) : Fine s 7 0 (.str x) := by
  obtain ⟨h1, h2⟩ := fine_name h
  refine ⟨?_, h2, by simp [PyData.depth]⟩
  have : ∀ s : Nat, fineB s (.str x) = true := fun s => by
    induction s with
    | zero => exact h1
    | succ s ih => exact fine_up _ ih
  exact this s
theorem finel_map {α : Type} {s m n : Nat} (f : α → PyData) : ∀ l : List α, (∀ x ∈ l, Fine s m n (f x)) → FineL s (l.length * m) n (l.map f)
  | [], _ => by
    have := FineL.nil (s := s)
    exact ⟨this.f, by simp [massAll], by simp [PyData.depthAll]⟩
  | x :: l, h => by
    have a := finel_map f l fun y hy => h y (List.mem_cons_of_mem _ hy)
    have b := h x List.mem_cons_self
    have c := FineL.cons b a
    refine ⟨c.f, Nat.le_trans c.m (by rw [List.length_cons, Nat.succ_mul]; omega), Nat.le_trans c.n (by omega)⟩
theorem ints_fine {r : List Nat} {k : Nat} (hl : r.length ≤ k) (h : ∀ x ∈ r, x ≤ 1000000) : FineL 0 k 0 (intsD r) := by
  have := finel_map (s := 0) (m := 1) (n := 0) (fun (i : Nat) => PyData.int (i : Int)) r fun x hx => fine_n (by omega) (by have := h x hx; omega)
  exact this.mono (by omega) (Nat.le_refl _)
theorem row_fine {r : List Nat} (hl : r.length ≤ 100) (h : ∀ x ∈ r, x ≤ 1000000) : Fine 0 102 1 (rowD r) := ((ints_fine hl h).tup).mono (by omega) (by omega)
theorem tree_fine {r : List Nat} (hl : r.length ≤ 100) (h : ∀ x ∈ r, x ≤ 1000000) : Fine 0 102 1 (treeD r) := ((FineL.cons (s := 0) (m := 1) (n := 0) (d := .none) ⟨by rw [fineB], by simp [mass], by simp [PyData.depth]⟩ (ints_fine hl h)).tup).mono (by omega) (by omega)
theorem strs_fine {r : List Str} {k : Nat} (hl : r.length ≤ k) (h : ∀ x ∈ r, nameS x = true) : FineL 0 (k * 7) 0 (strsD r) := by
  have := finel_map (s := 0) (m := 7) (n := 0) PyData.str r fun x hx => fine_nm (h x hx)
  exact this.mono (Nat.mul_le_mul_right _ hl) (Nat.le_refl _)
theorem srow_fine {r : List Str} (hl : r.length ≤ 10) (h : ∀ x ∈ r, nameS x = true) : Fine 0 102 1 (srowD r) := ((strs_fine hl h).tup).mono (by omega) (by omega)
theorem getD_le {r : List Nat} {i b : Nat} (h : ∀ x ∈ r, x ≤ b) : r.getD i 0 ≤ b := by
  rw [List.getD_eq_getElem?_getD]
  cases e : r[i]? with
  | none => exact Nat.zero_le _
  | some x => exact h x (List.mem_of_getElem? e)
theorem nodup_sub : ∀ {l m : List Nat}, l.Nodup → (∀ x ∈ l, x ∈ m) → l.length ≤ m.length
  | [], m, _, _ => Nat.zero_le _
  | a :: l, m, h, hs => by
    obtain ⟨h1, h2⟩ := List.nodup_cons.mp h
    have := nodup_sub (l := l) (m := m.erase a) h2 fun x hx => (List.mem_erase_of_ne (by rintro rfl; exact h1 hx)).mpr (hs x (List.mem_cons_of_mem _ hx))
    rw [List.length_erase_of_mem (hs a List.mem_cons_self)] at this
    have := List.length_pos_of_mem (hs a List.mem_cons_self)
    rw [List.length_cons]
    omega
theorem all_low {n : Nat} {r : List Nat} (hl : r.length = n) (h : ∀ i, i < n → i ∈ r) : ∀ x ∈ r, x < n := fun x hx => by
  rcases Nat.lt_or_ge x n with h1 | h1
  · exact h1
  · exfalso
    have h2 := nodup_sub (l := List.range n) (m := r.erase x) List.nodup_range fun i hi => by
      have hi := List.mem_range.mp hi
      exact (List.mem_erase_of_ne (by omega)).mpr (h i hi)
    have h3 := List.length_pos_of_mem hx
    rw [List.length_range, List.length_erase_of_mem hx] at h2
    omega
theorem subsM_low (n : Nat) : ∀ k, ∀ r ∈ subsM n k, ∀ x ∈ r, x < n
  | 0, r, h, x, hx => by
    rw [subsM, List.mem_singleton] at h
    rw [h] at hx
    cases hx
  | k + 1, r, h, x, hx => by
    rw [subsM, List.mem_flatMap] at h
    obtain ⟨y, hy, hr⟩ := h
    unfold stepS at hr
    obtain ⟨p, hp, rfl⟩ := List.mem_map.mp hr
    rcases List.mem_append.mp hx with hx | hx
    · exact subsM_low n k y hy x hx
    · obtain rfl := List.mem_singleton.mp hx
      exact List.mem_range.mp (List.mem_filter.mp hp).1
theorem namesN_len : ∀ (n : Nat) (d : PyData), orderB n d = true → (namesN n d).length ≤ 6 ^ n
  | 0, _, h => by cases (show false = true from h)
  | n + 1, d, h => by
    rcases order_view h with ⟨z, rfl, hz, en⟩ | ⟨wd, es, hw, rfl, l2, l6, hes, en⟩
    · rw [en]
      exact Nat.one_le_pow _ _ (by decide)
    · rw [en]
      have := flat_bound (f := namesN n) (m := 6 ^ n) es fun e he => namesN_len n e (hes e he)
      exact Nat.le_trans this (by rw [Nat.pow_succ, Nat.mul_comm]; exact Nat.mul_le_mul_left _ l6)
theorem pars_none (nm : Str) : ∀ k, parsM nm k PyData.none = []
  | 0 => rfl
  | k + 1 => by
    have e1 : wordOf PyData.none = (Str.empty : Str) := rfl
    have e2 : kidsOf PyData.none = [] := rfl
    rw [parsM, e1, e2, if_neg (by decide), if_neg (by decide), List.nil_append]
    exact pars_none nm k
theorem parsM_low (nm : Str) : ∀ (n : Nat) (d : PyData), orderB n d = true → n ≤ 6 → ∀ p ∈ parsM nm n d, p.2 ≤ 6
  | 0, _, h, _, p, hp => by cases (show false = true from h)
  | n + 1, d, h, hn, p, hp => by
    rcases order_view h with ⟨z, rfl, hz, en⟩ | ⟨wd, es, hw, rfl, l2, l6, hes, en⟩
    · rw [parsM, if_pos (show wordOf (itemD z) = "item" from rfl)] at hp
      cases hp
    · have w1 : wordOf (joinD wd es) = wd := rfl
      have w2 : kidsOf (joinD wd es) = es := rfl
      have w3 : ¬ wd = "item" := by
        rcases hw with rfl | rfl <;> decide +kernel
      rw [parsM, w1, w2, if_neg w3] at hp
      have hi := List.findIdx_le_length (p := inE nm) (xs := es)
      rcases List.mem_append.mp hp with hp | hp
      · by_cases wp : wd = "parallel"
        · rw [if_pos wp] at hp
          obtain rfl := List.mem_singleton.mp hp
          show es.findIdx (inE nm) ≤ 6
          omega
        · rw [if_neg wp] at hp
          cases hp
      · rw [List.getD_eq_getElem?_getD] at hp
        cases e : es[es.findIdx (inE nm)]? with
        | none =>
          rw [e] at hp
          rw [show ((none : Option PyData).getD .none) = .none from rfl, pars_none] at hp
          cases hp
        | some x =>
          rw [e] at hp
          exact parsM_low nm n x (hes x (List.mem_of_getElem? e)) (by omega) p hp
theorem lits_fine : ∀ z ∈ (["contains", "rank", "select", "letter", "prefix", "entry", "locate", "successor", "predecessor", "partner", "parent", "image", "preimage"] : List Str), Fine 0 13 0 (.str z) := fun z hz => by
  have h : ∀ z ∈ (["contains", "rank", "select", "letter", "prefix", "entry", "locate", "successor", "predecessor", "partner", "parent", "image", "preimage"] : List Str), z.cps.toList.all (fun c => decide (c < 128)) = true ∧ z.length ≤ 12 := by decide +kernel
  exact fine_str (h z hz).1 (h z hz).2
/-- what is asked of an object, and what is answered -/
structure Pair (l : Lf7) (t : PyData) (z : Str) (args : List PyData) (an : PyData) : Prop where
  a : Ans l t z args an
  q : FineL 0 100 1 (.str z :: args)
  f : Fine 0 10000 5 an
theorem q_fine {z : Str} {i : Int} (hz : z ∈ (["contains", "rank", "select", "letter", "prefix", "entry", "locate", "successor", "predecessor", "partner", "parent", "image", "preimage"] : List Str)) (h1 : -1000000 ≤ i) (h2 : i ≤ 1000000) : FineL 0 100 1 [.str z, .int i] := (FineL.cons (lits_fine z hz) (FineL.cons (fine_n h1 h2) FineL.nil)).mono (by decide) (by decide)
theorem bool_fine (b : Bool) : Fine 0 1 0 (.bool b) := ⟨by rw [fineB], by simp [mass], by simp [PyData.depth]⟩
theorem places_low {r : List Str} {z : Str} : ∀ i ∈ placesM r z, i < r.length := fun i h => List.mem_range.mp (List.mem_filter.mp h).1
theorem places_le (r : List Str) (z : Str) : (placesM r z).length ≤ r.length := by
  unfold placesM
  exact Nat.le_trans (List.length_filter_le _ _) (by rw [List.length_range]; exact Nat.le_refl _)
theorem pref_fine {cs : Cn} {r : List Str} (p : Nat) (hc : cs.length ≤ 100) (hr : r.length ≤ 100) : FineL 0 100 0 (intsD (prefM cs r p)) := by
  refine ints_fine (by unfold prefM cntsM; rw [List.length_map, List.length_map]; exact hc) fun x hx => ?_
  unfold prefM cntsM at hx
  obtain ⟨z, _, rfl⟩ := List.mem_map.mp hx
  have := places_le (r.take p) z
  rw [List.length_take] at this
  omega
theorem word_fine {cs : Cn} {r : List Str} {z : Str} {args : List PyData} {an : PyData} (hc : cs.length ≤ 100) (hn : ∀ c ∈ cs, nameS c.1 = true) (hr : r.length ≤ 100) (hnr : ∀ x ∈ r, nameS x = true) (h : WordAsk cs r z args an) : FineL 0 100 1 (.str z :: args) ∧ Fine 0 10000 5 an := by
  cases h with
  | letter p h => exact ⟨q_fine (by decide) (by omega) (by omega), (fine_nm (hnr _ (List.getElem_mem h))).mono (by decide) (by decide)⟩
  | pref p h => exact ⟨q_fine (by decide) (by omega) (by omega), (pref_fine p hc hr).tup.mono (by decide) (by decide)⟩
  | entry p h => exact ⟨q_fine (by decide) (by omega) (by omega), ((FineL.cons (pref_fine p hc hr).tup (FineL.cons (fine_nm (hnr _ (List.getElem_mem h))) FineL.nil)).tup).mono (by decide) (by decide)⟩
  | select c j hcm h =>
    have h1 := places_low _ (List.getElem_mem h)
    have h2 := places_le r c.1
    exact ⟨(FineL.cons (lits_fine _ (by decide)) (FineL.cons (fine_nm (hn c hcm)) (FineL.cons (fine_n (by omega) (by omega)) FineL.nil))).mono (by decide) (by decide), ((FineL.cons (fine_n (by omega) (by omega)) (FineL.cons (pref_fine _ hc hr).tup FineL.nil)).tup).mono (by decide) (by decide)⟩
theorem cnt_low (el : List Str) {e : PyData} (h : orderB 6 e = true) : cntE el e ≤ 46656 := by
  unfold cntE
  have h1 := namesN_len 6 e h
  have h2 := List.length_filter_le (fun z => decide (z ∈ el)) (namesN 6 e)
  have : 6 ^ 6 = 46656 := by decide
  omega
theorem step_facts {o : PyData} (ho : orderB 6 o = true) (el : List Str) (nm : Str) : (stepsM el nm 6 o).length ≤ 6 ∧ ∀ s ∈ stepsM el nm 6 o, s.1.length ≤ 6 ∧ (∀ x ∈ s.1, x ≤ 46656) ∧ s.2 ≤ 6 := by
  unfold stepsM
  refine ⟨by rw [List.length_map]; exact pars_len nm 6 o, fun s hs => ?_⟩
  obtain ⟨p, hp, rfl⟩ := List.mem_map.mp hs
  obtain ⟨es, e1, e2, e3, _⟩ := pars_ok nm 6 o ho (Nat.le_refl _) p hp
  have e4 : kidsOf p.1 = es := by rw [e1]; rfl
  refine ⟨by rw [e4, List.length_map]; exact e3, fun x hx => ?_, parsM_low nm 6 o ho (Nat.le_refl _) p hp⟩
  rw [e4] at hx
  obtain ⟨e, he, rfl⟩ := List.mem_map.mp hx
  exact cnt_low el (e2 e he)
theorem sum_le {b : Nat} : ∀ {l : List Nat}, (∀ x ∈ l, x ≤ b) → l.sum ≤ l.length * b
  | [], _ => Nat.zero_le _
  | x :: l, h => by
    have := sum_le (l := l) fun y hy => h y (List.mem_cons_of_mem _ hy)
    have := h x List.mem_cons_self
    rw [List.sum_cons, List.length_cons, Nat.succ_mul]
    omega
theorem arr_fine {o : PyData} {r : List Str} {z nm : Str} {args : List PyData} (ho : orderB 6 o = true) (hr : r.length ≤ 100) (hn : ∀ x ∈ r, nameS x = true) (h : ArrAsk r z args nm) : FineL 0 100 1 (.str z :: args) ∧ Fine 0 10000 5 (ansA o r z nm) := by
  obtain ⟨f1, f2⟩ := step_facts ho (r.take (r.idxOf nm)) nm
  cases h with
  | entry i h =>
    refine ⟨q_fine (by decide) (by omega) (by omega), ?_⟩
    rw [show ansA o r "entry" r[i] = ansE o r r[i] from if_pos rfl]
    have g := finel_map (s := 0) (m := 9) (n := 2) stpD (stepsM (r.take (r.idxOf r[i])) r[i] 6 o) fun s hs => by
      obtain ⟨g1, g2, g3⟩ := f2 s hs
      exact ((FineL.cons (ints_fine (k := 6) g1 fun x hx => by have := g2 x hx; omega).tup (FineL.cons (fine_n (i := (s.2 : Nat)) (by omega) (by omega)) FineL.nil)).tup).mono (by decide) (by decide)
    exact ((FineL.cons g.tup (FineL.cons (fine_nm (hn _ (List.getElem_mem h))) FineL.nil)).tup).mono (by omega) (by omega)
  | locate nm h =>
    refine ⟨(FineL.cons (lits_fine _ (by decide)) (FineL.cons (fine_nm (hn _ h)) FineL.nil)).mono (by decide) (by decide), ?_⟩
    rw [show ansA o r "locate" nm = ansLc o r nm from if_neg (by decide)]
    have g := finel_map (s := 0) (m := 9) (n := 2) sumD (stepsM (r.take (r.idxOf nm)) nm 6 o).reverse fun s hs => by
      obtain ⟨g1, g2, g3⟩ := f2 s (List.mem_reverse.mp hs)
      have g4 := sum_le g2
      have g5 : s.1.length * 46656 ≤ 6 * 46656 := Nat.mul_le_mul_right _ g1
      exact ((FineL.cons (fine_n (i := (s.1.sum : Nat)) (by omega) (by omega)) (FineL.cons (ints_fine (k := 6) g1 fun x hx => by have := g2 x hx; omega).tup FineL.nil)).tup).mono (by decide) (by decide)
    have hi := List.idxOf_le_length (a := nm) (l := r)
    rw [List.length_reverse] at g
    exact ((FineL.cons g.tup (FineL.cons (fine_n (i := (r.idxOf nm : Nat)) (by omega) (by omega)) FineL.nil)).tup).mono (by omega) (by omega)
theorem qW_mem {w : Str} {n : Nat} {d : PyData} (h : d ∈ qW w n) : ∃ p, p < n ∧ d = .tuple [.str w, .int (p : Nat)] := by
  unfold qW at h
  obtain ⟨p, hp, rfl⟩ := List.mem_map.mp h
  exact ⟨p, List.mem_range.mp hp, rfl⟩
theorem qP_mem {w : Str} {lo n : Nat} {d : PyData} (h : d ∈ qP w lo n) : ∃ p, p < n ∧ d = .tuple [.str w, .int ((p + lo : Nat) : Int)] := by
  unfold qP at h
  obtain ⟨p, hp, rfl⟩ := List.mem_map.mp h
  refine ⟨p, List.mem_range.mp hp, ?_⟩
  rw [show ((lo : Nat) : Int) + ((p : Nat) : Int) = ((p + lo : Nat) : Int) by omega]
theorem pair_ok {l : Lf7} {os ds : List PyData} (hl : LfOk l) (ho : okObjs l os) (hq : okQs l ds) : ∀ t ∈ os, Fine 0 102 1 t ∧ ∀ d ∈ ds, ∃ z args an, d = .tuple (.str z :: args) ∧ Pair l t z args an := by
  cases l with
  | sub n k =>
    have ⟨hn, hk⟩ : n ≤ 5 ∧ k ≤ n := hl
    obtain rfl : os = _ := ho
    obtain rfl : ds = _ := hq
    intro t ht
    obtain ⟨r, hr, rfl⟩ := List.mem_map.mp ht
    have hrl := subsM_row n k r hr
    have hrx := subsM_low n k r hr
    refine ⟨row_fine (by omega) fun x hx => by have := hrx x hx; omega, fun d hd => ?_⟩
    have F : ∀ (z : Str) (p : Nat), p ≤ 5 → (z = "contains" ∨ z = "rank" ∨ z = "select") → (z = "select" → p < k) → ∃ z' args an, (PyData.tuple [.str z, .int (p : Nat)]) = .tuple (.str z' :: args) ∧ Pair (.sub n k) (rowD r) z' args an := fun z p hp hz hs => by
      refine ⟨z, [.int (p : Nat)], _, rfl, .sub (by omega) hz (fun e => by have := hs e; omega), q_fine (by rcases hz with rfl | rfl | rfl <;> decide) (by omega) (by omega), ?_⟩
      unfold ansS
      split
      · exact (bool_fine _).mono (by decide) (by decide)
      · split
        · have := List.length_filter_le (fun x => decide (x < p)) r
          exact (fine_n (by omega) (by omega)).mono (by decide) (by decide)
        · have := getD_le (r := r) (i := p) (b := 5) fun x hx => by have := hrx x hx; omega
          exact (fine_n (by omega) (by omega)).mono (by decide) (by decide)
    rcases List.mem_append.mp hd with hd | hd
    · rcases List.mem_append.mp hd with hd | hd
      · obtain ⟨p, hp, rfl⟩ := qW_mem hd
        exact F "contains" p (by omega) (.inl rfl) (fun e => absurd e (by decide))
      · obtain ⟨p, hp, rfl⟩ := qW_mem hd
        exact F "rank" p (by omega) (.inr (.inl rfl)) (fun e => absurd e (by decide))
    · obtain ⟨p, hp, rfl⟩ := qW_mem hd
      exact F "select" p (by omega) (.inr (.inr rfl)) (fun _ => hp)
  | word cs =>
    have hc : CnOk cs 5 := hl
    obtain ⟨rs, rfl, _, hrs⟩ := ho
    obtain rfl : ds = _ := hq
    intro t ht
    obtain ⟨r, hr, rfl⟩ := List.mem_map.mp ht
    have wk := hrs r hr
    have h1 := hc.tot
    have h2 := hc.len
    have h3 := wk.row
    have hnr : ∀ x ∈ r, nameS x = true := fun x hx => by
      obtain ⟨c, hc', rfl⟩ := wk.nm x hx
      exact hc.nm c hc'
    have F : ∀ (z : Str) (args : List PyData) (an : PyData), WordAsk cs r z args an → ∃ z' args' an', (PyData.tuple (.str z :: args)) = .tuple (.str z' :: args') ∧ Pair (.word cs) (srowD r) z' args' an' := fun z args an h => by
      obtain ⟨f1, f2⟩ := word_fine (by omega) hc.nm (by omega) hnr h
      exact ⟨z, args, an, rfl, .word (by omega) hc.nm (by omega) h, f1, f2⟩
    refine ⟨srow_fine (by omega) hnr, fun d hd => ?_⟩
    rcases List.mem_append.mp hd with hd | hd
    · rcases List.mem_append.mp hd with hd | hd
      · rcases List.mem_append.mp hd with hd | hd
        · obtain ⟨p, hp, rfl⟩ := qW_mem hd
          exact F _ _ _ (.letter p (by omega))
        · obtain ⟨p, hp, rfl⟩ := qW_mem hd
          exact F _ _ _ (.pref p (by omega))
      · obtain ⟨p, hp, rfl⟩ := qW_mem hd
        exact F _ _ _ (.entry p (by omega))
    · obtain ⟨c, hcm, hd⟩ := List.mem_flatMap.mp hd
      unfold qSel at hd
      obtain ⟨j, hj, rfl⟩ := List.mem_map.mp hd
      exact F _ _ _ (.select c j hcm (by rw [wk.cnt c hcm]; exact List.mem_range.mp hj))
  | arr o =>
    have ⟨hoo, hn4, hnd⟩ : orderB 6 o = true ∧ (namesN 6 o).length ≤ 4 ∧ (namesN 6 o).Nodup := hl
    obtain ⟨rs, rfl, _, hrs⟩ := ho
    obtain ⟨ns, hns, rfl⟩ := hq
    intro t ht
    obtain ⟨r, hr, rfl⟩ := List.mem_map.mp ht
    have hp := hrs r hr
    have hlr := hp.length_eq
    have hln := hns.length_eq
    have hnr : ∀ x ∈ r, nameS x = true := fun x hx => names_ok 6 o hoo x (hp.mem_iff.mp hx)
    have F : ∀ (z nm : Str) (args : List PyData), ArrAsk r z args nm → ∃ z' args' an', (PyData.tuple (.str z :: args)) = .tuple (.str z' :: args') ∧ Pair (.arr o) (srowD r) z' args' an' := fun z nm args h => by
      obtain ⟨f1, f2⟩ := arr_fine hoo (by omega) hnr h
      exact ⟨z, args, _, rfl, .arr hoo hp (hp.nodup_iff.mpr hnd) (by omega) h, f1, f2⟩
    refine ⟨srow_fine (by omega) hnr, fun d hd => ?_⟩
    rcases List.mem_append.mp hd with hd | hd
    · obtain ⟨p, hp, rfl⟩ := qW_mem hd
      exact F _ _ _ (.entry p (by omega))
    · unfold qLoc at hd
      obtain ⟨z, hz, rfl⟩ := List.mem_map.mp hd
      exact F _ _ _ (.locate z (hp.mem_iff.mpr (hns.mem_iff.mp hz)))
  | cyc n =>
    have ⟨h1, h4⟩ : 1 ≤ n ∧ n ≤ 4 := hl
    obtain ⟨rs, rfl, _, hrs⟩ := ho
    obtain rfl : ds = _ := hq
    intro t ht
    obtain ⟨r, hr, rfl⟩ := List.mem_map.mp ht
    obtain ⟨hrl, hin⟩ := hrs r hr
    have hlow := all_low hrl hin
    refine ⟨row_fine (by omega) fun x hx => by have := hlow x hx; omega, fun d hd => ?_⟩
    have F : ∀ (z : Str) (p : Nat), p < n → (z = "successor" ∨ z = "predecessor") → ∃ z' args an, (PyData.tuple [.str z, .int ((p + 0 : Nat) : Int)]) = .tuple (.str z' :: args) ∧ Pair (.cyc n) (rowD r) z' args an := fun z p hp hz => by
      refine ⟨z, [.int (p : Nat)], _, rfl, .cyc (by omega) hz (by omega) (hin p hp), q_fine (by rcases hz with rfl | rfl <;> decide) (by omega) (by omega), ?_⟩
      have b1 := getD_le (r := r) (i := p) (b := 5) fun x hx => by have := hlow x hx; omega
      have b2 := List.idxOf_le_length (a := p) (l := r)
      have b3 : ansN "successor" r z p ≤ 5 := by
        unfold ansN
        split <;> omega
      exact (fine_n (by omega) (by omega)).mono (by decide) (by decide)
    rcases List.mem_append.mp hd with hd | hd
    · obtain ⟨p, hp, rfl⟩ := qP_mem hd
      exact F "successor" p hp (.inl rfl)
    · obtain ⟨p, hp, rfl⟩ := qP_mem hd
      exact F "predecessor" p hp (.inr rfl)
  | mat n =>
    have h3 : n ≤ 3 := hl
    obtain ⟨rs, rfl, _, hrs⟩ := ho
    obtain rfl : ds = _ := hq
    intro t ht
    obtain ⟨r, hr, rfl⟩ := List.mem_map.mp ht
    obtain ⟨hrl, hlow⟩ := hrs r hr
    refine ⟨row_fine (by omega) fun x hx => by have := hlow x hx; omega, fun d hd => ?_⟩
    obtain ⟨p, hp, rfl⟩ := qP_mem hd
    have b1 := getD_le (r := r) (i := p) (b := 1000) fun x hx => by have := hlow x hx; omega
    exact ⟨"partner", [.int (p : Nat)], _, rfl, .mat (by omega) (by omega), q_fine (by decide) (by omega) (by omega), (fine_n (by omega) (by omega)).mono (by decide) (by decide)⟩
  | tree n =>
    have ⟨h1, h4⟩ : 1 ≤ n ∧ n ≤ 4 := hl
    obtain ⟨rs, rfl, _, hrs⟩ := ho
    obtain rfl : ds = _ := hq
    intro t ht
    obtain ⟨r, hr, rfl⟩ := List.mem_map.mp ht
    obtain ⟨hrl, hlow⟩ := hrs r hr
    refine ⟨tree_fine (by omega) fun x hx => by have := hlow x hx; omega, fun d hd => ?_⟩
    obtain ⟨p, hp, rfl⟩ := qP_mem hd
    have b1 := getD_le (r := r) (i := p) (b := 5) fun x hx => by have := hlow x hx; omega
    exact ⟨"parent", [.int ((p + 1 : Nat) : Int)], _, rfl, .tree (by omega) (by omega), q_fine (by decide) (by omega) (by omega), (fine_n (by omega) (by omega)).mono (by decide) (by decide)⟩
  | perm n mv =>
    have ⟨h4, _⟩ : n ≤ 4 ∧ _ := hl
    obtain ⟨rs, rfl, _, hrs⟩ := ho
    obtain rfl : ds = _ := hq
    intro t ht
    obtain ⟨r, hr, rfl⟩ := List.mem_map.mp ht
    have hp := hrs r hr
    have hrl : r.length = n := by rw [hp.length_eq, List.length_range]
    have hlow : ∀ x ∈ r, x < n := fun x hx => List.mem_range.mp (hp.mem_iff.mp hx)
    have hin : ∀ i, i < n → i ∈ r := fun i hi => hp.mem_iff.mpr (List.mem_range.mpr hi)
    refine ⟨row_fine (by omega) fun x hx => by have := hlow x hx; omega, fun d hd => ?_⟩
    have F : ∀ (z : Str) (p : Nat), p < n → (z = "image" ∨ z = "preimage") → ∃ z' args an, (PyData.tuple [.str z, .int ((p + 0 : Nat) : Int)]) = .tuple (.str z' :: args) ∧ Pair (.perm n mv) (rowD r) z' args an := fun z p hp hz => by
      refine ⟨z, [.int (p : Nat)], _, rfl, .perm (by omega) hz (by omega) (hin p hp), q_fine (by rcases hz with rfl | rfl <;> decide) (by omega) (by omega), ?_⟩
      have b1 := getD_le (r := r) (i := p) (b := 5) fun x hx => by have := hlow x hx; omega
      have b2 := List.idxOf_le_length (a := p) (l := r)
      have b3 : ansN "image" r z p ≤ 5 := by
        unfold ansN
        split <;> omega
      exact (fine_n (by omega) (by omega)).mono (by decide) (by decide)
    rcases List.mem_append.mp hd with hd | hd
    · obtain ⟨p, hp, rfl⟩ := qP_mem hd
      exact F "image" p hp (.inl rfl)
    · obtain ⟨p, hp, rfl⟩ := qP_mem hd
      exact F "preimage" p hp (.inr rfl)
end KB
set_option maxRecDepth 100000
set_option maxHeartbeats 8000000
namespace KB
open PySem PySem.Spec PyProof.Rows L2
/-! ### the law's leaf -/
abbrev s_leaf : Stmt := top 46
theorem ret_tup7 {v : V} {t : TA} {D : Ends} {σ : L2.St} {H : Hp} (h : t σ H fun xs H1 => (v :: xs).length ≤ sizeLine ∧ ∀ (p : Addr) (o : Obj), H1 p = none → o.dict = none → D.rt (.ref p) (upd H1 p (.frz o (.tup (v :: xs))))) : tRet (tTupF (tCons (tC v) t)) D σ H := h
theorem ret_if1 {G : List (Nat × PyData)} {c : TT} {ta tb : TE} {D : Ends} {σ : L2.St} {H : Hp} (M : MkT G c true) (E : EnvOk G σ H) (k : ∀ H' : Hp, Same H H' → tRet ta D σ H') : tRet (tIf c ta tb) D σ H := M σ H _ E fun H1 S => (if_pos rfl : (if true = true then ta σ H1 D.rt else tb σ H1 D.rt) = _) ▸ k H1 S
theorem ret_if0 {G : List (Nat × PyData)} {c : TT} {ta tb : TE} {D : Ends} {σ : L2.St} {H : Hp} (M : MkT G c false) (E : EnvOk G σ H) (k : ∀ H' : Hp, Same H H' → tRet tb D σ H') : tRet (tIf c ta tb) D σ H := M σ H _ E fun H1 S => (if_neg Bool.false_ne_true : (if false = true then ta σ H1 D.rt else tb σ H1 D.rt) = _) ▸ k H1 S
theorem mk_inIF {K : PySem.W.Frag} {G : List (Nat × PyData)} {t : TE} {ws : List Int} {z : Int} {c : Bool} {w : TA} (h : Mk G t (.int z)) (hs : Mks G w (ws.map PyData.int)) (hl : ws.length ≤ 100) (e : inV (.int z) (ws.map V.int) = c) : Mk G (tOp (rIn K false) t (tTupF w)) (.bool c) := fun σ H Q E q => h σ H _ E fun v H1 S1 d1 => hs σ H1 _ (E.same S1) fun vs H2 S2 d2 => by
  obtain rfl := dat_isInt d1
  obtain rfl := dat_ints d2
  refine ⟨by rw [List.length_map, sizeLine_eq]; omega, fun p o np no => ⟨p, _, rfl, .inr (sqT_rd (TP.fz upd_same no)), rfl, ?_, ?_⟩⟩
  · rw [List.all_eq_true]
    intro x hx
    obtain ⟨y, _, rfl⟩ := List.mem_map.mp hx
    rfl
  · show Q (.bl (inV (.int z) (ws.map V.int))) _
    rw [e]
    exact q _ _ ((S1.trans S2).trans (same_new np)) (.bl c)
theorem cons_of {ta : TE} {tr : TA} {σ : L2.St} {H : Hp} {Q : List V → Hp → Prop} (h : ta σ H fun x H1 => tr σ H1 fun xs H2 => Q (x :: xs) H2) : tCons ta tr σ H Q := h
/-- a leaf as the maker gives it -/
structure Leaf7 (l : Lf7) : Prop where
  ok : LfOk l
  fn : Fine 0 1000 20 (lfD l)
  no : noL (lfD l) = true
theorem cnts_fineL {cs : Cn} {m : Nat} (h : CnOk cs m) (hm : m ≤ 100) : Fine 0 40 2 (cntsD cs) := by
  have htot : ∀ l : Cn, (∀ c ∈ l, c.2 ≤ totN l) := by
    intro l c hc
    obtain ⟨a, b, rfl⟩ := List.append_of_mem hc
    rw [totN_app]
    unfold totN
    rw [List.map_cons, List.sum_cons]
    omega
  have := finel_map (s := 0) (m := 9) (n := 1) cntD cs fun c hc => by
    have e := htot cs c hc
    have e2 := h.tot
    have := (FineL.cons (fine_nm (s := 0) (h.nm c hc)) (FineL.cons (fine_n (i := (c.2 : Nat)) (by omega) (by omega)) FineL.nil)).tup
    exact this.mono (by decide) (by decide)
  have e : cs.length * 9 ≤ 27 := by
    have := h.len
    omega
  exact this.tup.mono (by omega) (by decide)
theorem kd_fine (l : Lf7) : Fine 0 13 0 (.str (kd l)) := by
  have h : ∀ z ∈ (["subset", "word", "arrangement", "cycle", "matching", "tree", "permutation"] : List Str), z.cps.toList.all (fun c => decide (c < 128)) = true ∧ z.length ≤ 12 := by decide +kernel
  have m : kd l ∈ (["subset", "word", "arrangement", "cycle", "matching", "tree", "permutation"] : List Str) := by cases l <;> simp [kd]
  exact fine_str (h _ m).1 (h _ m).2
theorem leaf7 {l : Lf7} {m n : Nat} (h : LfOk l) (F : FineL 0 m n (lfR l)) (no : noLs (lfR l) = true) (hm : m ≤ 900) (hn : n ≤ 19) : Leaf7 l := by
  refine ⟨h, ((FineL.cons (kd_fine l) F).tup).mono (by omega) (by omega), ?_⟩
  show (noL (.str (kd l)) && noLs (lfR l)) = true
  rw [no]
  rfl
theorem int_fineL (n : Nat) (h : n ≤ 1000) : FineL 0 1 0 [.int (n : Nat)] := FineL.one (fine_n (by omega) (by omega))
theorem lf_sub {n k : Nat} (hn : n ≤ 5) (hk : k ≤ n) : Leaf7 (.sub n k) := leaf7 ⟨hn, hk⟩ ((FineL.cons (fine_n (by omega) (by omega)) (int_fineL k (by omega)))) rfl (by decide) (by decide)
theorem lf_word {cs : Cn} (h : CnOk cs 5) : Leaf7 (.word cs) := leaf7 h (FineL.one (cnts_fineL h (by decide))) (by show noLs [cntsD cs] = true; simp [noLs, cnts_noL]) (by decide) (by decide)
theorem lf_arr {o : PyData} {ns : List Str} (h1 : orderB 6 o = true) (h2 : namesN 6 o = ns) (h3 : ns.length ≤ 4) (hd : ns.Nodup) (h4 : noL o = true) (h5 : Fine 0 200 11 o) : Leaf7 (.arr o) := leaf7 ⟨h1, by rw [h2]; exact h3, by rw [h2]; exact hd⟩ (FineL.one h5) (by show noLs [o] = true; simp [noLs, h4]) (by decide) (by decide)
theorem lf_cyc {n : Nat} (h1 : 1 ≤ n) (hn : n ≤ 4) : Leaf7 (.cyc n) := leaf7 ⟨h1, hn⟩ (int_fineL n (by omega)) rfl (by decide) (by decide)
theorem lf_mat {n : Nat} (hn : n ≤ 3) : Leaf7 (.mat n) := leaf7 hn (int_fineL n (by omega)) rfl (by decide) (by decide)
theorem lf_tree {n : Nat} (h1 : 1 ≤ n) (hn : n ≤ 4) : Leaf7 (.tree n) := leaf7 ⟨h1, hn⟩ (int_fineL n (by omega)) rfl (by decide) (by decide)
theorem lf_perm {n : Nat} {mv : List Nat} (hn : n ≤ 4) (hl : mv.length ≤ 4) (h : ∀ x ∈ mv, x < n) : Leaf7 (.perm n mv) := leaf7 ⟨hn, h, by omega⟩ (FineL.cons (fine_n (by omega) (by omega)) (FineL.one (ints_fine (k := 4) hl fun x hx => by have := h x hx; omega).tup)) (by
  show (true && (noLs (intsD mv) && true)) = true
  rw [ints_noL]
  rfl) (by decide) (by decide)
def Leafs7 (H : Hp) (p q : Addr) (b : Nat) (Q : VK) : Prop := ∀ (v : V) (l : Lf7) (H' : Hp), Off p q H H' → Dk H' p q b → Dat (hide p q H') v (lfD l) → Leaf7 l → Q v H'
theorem fin7 {H Hc : Hp} {p q a : Addr} {b bc : Nat} {Q : VK} {l : Lf7} {xs : List V} {o : Obj} (k : Leafs7 H p q b Q) (O : Off p q H Hc) (D : Dk Hc p q bc) (hb : bc ≤ b) (na : Hc a = none) (no : o.dict = none) (hd : DatAll Hc xs (.str (kd l) :: lfR l)) (ok : Leaf7 l) : Q (.ref a) (upd Hc a (.frz o (.tup xs))) := by
  have S := same_new (o := HO.frz o (.tup xs)) na
  have D1 := D.same S
  exact k _ l _ (O.trans (Off.of_same S)) (D1.mono hb) (dat_hide D1 (.tup (TP.fz upd_same no) (hd.same S)) ok.no) ok
def spLeaf7 : Sp := fun vs H Q _ => ∃ (p q : Addr) (b k : Nat), vs = [.ref p, .int (k : Nat)] ∧ k < 7 ∧ Dk H p q b ∧ b + 60 ≤ 100000000 ∧ Leafs7 H p q (b + 40) Q
section
variable {P : Program} {w : World} {K : PySem.W.Frag} {mg : Str → Option Value} {base : Heap}
abbrev NLf : List Str := ["_law_deck_here", "_law_sort", "_law_n", "_law_names_here", "_law_p"]
theorem sc_leaf : FnScope NLf ["_law_deck_here", "_law_sort"] (defScope s_leaf) := ⟨rfl, rfl, rfl, by decide +kernel, rfl, by decide +kernel, by decide +kernel⟩
theorem okl_leaf {f fD fP fC fO : Addr} {fd fdD fdP fdC fdO : FuncData} (F : Fun K "_law_leaf" "_law_leaf" s_leaf f fd) (T : Nm mg)
    (D_draw : DefOk K mg "_law_draw" sDraw ["_law_deck_here", "_law_bound"] fD fdD) (D_pick : DefOk K mg "_law_pick" sPick ["_law_deck_here", "_law_items"] fP fdP)
    (D_counts : DefOk K mg "_law_counts" s_counts ["_law_deck_here", "_law_most"] fC fdC) (D_order : DefOk K mg "_law_order" s_order ["_law_deck_here", "_law_names_here"] fO fdO) : FnOk P w K mg base CX0 9 f fd ["_law_deck_here", "_law_sort"] spLeaf7 := by
  have G_draw : FnOk P w K mg base CX0 1 fD fdD ["_law_deck_here", "_law_bound"] spDraw := ok_draw D_draw.F
  have G_pick : FnOk P w K mg base CX0 2 fP fdP ["_law_deck_here", "_law_items"] spPick := ok_pick D_pick.F T D_draw.F D_draw.b D_draw.g
  have G_counts : FnOk P w K mg base CX0 3 fC fdC ["_law_deck_here", "_law_most"] spCnts := okl_counts D_counts.F T D_draw D_pick
  have G_order : FnOk P w K mg base CX0 8 fO fdO ["_law_deck_here", "_law_names_here"] (spOrd 5) := okl_order D_order.F D_order.b D_order.g T D_draw D_pick 5
  refine F.ok sc_leaf (fun vs H Q E h => ?_) (fun cdv A outer s H vs Q E hr h => ?_)
  · obtain ⟨p, q, b, k, rfl, _⟩ := h
    rfl
  · obtain ⟨p, q, b, z, rfl, hz, D, hb, k⟩ := h
    have hr1 : Room 1 _ := hr.mono (by decide)
    have hr2 : Room 2 _ := hr.mono (by decide)
    have hr3 : Room 3 _ := hr.mono (by decide)
    refine ⟨_, (pss_cons (ps_if (pt_cmpR op_eq (pv 1) pe_int (nomark _))
        (pss_cons (ps_set (i := 2) sc_leaf.nd rfl (Or.inl rfl) (pe_call G_draw hr1 rfl D_draw.g D_draw.F.kp D_draw.b .nil pass0 (pa_cons (pv 0) (pa_cons pe_int pa_nil))))
        (pss_one (ps_ret (pe_tupF (pa_cons pe_str (pa_cons (pv 2) (pa_cons (pe_call G_draw hr1 rfl D_draw.g D_draw.F.kp D_draw.b .nil pass0 (pa_cons (pv 0) (pa_cons (pe_op op_add (pv 2) pe_int) pa_nil))) pa_nil)))))))
        pss_nil)
      (pss_cons (ps_if (pt_cmpR op_eq (pv 1) pe_int (nomark _))
        (pss_one (ps_ret (pe_tupF (pa_cons pe_str (pa_cons (pe_call G_counts hr3 rfl D_counts.g D_counts.F.kp D_counts.b .nil pass0 (pa_cons (pv 0) (pa_cons pe_int pa_nil))) pa_nil)))))
        pss_nil)
      (pss_cons (ps_if (pt_cmpR op_eq (pv 1) pe_int (nomark _))
        (pss_cons (ps_set (i := 3) sc_leaf.nd rfl (Or.inl rfl) (pe_call G_pick hr2 rfl D_pick.g D_pick.F.kp D_pick.b .nil pass0 (pa_cons (pv 0) (pa_cons (pe_lst (pa_cons (pe_lst (pa_cons pe_str (pa_cons pe_str (pa_cons pe_str (pa_cons pe_str pa_nil))))) (pa_cons (pe_lst (pa_cons pe_str (pa_cons pe_str (pa_cons pe_str pa_nil)))) (pa_cons (pe_lst (pa_cons pe_str (pa_cons pe_str pa_nil))) (pa_cons (pe_lst (pa_cons pe_str pa_nil)) pa_nil))))) pa_nil))))
        (pss_one (ps_ret (pe_tupF (pa_cons pe_str (pa_cons (pe_call G_order hr rfl D_order.g D_order.F.kp D_order.b .nil pass0 (pa_cons (pv 0) (pa_cons (pv 3) pa_nil))) pa_nil))))))
        pss_nil)
      (pss_cons (ps_if (pt_cmpR op_in_seq (pv 1) (pe_tupF (pa_cons pe_int (pa_cons pe_int pa_nil))) rfl)
        (pss_one (ps_ret (pe_ifExp (pt_cmpR op_eq (pv 1) pe_int (nomark _)) (pe_tupF (pa_cons pe_str (pa_cons (pe_op op_add pe_int (pe_call G_draw hr1 rfl D_draw.g D_draw.F.kp D_draw.b .nil pass0 (pa_cons (pv 0) (pa_cons pe_int pa_nil)))) pa_nil))) (pe_tupF (pa_cons pe_str (pa_cons (pe_call G_draw hr1 rfl D_draw.g D_draw.F.kp D_draw.b .nil pass0 (pa_cons (pv 0) (pa_cons pe_int pa_nil))) pa_nil))))))
        pss_nil)
      (pss_cons (ps_if (pt_cmpR op_eq (pv 1) pe_int (nomark _))
        (pss_one (ps_ret (pe_tupF (pa_cons pe_str (pa_cons (pe_op op_add pe_int (pe_call G_draw hr1 rfl D_draw.g D_draw.F.kp D_draw.b .nil pass0 (pa_cons (pv 0) (pa_cons pe_int pa_nil)))) pa_nil)))))
        pss_nil)
      (pss_cons (ps_set (i := 2) sc_leaf.nd rfl (Or.inl rfl) (pe_call G_draw hr1 rfl D_draw.g D_draw.F.kp D_draw.b .nil pass0 (pa_cons (pv 0) (pa_cons pe_int pa_nil))))
      (pss_one (ps_ret (pe_tupF (pa_cons pe_str (pa_cons (pv 2) (pa_cons (pe_callTy call_tupF (by rfl) T.tuple (by decide +kernel) (pa_cons (pe_lc (own := [("_law_p", 4)]) (g := (gName 4)) (tt := tTest (tOp rEq (tCall spDraw [] E0 (tCons (tVar 0) (tCons (tC (.int 2)) tNil))) (tC (.int 0)))) rfl sc_leaf.nd (pi_range1 rfl T.range (pa_cons (pv 2) pa_nil)) (blkOk_by (N := NLf) (sc := defScope s_leaf) (by decide +kernel))
          (fun _ _ _ _ _ => (pg_name (i := 4) sc_leaf.nd rfl (Or.inl rfl))) (fun _ _ _ _ _ => pts_one (pt_cmpR op_eq (pe_call G_draw hr1 rfl D_draw.g D_draw.F.kp D_draw.b .nil pass0 (pa_cons (pv 0) (pa_cons pe_int pa_nil))) pe_int (nomark _))) (fun _ _ _ _ _ => (pv 4))) pa_nil)) pa_nil)))))))))))), ?_⟩
    have E0' : EnvOk [(1, .int (z : Nat))] [some (V.ref p), some (.int (z : Nat)), none, none, none] H := fun pr hp => by
      obtain rfl := List.mem_singleton.mp hp
      exact ⟨_, rfl, .int _⟩
    match z, hz, E0' with
    | 0, _, EV =>
      refine sq_if1 (mkt (mk_eq (mk_var List.mem_cons_self) mk_int (by decide))) EV fun H0 S0 => ?_
      have EE0 := (EV).same S0
      have DX := D.same S0
      have OX := Off.of_same (p := p) (q := q) S0
      have EX := EE0
      refine sq_anyX (draw_c (n := 6) rfl DX (by decide) (by decide) (by omega) fun n Ha hn Oa Da => ?_)
      refine ⟨_, rfl, cons_of (call_v rfl ⟨_, rfl, _, _, rfl, rfl, draw_of (E := E0) (n := (n : Int) + 1) Da (by omega) (by omega) (by omega) fun m Hc hm Oc Dc => ⟨(by show 3 ≤ sizeLine; decide), fun a oa na noa => ?_⟩⟩)⟩
      exact fin7 k ((OX.trans Oa).trans Oc) Dc (by omega) na noa (l := .sub n m) (.cons (.str _ (by decide)) (.cons (.int _) (.cons (.int _) .nil))) (lf_sub (by omega) (by omega))
    | 1, _, EV =>
      refine sq_if0 (mkt (mk_eq (mk_var List.mem_cons_self) mk_int (by decide))) EV fun H0 S0 => ?_
      have EE0 := (EV).same S0
      refine sq_if1 (mkt (mk_eq (mk_var List.mem_cons_self) mk_int (by decide))) EE0 fun H1 S1 => ?_
      have EE1 := (EE0).same S1
      have DX := D.same (S0.trans S1)
      have OX := Off.of_same (p := p) (q := q) (S0.trans S1)
      have EX := EE1
      refine ret_tup7 (cons_of (call_v rfl ⟨p, q, b, 5, rfl, by decide, DX, by omega, fun v cs Hc Oc Dc dd ff ok => ⟨(by show 2 ≤ sizeLine; decide), fun a oa na noa => ?_⟩⟩))
      exact fin7 k (OX.trans Oc) Dc (by omega) na noa (l := .word cs) (.cons (.str _ (by decide)) (.cons (dd.same (hide_sub _ _ _)) .nil)) (lf_word ok)
    | 2, _, EV =>
      refine sq_if0 (mkt (mk_eq (mk_var List.mem_cons_self) mk_int (by decide))) EV fun H0 S0 => ?_
      have EE0 := (EV).same S0
      refine sq_if0 (mkt (mk_eq (mk_var List.mem_cons_self) mk_int (by decide))) EE0 fun H1 S1 => ?_
      have EE1 := (EE0).same S1
      refine sq_if1 (mkt (mk_eq (mk_var List.mem_cons_self) mk_int (by decide))) EE1 fun H2 S2 => ?_
      have EE2 := (EE1).same S2
      have DX := D.same ((S0.trans S1).trans S2)
      have OX := Off.of_same (p := p) (q := q) ((S0.trans S1).trans S2)
      have EX := EE2
      refine sq_anyX (call_v rfl ⟨(by show 4 ≤ sizeLine; decide), fun l1 n1 => ⟨(by show 3 ≤ sizeLine; decide), fun l2 n2 => ⟨(by show 2 ≤ sizeLine; decide), fun l3 n3 => ⟨(by show 1 ≤ sizeLine; decide), fun l4 n4 => ⟨(by show 4 ≤ sizeLine; decide), fun l5 n5 => ?_⟩⟩⟩⟩⟩)
      have Sa := same_new (o := HO.lst [.str "a", .str "b", .str "c", .str "d"]) n1
      have Sb := same_new (o := HO.lst [.str "d", .str "bb", .str "a"]) n2
      have Sc := same_new (o := HO.lst [.str "z", .str "y"]) n3
      have Sd := same_new (o := HO.lst [.str "one"]) n4
      have Se := same_new (o := HO.lst [.ref l1, .ref l2, .ref l3, .ref l4]) n5
      have D1 := DX.same Sa
      have D2 := D1.same Sb
      have D3 := D2.same Sc
      have D4 := D3.same Sd
      have D5 := D4.same Se
      have m1 := DX.new n1
      have m2 := D1.new n2
      have m3 := D2.new n3
      have m4 := D3.new n4
      have m5 := D4.new n5
      have SX := (((Sa.trans Sb).trans Sc).trans Sd).trans Se
      have f1 := Se _ _ (Sd _ _ (Sc _ _ (Sb _ _ (upd_same (H := H2) (a := l1) (o := .lst [.str "a", .str "b", .str "c", .str "d"])))))
      have f2 := Se _ _ (Sd _ _ (Sc _ _ (upd_same (H := upd H2 l1 (.lst [.str "a", .str "b", .str "c", .str "d"])) (a := l2) (o := .lst [.str "d", .str "bb", .str "a"]))))
      have f3 := Se _ _ (Sd _ _ (upd_same (H := upd (upd H2 l1 (.lst [.str "a", .str "b", .str "c", .str "d"])) l2 (.lst [.str "d", .str "bb", .str "a"])) (a := l3) (o := .lst [.str "z", .str "y"])))
      have f4 := Se _ _ (upd_same (H := upd (upd (upd H2 l1 (.lst [.str "a", .str "b", .str "c", .str "d"])) l2 (.lst [.str "d", .str "bb", .str "a"])) l3 (.lst [.str "z", .str "y"])) (a := l4) (o := .lst [.str "one"]))
      have f5 := upd_same (H := upd (upd (upd (upd H2 l1 (.lst [.str "a", .str "b", .str "c", .str "d"])) l2 (.lst [.str "d", .str "bb", .str "a"])) l3 (.lst [.str "z", .str "y"])) l4 (.lst [.str "one"])) (a := l5) (o := .lst [.ref l1, .ref l2, .ref l3, .ref l4])
      generalize upd (upd (upd (upd (upd H2 l1 (.lst [.str "a", .str "b", .str "c", .str "d"])) l2 (.lst [.str "d", .str "bb", .str "a"])) l3 (.lst [.str "z", .str "y"])) l4 (.lst [.str "one"])) l5 (.lst [.ref l1, .ref l2, .ref l3, .ref l4]) = Hf at D5 SX f1 f2 f3 f4 f5 ⊢
      have nmo : ∀ ns ∈ ([["a", "b", "c", "d"], ["d", "bb", "a"], ["z", "y"], ["one"]] : List (List Str)), 1 ≤ ns.length ∧ ns.length ≤ 4 ∧ ns.Nodup ∧ ∀ y ∈ ns, nameS y = true := by decide +kernel
      have hpick : ∀ (j : Nat) (x : V), [V.ref l1, V.ref l2, V.ref l3, V.ref l4][j]? = some x → ∃ (l : Addr) (ns : List Str), x = .ref l ∧ Hf l = some (.lst (ns.map V.str)) ∧ l ≠ p ∧ l ≠ q ∧ 1 ≤ ns.length ∧ ns.length ≤ 4 ∧ ns.Nodup ∧ ∀ y ∈ ns, nameS y = true := fun j x hx => by
        match j, hx with
        | 0, hx => exact ⟨l1, ["a", "b", "c", "d"], (Option.some.inj hx).symm, f1, m1.1, m1.2, nmo _ (by simp)⟩
        | 1, hx => exact ⟨l2, ["d", "bb", "a"], (Option.some.inj hx).symm, f2, m2.1, m2.2, nmo _ (by simp)⟩
        | 2, hx => exact ⟨l3, ["z", "y"], (Option.some.inj hx).symm, f3, m3.1, m3.2, nmo _ (by simp)⟩
        | 3, hx => exact ⟨l4, ["one"], (Option.some.inj hx).symm, f4, m4.1, m4.2, nmo _ (by simp)⟩
        | j + 4, hx => simp at hx
      refine pick_of (E := E0) D5 f5 m5.1 m5.2 (by show 0 < 4; decide) (by show 4 ≤ 1000; decide) (by omega) fun j x Hg hx Og Dg => ?_
      obtain ⟨l, ns, rfl, hl, lp, lq, ln1, ln4, hnd, hns⟩ := hpick j x hx
      have OG := (OX.trans (Off.of_same SX)).trans Og
      refine ret_tup7 (cons_of (call_v rfl ⟨_, rfl, p, q, l, b + 1, b + 14, ns, rfl, Og _ _ hl lp lq, lp, lq, ln1, by omega, by decide, hns, Dg, by omega, by omega, fun v o Hc Oc Dc dd no or nm fi => ⟨(by show 2 ≤ sizeLine; decide), fun a oa na noa => ?_⟩⟩))
      exact fin7 k (OG.trans Oc) Dc (by omega) na noa (l := .arr o) (.cons (.str _ (by decide)) (.cons (dd.same (hide_sub _ _ _)) .nil)) (lf_arr or nm (by omega) hnd no (fi.mono (by omega) (by decide)))
    | 3, _, EV =>
      refine sq_if0 (mkt (mk_eq (mk_var List.mem_cons_self) mk_int (by decide))) EV fun H0 S0 => ?_
      have EE0 := (EV).same S0
      refine sq_if0 (mkt (mk_eq (mk_var List.mem_cons_self) mk_int (by decide))) EE0 fun H1 S1 => ?_
      have EE1 := (EE0).same S1
      refine sq_if0 (mkt (mk_eq (mk_var List.mem_cons_self) mk_int (by decide))) EE1 fun H2 S2 => ?_
      have EE2 := (EE1).same S2
      refine sq_if1 (mkt (mk_inIF (ws := [3, 4]) (mk_var List.mem_cons_self) (mks_cons mk_int (mks_cons mk_int mks_nil)) (by decide) (by decide +kernel))) EE2 fun H3 S3 => ?_
      have EE3 := (EE2).same S3
      have DX := D.same (((S0.trans S1).trans S2).trans S3)
      have OX := Off.of_same (p := p) (q := q) (((S0.trans S1).trans S2).trans S3)
      have EX := EE3
      refine ret_if1 (mkt (mk_eq (mk_var List.mem_cons_self) mk_int (by decide))) EX fun H9 S9 => ?_
      refine ret_tup7 (cons_of (draw_1 (n := 4) rfl (DX.same S9) (by decide) (by decide) (by omega) fun i Hc hi Oc Dc => ⟨(by show 2 ≤ sizeLine; decide), fun a oa na noa => ?_⟩))
      exact fin7 k ((OX.trans (Off.of_same S9)).trans Oc) Dc (by omega) na noa (l := .cyc (1 + i)) (.cons (.str _ (by decide)) (.cons (dat_int' (by omega)) .nil)) (lf_cyc (by omega) (by omega))
    | 4, _, EV =>
      refine sq_if0 (mkt (mk_eq (mk_var List.mem_cons_self) mk_int (by decide))) EV fun H0 S0 => ?_
      have EE0 := (EV).same S0
      refine sq_if0 (mkt (mk_eq (mk_var List.mem_cons_self) mk_int (by decide))) EE0 fun H1 S1 => ?_
      have EE1 := (EE0).same S1
      refine sq_if0 (mkt (mk_eq (mk_var List.mem_cons_self) mk_int (by decide))) EE1 fun H2 S2 => ?_
      have EE2 := (EE1).same S2
      refine sq_if1 (mkt (mk_inIF (ws := [3, 4]) (mk_var List.mem_cons_self) (mks_cons mk_int (mks_cons mk_int mks_nil)) (by decide) (by decide +kernel))) EE2 fun H3 S3 => ?_
      have EE3 := (EE2).same S3
      have DX := D.same (((S0.trans S1).trans S2).trans S3)
      have OX := Off.of_same (p := p) (q := q) (((S0.trans S1).trans S2).trans S3)
      have EX := EE3
      refine ret_if0 (mkt (mk_eq (mk_var List.mem_cons_self) mk_int (by decide))) EX fun H9 S9 => ?_
      refine ret_tup7 (cons_of (draw_c (n := 4) rfl (DX.same S9) (by decide) (by decide) (by omega) fun i Hc hi Oc Dc => ⟨(by show 2 ≤ sizeLine; decide), fun a oa na noa => ?_⟩))
      exact fin7 k ((OX.trans (Off.of_same S9)).trans Oc) Dc (by omega) na noa (l := .mat i) (.cons (.str _ (by decide)) (.cons (.int _) .nil)) (lf_mat (by omega))
    | 5, _, EV =>
      refine sq_if0 (mkt (mk_eq (mk_var List.mem_cons_self) mk_int (by decide))) EV fun H0 S0 => ?_
      have EE0 := (EV).same S0
      refine sq_if0 (mkt (mk_eq (mk_var List.mem_cons_self) mk_int (by decide))) EE0 fun H1 S1 => ?_
      have EE1 := (EE0).same S1
      refine sq_if0 (mkt (mk_eq (mk_var List.mem_cons_self) mk_int (by decide))) EE1 fun H2 S2 => ?_
      have EE2 := (EE1).same S2
      refine sq_if0 (mkt (mk_inIF (ws := [3, 4]) (mk_var List.mem_cons_self) (mks_cons mk_int (mks_cons mk_int mks_nil)) (by decide) (by decide +kernel))) EE2 fun H3 S3 => ?_
      have EE3 := (EE2).same S3
      refine sq_if1 (mkt (mk_eq (mk_var List.mem_cons_self) mk_int (by decide))) EE3 fun H4 S4 => ?_
      have EE4 := (EE3).same S4
      have DX := D.same ((((S0.trans S1).trans S2).trans S3).trans S4)
      have OX := Off.of_same (p := p) (q := q) ((((S0.trans S1).trans S2).trans S3).trans S4)
      have EX := EE4
      refine ret_tup7 (cons_of (draw_1 (n := 4) rfl DX (by decide) (by decide) (by omega) fun i Hc hi Oc Dc => ⟨(by show 2 ≤ sizeLine; decide), fun a oa na noa => ?_⟩))
      exact fin7 k (OX.trans Oc) Dc (by omega) na noa (l := .tree (1 + i)) (.cons (.str _ (by decide)) (.cons (dat_int' (by omega)) .nil)) (lf_tree (by omega) (by omega))
    | 6, _, EV =>
      refine sq_if0 (mkt (mk_eq (mk_var List.mem_cons_self) mk_int (by decide))) EV fun H0 S0 => ?_
      have EE0 := (EV).same S0
      refine sq_if0 (mkt (mk_eq (mk_var List.mem_cons_self) mk_int (by decide))) EE0 fun H1 S1 => ?_
      have EE1 := (EE0).same S1
      refine sq_if0 (mkt (mk_eq (mk_var List.mem_cons_self) mk_int (by decide))) EE1 fun H2 S2 => ?_
      have EE2 := (EE1).same S2
      refine sq_if0 (mkt (mk_inIF (ws := [3, 4]) (mk_var List.mem_cons_self) (mks_cons mk_int (mks_cons mk_int mks_nil)) (by decide) (by decide +kernel))) EE2 fun H3 S3 => ?_
      have EE3 := (EE2).same S3
      refine sq_if0 (mkt (mk_eq (mk_var List.mem_cons_self) mk_int (by decide))) EE3 fun H4 S4 => ?_
      have EE4 := (EE3).same S4
      have DX := D.same ((((S0.trans S1).trans S2).trans S3).trans S4)
      have OX := Off.of_same (p := p) (q := q) ((((S0.trans S1).trans S2).trans S3).trans S4)
      have EX := EE4
      refine sq_anyX (draw_c (n := 5) rfl DX (by decide) (by decide) (by omega) fun n Ha hn Oa Da => ?_)
      refine ret_tup7 ⟨_, rfl, _, rfl, ((n : Nat) : Int), rfl, by omega, by omega, fun A nA => ?_⟩
      refine lc_range (n := n) (fun j Hz => ∃ ac : List Nat, GD Ha p q A (b + 1 + j) (ac.map fun i => PyData.int (i : Nat)) Hz ∧ ac.length ≤ j ∧ ∀ a ∈ ac, a < n) ⟨[], (GD.start Da nA).mono (by omega), Nat.zero_le _, fun a ha => by cases ha⟩ ?_ ?_
      · rintro j Hz hj ⟨ac, ga, hal, hac⟩
        rw [show ((0 : Int) + (j : Nat)) = ((j : Nat) : Int) from Int.zero_add _]
        refine ⟨rfl, ?_⟩
        refine draw_c (n := 2) rfl ga.D (by decide) (by decide) (by omega) fun y Hy hy Oy Dy => ⟨rfl, _, rfl, ?_⟩
        have gy := ga.draw Oy Dy
        by_cases hy0 : y = 0
        · refine if_t (decide_eq_true (by rw [hy0]; rfl)) ⟨_, rfl, ?_⟩
          obtain ⟨zs, hA, hzl, _, g'⟩ := gy.add (zs := [.int (j : Nat)]) (es := [.int (j : Nat)]) (.cons (.int _) .nil) rfl
          rw [List.length_map] at hzl
          refine ⟨zs, hA, (by rw [sizeLine_eq]; omega), ac ++ [j], ?_, ?_, ?_⟩
          · rw [List.map_append]
            exact g'
          · rw [List.length_append]
            show ac.length + 1 ≤ _
            omega
          · intro a ha
            rcases List.mem_append.mp ha with ha | ha
            · exact hac a ha
            · obtain rfl := List.mem_singleton.mp ha
              omega
        · exact if_f (decide_eq_false fun e => hy0 (by have := V.int.inj e; omega)) ⟨ac, gy, by omega, hac⟩
      · rintro Hz ⟨ac, ga, hal, hac⟩
        obtain ⟨zs, hA, hzl, dA⟩ := ga.fin
        refine ⟨A, zs, rfl, SqL.of hA, fun t2 o2 n2 m2 => ⟨(by show 3 ≤ sizeLine; decide), fun t3 o3 n3 m3 => ?_⟩⟩
        have S2 := same_new (o := HO.frz o2 (.tup zs)) n2
        exact fin7 k (((OX.trans Oa).trans ga.O).trans (Off.of_same S2)) (ga.D.same S2) (by omega) n3 m3 (l := .perm n ac) (.cons (.str _ (by decide)) (.cons (.int _) (.cons (.tup (TP.fz upd_same m2) (dA.same S2)) .nil))) (lf_perm (by omega) (by omega) hac)
    | z + 7, hz, _ => exact absurd hz (by omega)
end
end KB
set_option maxRecDepth 100000
set_option maxHeartbeats 8000000
namespace KB
open PySem PySem.Spec PyProof.Rows L2
/-! ### both ways, and nothing changes -/
abbrev s_right : Stmt := top 47
/-- values given by keyword: query, space, obj -/
def swK {α : Type} : List α → List α → List α
  | [], [q, s, o] => [s, o, q]
  | _, _ => []
def RepX (d : PyData) : Prop := okInt d ∧ d.depth ≤ 64 ∧ d.shown.length ≤ sizeLine
theorem rep_x {d : PyData} {m n : Nat} (F : Fine 0 m n d) (hm : m ≤ 100000) (hn : n ≤ 60) : RepX d := by
  obtain ⟨r1, r2, r3⟩ := F.rep (by decide) hm hn
  exact ⟨r1, by omega, by rw [sizeLine_eq]; omega⟩
theorem repr_of {G : List (Nat × PyData)} {te : TE} {d : PyData} {σ : L2.St} {H : Hp} {Q : VK} (M : Mk G te d) (E : EnvOk G σ H) (R : RepX d) (k : ∀ H', Same H H' → Q (.str d.shown) H') : tCB rReprD (tCons te tNil) σ H Q := cb_1 (M σ H _ E fun v H1 S1 d1 => ⟨v, d, rfl, d1, R.1, R.2.1, R.2.2, k H1 S1⟩)
theorem query_fine {z : Str} {args : List PyData} (h : FineL 0 100 1 (.str z :: args)) : Fine 0 102 2 (qryD z args) := by
  have e : Fine 0 1 1 (.tuple []) := (FineL.nil (s := 0)).tup
  exact ((FineL.cons e h).tup).mono (by decide) (by decide)
theorem kept_rep {l : Lf7} {t : PyData} {z : Str} {args : List PyData} (h1 : Fine 0 1000 20 (lfD l)) (h2 : Fine 0 102 1 t) (h3 : Fine 0 102 2 (qryD z args)) : RepX (.tuple [lfD l, t, qryD z args]) := rep_x (FineL.cons h1 (FineL.cons h2 (FineL.cons h3 FineL.nil))).tup (by decide) (by decide)
theorem due_rep {an : PyData} (h : Fine 0 10000 5 an) : RepX (answD an) := by
  have e : Fine 0 1 1 (.tuple []) := (FineL.nil (s := 0)).tup
  exact rep_x (FineL.cons e (FineL.cons (FineL.one h).tup FineL.nil)).tup (by decide) (by decide)
def spRight : Sp := fun vs H Q _ => ∃ (v0 v1 v2 : V) (l : Lf7) (t : PyData) (z : Str) (args : List PyData) (an : PyData), vs = [v0, v1, v2] ∧ Dat H v0 (lfD l) ∧ Dat H v1 t ∧ Dat H v2 (qryD z args) ∧ Fine 0 1000 20 (lfD l) ∧ Fine 0 102 1 t ∧ Pair l t z args an ∧ ∀ H', Same H H' → Q (.bl true) H'
section
variable {P : Program} {w : World} {K : PySem.W.Frag} {mg : Str → Option Value} {base : Heap}
abbrev NRi : List Str := ["_law_leaf_here", "_law_thing", "_law_asked", "_law_kept", "_law_due", "_law_found", "_law_one"]
theorem sc_right : FnScope NRi ["_law_leaf_here", "_law_thing", "_law_asked"] (defScope s_right) := ⟨rfl, rfl, rfl, by decide +kernel, rfl, by decide +kernel, by decide +kernel⟩
theorem okl_right {f fI fY : Addr} {fd fdI fdY : FuncData} (F : Fun K "_law_right" "_law_right" s_right f fd) (T : Nm mg) (eS : PySem.W.nsIn K cStatics "sys.int_max_str_digits" = some none)
    (D_item : DefOk K mg "_law_item" s_item ["_law_part", "_law_own", "_law_asked"] fI fdI) (G_item : FnOk P w K mg base CX0 10 fI fdI ["_law_part", "_law_own", "_law_asked"] spItem)
    (D_answer : DefOk K mg "answer_to" s_answer ["space", "obj", "query"] fY fdY) (G_answer : FnOk P w K mg base CX0 16 fY fdY ["space", "obj", "query"] spAns) (kb : KBinds K fdY ["space", "obj", "query"] ["query", "space", "obj"] swK swK) : FnG P w K mg base 17 f fd ["_law_leaf_here", "_law_thing", "_law_asked"] spRight := by
  refine F.okG sc_right (fun vs H Q E h => ?_) (fun cdv A outer s H vs Q E hg hr h => ?_)
  · obtain ⟨v0, v1, v2, l, t, z, args, an, rfl, _⟩ := h
    rfl
  · obtain ⟨v0, v1, v2, l, t, z, args, an, rfl, h0, h1, h2, f0, f1, pr, q⟩ := h
    have hr10 : Room 10 _ := hr.mono (by decide)
    have hu0 := hr.units0
    have hu : (A.deeper (envOfC "_law_right" (defScope s_right) s.heap.objs.size f cdv)).units + 128 < cLine := by
      have := hr.un
      omega
    refine ⟨_, (pss_cons (ps_asg (pe_tupF (pa_cons (pe_callB (call_reprD hg hu eS) (by rfl) T.repr (by decide +kernel) (pa_cons (pe_tupF (pa_cons (pv 0) (pa_cons (pv 1) (pa_cons (pv 2) pa_nil)))) pa_nil)) (pa_cons (pe_callB (call_reprD hg hu eS) (by rfl) T.repr (by decide +kernel) (pa_cons (pe_tupF (pa_cons (pe_tupF pa_nil) (pa_cons (pe_tupF (pa_cons (pe_call G_item hr10 rfl D_item.g D_item.F.kp D_item.b .nil pass0 (pa_cons (pv 0) (pa_cons (pv 1) (pa_cons (pe_slice sl_tupF (pv 2) (po_some pe_int) po_none) pa_nil)))) pa_nil)) pa_nil))) pa_nil)) pa_nil))) (pg_tup rfl (pgs_cons (pg_name (i := 3) sc_right.nd rfl (Or.inl rfl)) (pgs_cons (pg_name (i := 4) sc_right.nd rfl (Or.inr rfl)) pgs_nil))))
      (pss_cons (ps_set (i := 5) sc_right.nd rfl (Or.inl rfl) (pe_lst (pa_cons (pe_call G_answer hr rfl D_answer.g D_answer.F.kp D_answer.b .nil pass0 (pa_cons (pv 0) (pa_cons (pv 1) (pa_cons (pv 2) pa_nil)))) (pa_cons (pe_callKw G_answer hr rfl D_answer.g D_answer.F.kp kb pass0 (pk_cons (pv 2) (pk_cons (pv 0) (pk_cons (pv 1) pk_nil)))) pa_nil))))
      (pss_one (ps_ret (pe_and (pe_cmpR (op_empty hu0) (pe_lc (own := [("_law_one", 6)]) (g := (gName 6)) (tt := tTest (tOp rNe (tCB rReprD (tCons (tVar 6) tNil)) (tVar 4))) rfl sc_right.nd (pi_list (pv 5)) (blkOk_by (N := NRi) (sc := defScope s_right) (by decide +kernel))
          (fun _ _ _ _ _ => (pg_name (i := 6) sc_right.nd rfl (Or.inl rfl))) (fun _ _ _ _ _ => pts_one (pt_cmpR op_ne (pe_callB (call_reprD hg hu eS) (by rfl) T.repr (by decide +kernel) (pa_cons (pv 6) pa_nil)) (pv 4) (nomark _))) (fun _ _ _ _ _ => (pv 6))) (pe_lst pa_nil) (nomark _)) (pe_one (pe_cmpR op_eq (pe_callB (call_reprD hg hu eS) (by rfl) T.repr (by decide +kernel) (pa_cons (pe_tupF (pa_cons (pv 0) (pa_cons (pv 1) (pa_cons (pv 2) pa_nil)))) pa_nil)) (pv 3) (nomark _)))))))), ?_⟩
    have RK := kept_rep f0 f1 (query_fine pr.q)
    have RD := due_rep pr.f
    have G0 : EnvOk [(0, lfD l), (1, t), (2, qryD z args)] [some v0, some v1, some v2, none, none, none, none] H := fun p hp => by
      simp only [List.mem_cons, List.not_mem_nil, or_false] at hp
      rcases hp with rfl | rfl | rfl
      · exact ⟨_, rfl, h0⟩
      · exact ⟨_, rfl, h1⟩
      · exact ⟨_, rfl, h2⟩
    have M0 : Mk [(0, lfD l), (1, t), (2, qryD z args)] (tVar 0) (lfD l) := mk_var (by simp)
    have M1 : Mk [(0, lfD l), (1, t), (2, qryD z args)] (tVar 1) t := mk_var (by simp)
    have M2 : Mk [(0, lfD l), (1, t), (2, qryD z args)] (tVar 2) (qryD z args) := mk_var (by simp)
    have MT : Mk [(0, lfD l), (1, t), (2, qryD z args)] (tTupF (tCons (tVar 0) (tCons (tVar 1) (tCons (tVar 2) tNil)))) (.tuple [lfD l, t, qryD z args]) := mk_tup (mks_cons M0 (mks_cons M1 (mks_cons M2 mks_nil))) (by show 3 ≤ 1000; decide)
    have MI : Mk [(0, lfD l), (1, t), (2, qryD z args)] (tCall spItem [] E0 (tCons (tVar 0) (tCons (tVar 1) (tCons (tSl (rSlF K) (tVar 2) (tPart (tC (.int 1))) tNoPart) tNil)))) an := fun σ H Q E q => call_3 (M0 σ H _ E fun u0 H1 S1 d0 => M1 σ H1 _ (E.same S1) fun u1 H2 S2 d1 => mk_slFromA (K := K) (ds := .tuple [] :: .str z :: args) (n := 1) M2 (mk_nat (y := 1) rfl) σ H2 _ ((E.same S1).same S2) fun u2 H3 S3 d2 => ⟨u0, u1, u2, l, t, z, args, an, rfl, (d0.same S2).same S3, d1.same S3, d2, pr.a, fun u H' S' du => q u H' (((S1.trans S2).trans S3).trans S') du⟩)
    have MD : Mk [(0, lfD l), (1, t), (2, qryD z args)] (tTupF (tCons (tTupF tNil) (tCons (tTupF (tCons (tCall spItem [] E0 (tCons (tVar 0) (tCons (tVar 1) (tCons (tSl (rSlF K) (tVar 2) (tPart (tC (.int 1))) tNoPart) tNil)))) tNil)) tNil))) (answD an) := mk_tup (mks_cons (mk_tup mks_nil (by decide)) (mks_cons (mk_tup (mks_cons MI mks_nil) (by show 1 ≤ 1000; decide)) mks_nil)) (by show 2 ≤ 1000; decide)
    have MA : Mk [(0, lfD l), (1, t), (2, qryD z args)] (tCall spAns [] E0 (tCons (tVar 0) (tCons (tVar 1) (tCons (tVar 2) tNil)))) (answD an) := fun σ H Q E q => call_3 (M0 σ H _ E fun u0 H1 S1 d0 => M1 σ H1 _ (E.same S1) fun u1 H2 S2 d1 => M2 σ H2 _ ((E.same S1).same S2) fun u2 H3 S3 d2 => ⟨u0, u1, u2, l, t, z, args, an, rfl, (d0.same S2).same S3, d1.same S3, d2, pr.a, fun u H' S' du => q u H' (((S1.trans S2).trans S3).trans S') du⟩)
    have MAK : Mk [(0, lfD l), (1, t), (2, qryD z args)] (tCallKw spAns swK E0 (tCons (tVar 2) (tCons (tVar 0) (tCons (tVar 1) tNil)))) (answD an) := fun σ H Q E q => cons_of (M2 σ H _ E fun u2 H1 S1 d2 => cons_of (M0 σ H1 _ (E.same S1) fun u0 H2 S2 d0 => cons_of (M1 σ H2 _ ((E.same S1).same S2) fun u1 H3 S3 d1 => ⟨u0, u1, u2, l, t, z, args, an, rfl, d0.same S3, d1, (d2.same S2).same S3, pr.a, fun u H' S' du => q u H' (((S1.trans S2).trans S3).trans S') du⟩)))
    obtain ⟨TX, hTX⟩ : ∃ TX, TX = (PyData.tuple [lfD l, t, qryD z args]).shown := ⟨_, rfl⟩
    obtain ⟨TB, hTB⟩ : ∃ TB, TB = (answD an).shown := ⟨_, rfl⟩
    refine sq_anyX (cons_of (repr_of MT G0 RK fun H1 S1 => cons_of (repr_of MD (G0.same S1) RD fun H2 S2 => ⟨(by show 2 ≤ sizeLine; decide), fun p o np no => ⟨p, _, rfl, sqT_rd (TP.fz upd_same no), rfl, _, _, rfl, _, _, rfl, rfl, ?_⟩⟩)))
    rw [← hTX, ← hTB]
    have S3 := (S1.trans S2).trans (same_new (o := HO.frz o (.tup [.str TX, .str TB])) np)
    generalize upd H2 p (.frz o (.tup [.str TX, .str TB])) = H3 at S3 ⊢
    have G3 : EnvOk [(0, lfD l), (1, t), (2, qryD z args)] [some v0, some v1, some v2, some (.str TX), some (.str TB), none, none] H3 := fun p hp => by
      simp only [List.mem_cons, List.not_mem_nil, or_false] at hp
      rcases hp with rfl | rfl | rfl
      · exact ⟨_, rfl, h0.same S3⟩
      · exact ⟨_, rfl, h1.same S3⟩
      · exact ⟨_, rfl, h2.same S3⟩
    refine sq_set (mk_lst (mks_cons MA (mks_cons MAK mks_nil)) (by show 2 ≤ 1000; decide)) G3 rfl (by show 5 < 7; decide) fun vf H4 S4 E4 => ?_
    obtain ⟨u, hu5, du⟩ := E4 (5, .list [answD an, answD an]) List.mem_cons_self
    obtain rfl : vf = u := Option.some.inj (Option.some.inj hu5)
    obtain ⟨L, xs, rfl, hL, hx⟩ := dat_lst du
    have S34 := S3.trans S4
    have hlx := hx.len
    refine ret_ofX ⟨_, hu5, L, rfl, ⟨_, SqL.of hL⟩, fun D nD => lc_list (K := K) (a := L) (xs := xs) (fun i Hx => Same H4 Hx ∧ Hx D = some (.lst [])) ⟨same_new nD, upd_same⟩ (fun i Hx _ ⟨S, _⟩ => SqL.of (S _ _ hL)) ?_ ?_⟩
    · rintro i y Hx hi ⟨S, hD⟩
      obtain ⟨d, hd, dy⟩ := hx.get hi
      obtain rfl : d = answD an := by
        have := List.mem_of_getElem? hd
        simp only [List.mem_cons, List.not_mem_nil, or_false, or_self] at this
        exact this
      refine ⟨rfl, ?_⟩
      refine ⟨_, rfl, _, answD an, rfl, dy.same S, RD.1, RD.2.1, RD.2.2, _, rfl, rfl, _, rfl, ?_⟩
      rw [← hTB]
      refine if_f ?_ ⟨S, hD⟩
      rw [decide_eq_true rfl]
      rfl
    · rintro Hx ⟨S, hD⟩
      refine ⟨(by show 0 ≤ sizeLine; decide), fun e ne => ⟨D, e, [], rfl, rfl, .inl ⟨same_new ne _ _ hD, upd_same⟩, _, rfl, if_t rfl ?_⟩⟩
      have S7 := S.trans (same_new (o := HO.lst []) ne)
      generalize upd Hx e (.lst []) = H7 at S7 ⊢
      have G7 : EnvOk [(0, lfD l), (1, t), (2, qryD z args)] [some v0, some v1, some v2, some (.str TX), some (.str TB), some (.ref L), none] H7 := fun p hp => by
        simp only [List.mem_cons, List.not_mem_nil, or_false] at hp
        rcases hp with rfl | rfl | rfl
        · exact ⟨_, rfl, (h0.same S34).same S7⟩
        · exact ⟨_, rfl, (h1.same S34).same S7⟩
        · exact ⟨_, rfl, (h2.same S34).same S7⟩
      refine repr_of MT G7 RK fun H8 S8 => ?_
      rw [← hTX]
      refine ⟨_, rfl, rfl, ?_⟩
      rw [decide_eq_true rfl]
      exact q _ ((S34.trans S7).trans S8)
end
end KB
set_option maxRecDepth 100000
set_option maxHeartbeats 8000000
namespace KB
open PySem PySem.Spec PyProof.Rows L2
/-! ### the law -/
def QsA (m : Nat) (ds : List PyData) : Prop := ds.length ≤ m ∧ ∀ d ∈ ds, ∃ es, d = .tuple es ∧ noL d = true ∧ es.length ≤ 10
theorem qs_app {m n : Nat} {a b : List PyData} (h : QsA m a) (h2 : QsA n b) : QsA (m + n) (a ++ b) := ⟨by rw [List.length_append]; exact Nat.add_le_add h.1 h2.1, fun d hd => (List.mem_append.mp hd).elim (h.2 d) (h2.2 d)⟩
theorem qs_W (w : Str) (n : Nat) : QsA n (qW w n) := ⟨by rw [qW_len]; exact Nat.le_refl _, fun d hd => by
  obtain ⟨p, _, rfl⟩ := qW_mem hd
  exact ⟨_, rfl, rfl, (by show 2 ≤ 10; decide)⟩⟩
theorem qs_P (w : Str) (lo n : Nat) : QsA n (qP w lo n) := ⟨by unfold qP; rw [List.length_map, List.length_range]; exact Nat.le_refl _, fun d hd => by
  obtain ⟨p, _, rfl⟩ := qP_mem hd
  exact ⟨_, rfl, rfl, (by show 2 ≤ 10; decide)⟩⟩
theorem qs_mono {m n : Nat} {a : List PyData} (h : QsA m a) (hm : m ≤ n) : QsA n a := ⟨Nat.le_trans h.1 hm, h.2⟩
theorem qs_ok {l : Lf7} {ds : List PyData} (hl : LfOk l) (hq : okQs l ds) : QsA 5000 ds := by
  cases l with
  | sub n k =>
    have ⟨hn, hk⟩ : n ≤ 5 ∧ k ≤ n := hl
    obtain rfl : ds = _ := hq
    exact qs_mono (qs_app (qs_app (qs_W _ _) (qs_W _ _)) (qs_W _ _)) (by omega)
  | word cs =>
    have hc : CnOk cs 5 := hl
    obtain rfl : ds = _ := hq
    have h1 := hc.tot
    refine qs_mono (qs_app (qs_app (qs_app (qs_W _ (totN cs)) (qs_W _ (totN cs + 1))) (qs_W _ (totN cs))) (n := totN cs) ⟨by rw [sel_len]; exact Nat.le_refl _, fun d hd => ?_⟩) (by omega)
    obtain ⟨c, _, hd⟩ := List.mem_flatMap.mp hd
    unfold qSel at hd
    obtain ⟨j, _, rfl⟩ := List.mem_map.mp hd
    exact ⟨_, rfl, rfl, (by show 3 ≤ 10; decide)⟩
  | arr o =>
    have ⟨hoo, hn4, hnd⟩ : orderB 6 o = true ∧ (namesN 6 o).length ≤ 4 ∧ (namesN 6 o).Nodup := hl
    obtain ⟨ns, hns, rfl⟩ := hq
    have hln := hns.length_eq
    refine qs_mono (qs_app (qs_W _ ns.length) (n := ns.length) ⟨by unfold qLoc; rw [List.length_map]; exact Nat.le_refl _, fun d hd => ?_⟩) (by omega)
    unfold qLoc at hd
    obtain ⟨z, _, rfl⟩ := List.mem_map.mp hd
    exact ⟨_, rfl, rfl, (by show 2 ≤ 10; decide)⟩
  | cyc n =>
    have ⟨h1, h4⟩ : 1 ≤ n ∧ n ≤ 4 := hl
    obtain rfl : ds = _ := hq
    exact qs_mono (qs_app (qs_P _ _ _) (qs_P _ _ _)) (by omega)
  | mat n =>
    have h4 : n ≤ 3 := hl
    obtain rfl : ds = _ := hq
    exact qs_mono (qs_P _ _ _) (by omega)
  | tree n =>
    have ⟨h1, h4⟩ : 1 ≤ n ∧ n ≤ 4 := hl
    obtain rfl : ds = _ := hq
    exact qs_mono (qs_P _ _ _) (by omega)
  | perm n mv =>
    have ⟨h4, _⟩ : n ≤ 4 ∧ _ := hl
    obtain rfl : ds = _ := hq
    exact qs_mono (qs_app (qs_P _ _ _) (qs_P _ _ _)) (by omega)
/-- over a list that is new, its items known only when it is there -/
theorem lc_frL {K : PySem.W.Frag} {N i : Nat} {G : List (Nat × PyData)} {t te : TE} {ok : List PyData → Prop} {f : PyData → PyData} {σ : L2.St} {H : Hp} {Q : VK} (hT : ∀ R : VK, Fresh H R ok → t σ H R) (hN : σ.length = N) (E : EnvOk G σ H) (hG : G.all (fun p => p.1 != i) = true) (hi : i < N)
    (hn : ∀ ds, ok ds → ds.length ≤ 5000) (he : ∀ ds, ok ds → ∀ d ∈ ds, Mk ((i, d) :: G) te (f d)) (hf : ∀ ds, ok ds → ∀ d ∈ ds, noL (f d) = true)
    (q : ∀ (L : Addr) (zs : List V) (ds : List PyData) (H' : Hp), H L = none → Same H H' → H' L = some (.lst zs) → DatAll H' zs (ds.map f) → ok ds → Q (.ref L) H') : tLc (iList K t) (gName i) tYes te [i] σ H Q := hT _ fun a xs ds H1 n1 S1 ha hx hok => by
  have hG := ne_of hG
  have hxl := hx.len
  have hnl := hn ds hok
  have E1 := (E.same S1).none hG
  refine ⟨a, rfl, ⟨_, SqL.of ha⟩, fun D nD => lc_list (K := K) (xs := xs) (fun j Hz => Gr H1 D ((ds.take j).map f) Hz) (by rw [List.take_zero]; exact Gr.start nD) (fun j Hz _ g => SqL.of (g.2.1 _ _ ha)) ?_ ?_⟩
  · rintro j y Hz hy g
    obtain ⟨d, hd, dy⟩ := hx.get hy
    have hm := List.mem_of_getElem? hd
    refine ⟨wipe_one, ?_⟩
    dsimp only [tYes]
    refine if_t rfl (he ds hok d hm _ Hz _ ((E1.same g.2.1).put hG (by rw [List.length_set, hN]; exact hi) (dy.same g.2.1)) fun v4 H4 S4 d4 => ?_)
    obtain ⟨zs, hL, hzl, _, g'⟩ := g.add S4 (.cons d4 .nil) (by show noLs [f d] = true; simp [noLs, hf ds hok d hm])
    rw [List.length_map, List.length_take] at hzl
    refine ⟨zs, hL, by rw [sizeLine_eq]; omega, ?_⟩
    rw [take_map_succ hd]
    exact g'
  · rintro Hz g
    rw [hxl, List.take_length] at g
    obtain ⟨zs, H0, n0, S0, S2, e, d⟩ := gr_out g
    exact q D zs ds Hz (none_back (S1.trans S0) n0) ((S1.trans S0).trans S2) e (d.same S2) hok
abbrev s_law : Stmt := top 48
abbrev NL : List Str := ["_law_script", "_law_deck_here", "_law_sort", "_law_turn", "_law_leaf_here", "_law_queries", "_law_thing", "_law_asked"]
def spLaw (K : PySem.W.Frag) : Sp := fun vs H Q _ => ∃ (a : Addr) (ns : List Int), vs = [.ref a] ∧ SqL K H a (ns.map V.int) ∧ ns.length ≤ 63 ∧ ∀ H', Q (.bl true) H'
def fQ (d : PyData) : PyData := .tuple ([.tuple []] ++ tupItems d)
section
variable {P : Program} {w : World} {K : PySem.W.Frag} {mg : Str → Option Value} {base : Heap}
theorem sc_law : FnScope NL ["_law_script"] (defScope s_law) := ⟨rfl, rfl, rfl, by decide +kernel, rfl, by decide +kernel, by decide +kernel⟩
theorem okl_law {f fK fL fQs fO fR : Addr} {fd fdK fdL fdQ fdO fdR : FuncData} (F : Fun K "law" "law" s_law f fd) (T : Nm mg)
    (D_deck : DefOk K mg "_law_deck" sDeck ["_law_script"] fK fdK) (D_leaf : DefOk K mg "_law_leaf" s_leaf ["_law_deck_here", "_law_sort"] fL fdL) (G_leaf : FnOk P w K mg base CX0 9 fL fdL ["_law_deck_here", "_law_sort"] spLeaf7)
    (D_part_queries : DefOk K mg "_law_part_queries" s_partq ["_law_part"] fQs fdQ) (G_part_queries : FnOk P w K mg base CX0 9 fQs fdQ ["_law_part"] spPartQ)
    (D_leaf_objects : DefOk K mg "_law_leaf_objects" s_leaf_objects ["_law_leaf_here"] fO fdO) (G_leaf_objects : FnOk P w K mg base CX0 10 fO fdO ["_law_leaf_here"] spLeafObjs)
    (D_right : DefOk K mg "_law_right" s_right ["_law_leaf_here", "_law_thing", "_law_asked"] fR fdR) (G_right : FnG P w K mg base 17 fR fdR ["_law_leaf_here", "_law_thing", "_law_asked"] spRight) :
    FnG P w K mg base 18 f fd ["_law_script"] (spLaw K) := by
  have G_deck : FnOk P w K mg base CX0 1 fK fdK ["_law_script"] (spDeck K) := ok_deck D_deck.F T T.list
  refine F.okG sc_law (fun vs H Q E h => ?_) (fun cdv AA outer s H vs Q E hg hr h => ?_)
  · obtain ⟨a, ns, rfl, _⟩ := h
    rfl
  · obtain ⟨a, ns0, rfl, hS, hlen, fin⟩ := h
    have hr1 : Room 1 _ := hr.mono (by decide)
    have hr9 : Room 9 _ := hr.mono (by decide)
    have hr10 : Room 10 _ := hr.mono (by decide)
    have hu0 := hr.units0
    refine ⟨_, (pss_cons (ps_set (i := 1) sc_law.nd rfl (Or.inl rfl) (pe_call G_deck hr1 rfl D_deck.g D_deck.F.kp D_deck.b .nil pass0 (pa_cons (pv 0) pa_nil)))
      (pss_cons (ps_for PassesOwn.never rfl (pi_range1 rfl T.range (pa_cons pe_int pa_nil)) (pg_name (i := 2) sc_law.nd rfl (Or.inl rfl))
        (pss_one (ps_for PassesOwn.never rfl (pi_range1 rfl T.range (pa_cons pe_int pa_nil)) (pg_name (i := 3) sc_law.nd rfl (Or.inl rfl))
          (pss_cons (ps_set (i := 4) sc_law.nd rfl (Or.inr rfl) (pe_call G_leaf hr9 rfl D_leaf.g D_leaf.F.kp D_leaf.b .nil pass0 (pa_cons (pv 1) (pa_cons (pv 2) pa_nil))))
          (pss_cons (ps_setLc (i := 5) (own := [("_law_asked", 7)]) (g := (gName 7)) (tt := tYes) (te := tOp (rCatF K) (tTupF (tCons (tTupF tNil) tNil)) (tVar 7)) rfl sc_law.nd rfl rfl (sw_true rfl rfl rfl (by decide +kernel)) (pi_list (pe_call G_part_queries hr9 rfl D_part_queries.g D_part_queries.F.kp D_part_queries.b .nil pass0 (pa_cons (pv 4) pa_nil))) (blkOk_by (N := NL) (sc := defScope s_law) (by decide +kernel))
          (fun _ _ _ _ _ => (pg_name (i := 7) sc_law.nd rfl (Or.inl rfl))) (fun _ _ _ _ _ => pts_nil) (fun _ _ _ _ _ => (pe_op op_catF (pe_tupF (pa_cons (pe_tupF pa_nil) pa_nil)) (pv 7))))
          (pss_one (ps_for PassesOwn.never rfl (pi_list (pe_call G_leaf_objects hr10 rfl D_leaf_objects.g D_leaf_objects.F.kp D_leaf_objects.b .nil pass0 (pa_cons (pv 4) pa_nil))) (pg_name (i := 6) sc_law.nd rfl (Or.inr rfl))
            (pss_one (ps_if (pt_cmpR (op_nempty hu0) (pe_lc (own := [("_law_asked", 7)]) (g := (gName 7)) rfl sc_law.nd (pi_list (pv 5)) (blkOk_by (N := NL) (sc := defScope s_law) (by decide +kernel))
          (fun _ _ _ _ _ => (pg_name (i := 7) sc_law.nd rfl (Or.inl rfl))) (fun _ _ _ _ _ => pts_one (pt_not (pt_val (pe_callG G_right hg hr rfl D_right.g D_right.F.kp D_right.b (pa_cons (pv 4) (pa_cons (pv 6) (pa_cons (pv 7) pa_nil))))))) (fun _ _ _ _ _ => (pv 7))) (pe_lst pa_nil) (nomark _))
              (pss_one (ps_ret pe_bl))
              pss_nil)))))))))
      (pss_one (ps_ret pe_bl)))), ?_⟩
    refine ⟨_, rfl, a, ns0, rfl, hS, hlen, fun p q ms m H1 s1 np nq D1 => ?_⟩
    have K1 : Dk H1 p q 0 := ⟨ms, m, 0, D1, by decide⟩
    refine ⟨7, rfl, by decide, by decide, for_range (n := 7) (fun i σ Hx => ∃ (x2 x3 x4 x5 x6 x7 : Option V), σ = [some (.ref a), some (.ref p), x2, x3, x4, x5, x6, x7] ∧ Dk Hx p q (80 * i)) ⟨none, none, none, none, none, none, rfl, K1⟩ ?_ ?_⟩
    · rintro i σ H2 hi ⟨x2, x3, x4, x5, x6, x7, rfl, K2⟩
      rw [show ((0 : Int) + (i : Nat)) = ((i : Nat) : Int) from Int.zero_add _]
      refine ⟨2, rfl, by decide, by decide, for_range (n := 2) (fun j σ Hx => ∃ (x3 x4 x5 x6 x7 : Option V), σ = [some (.ref a), some (.ref p), some (.int (i : Nat)), x3, x4, x5, x6, x7] ∧ Dk Hx p q (80 * i + 40 * j)) ⟨x3, x4, x5, x6, x7, rfl, K2⟩ ?_ ?_⟩
      · rintro j σ H3 hj ⟨y3, y4, y5, y6, y7, rfl, K3⟩
        refine sq_anyX ⟨_, rfl, _, rfl, p, q, 80 * i + 40 * j, i, rfl, hi, K3, by omega, fun v l H4 O4 K4 dv ok => ?_⟩
        have dv4 := dv.same (hide_sub _ _ _)
        have E4 : EnvOk [(4, lfD l)] [some (.ref a), some (.ref p), some (.int (i : Nat)), some (.int (0 + (j : Nat))), some v, y5, y6, y7] H4 := fun pr hp => by
          obtain rfl := List.mem_singleton.mp hp
          exact ⟨_, rfl, dv4⟩
        refine sq_anyX (lc_frL (N := 8) (ok := okQs l) (f := fQ) (fun R hR => call_1 rfl ⟨v, l, rfl, dv4, ok.ok, hR⟩) rfl E4 rfl (by decide) (fun ds h => (qs_ok ok.ok h).1) (fun ds h d hd => ?_) (fun ds h d hd => ?_) fun L zs ds H5 nL S5 hL dz okq => ?_)
        · obtain ⟨es, rfl, _, hl⟩ := (qs_ok ok.ok h).2 d hd
          exact mk_catA (mk_tup (mks_cons (mk_tup mks_nil (by decide)) mks_nil) (by show 1 ≤ 1000; decide)) (mk_var List.mem_cons_self) (by show 1 + es.length ≤ _; omega)
        · obtain ⟨es, rfl, no, hl⟩ := (qs_ok ok.ok h).2 d hd
          exact no
        have dv5 := dv4.same S5
        have K5 := K4.same S5
        refine call_1 rfl ⟨v, l, rfl, dv5, ok.ok, fun L2 zs2 os H6 n6 S6 e6 d6 oko => ?_⟩
        have PO := pair_ok ok.ok oko okq
        have K6 := K5.same S6
        refine ⟨L2, rfl, ⟨_, SqL.of e6⟩, for_list (K := K) (a := L2) (xs := zs2) (fun k σ Hx => ∃ (x6 x7 : Option V), σ = [some (.ref a), some (.ref p), some (.int (i : Nat)), some (.int (0 + (j : Nat))), some v, some (.ref L), x6, x7] ∧ Same H6 Hx) ⟨y6, y7, rfl, Same.refl _⟩ (fun k σ Hx _ ⟨_, _, _, S⟩ => SqL.of (S _ _ e6)) ?_ ?_⟩
        · rintro k y σ Hx hk ⟨z6, z7, rfl, S⟩
          obtain ⟨t, ht, dy⟩ := d6.get hk
          obtain ⟨ft, PT⟩ := PO t (List.mem_of_getElem? ht)
          have Sx := S6.trans S
          have hLx := Sx _ _ hL
          refine ⟨_, rfl, L, rfl, ⟨_, SqL.of hLx⟩, fun D nD => lc_list (K := K) (a := L) (xs := zs) (fun k Hy => Same Hx Hy ∧ Hy D = some (.lst [])) ⟨same_new nD, upd_same⟩ (fun k Hy _ ⟨S, _⟩ => SqL.of (S _ _ hLx)) ?_ ?_⟩
          · rintro m u Hy hm ⟨Sy, hD⟩
            obtain ⟨d', hd', du⟩ := dz.get hm
            rw [List.getElem?_map] at hd'
            obtain ⟨d, hd, rfl⟩ := Option.map_eq_some_iff.mp hd'
            obtain ⟨z, args, an, rfl, pr⟩ := PT d (List.mem_of_getElem? hd)
            refine ⟨rfl, ?_⟩
            have Sxy := Sx.trans Sy
            refine ⟨_, rfl, _, rfl, _, rfl, v, y, u, l, t, z, args, an, rfl, dv5.same Sxy, (dy.same S).same Sy, du.same Sxy, ok.fn, ft, pr, fun Hw Sw => ?_⟩
            exact ⟨_, rfl, ⟨Sy.trans Sw, Sw _ _ hD⟩⟩
          · rintro Hy ⟨Sy, hD⟩
            refine ⟨(by show 0 ≤ sizeLine; decide), fun e ne => ⟨D, e, [], rfl, rfl, .inl ⟨same_new ne _ _ hD, upd_same⟩, _, rfl, if_f rfl ?_⟩⟩
            exact ⟨_, _, rfl, (S.trans Sy).trans (same_new ne)⟩
        · rintro σ Hx ⟨z6, z7, rfl, S⟩
          exact ⟨_, _, _, _, _, rfl, (K6.same S).mono (by omega)⟩
      · rintro σ Hx ⟨y3, y4, y5, y6, y7, rfl, K3⟩
        exact ⟨_, _, _, _, _, _, rfl, K3.mono (by omega)⟩
    · rintro σ Hx ⟨x2, x3, x4, x5, x6, x7, rfl, _⟩
      exact fin _
end
end KB
set_option maxRecDepth 100000
set_option maxHeartbeats 8000000
namespace KB
open PySem PySem.Spec PyProof.Rows L2
/-! ### everything put together -/
theorem def_mk {K : PySem.W.Frag} {h : Heap} {mg : Str → Option Value} {x : Str} {st : Stmt} {ps : List Str} {f : Addr} {oc : Value} {od an : Option Addr} {osl : Array (Option Value)} {kV doc pm cdv ct : Value} (X : K.In h) (G : h.Ns mainGlobals mg)
    (a : PySem.W.nsIn K mainGlobals x = some (some (.ref f))) (l : K.lookup f = some ⟨oc, od, .func (PySem.W.fnOf x x (defArgs st) (defBody st) (defScope st) .none kV doc pm an cdv ct), osl⟩) (c : PySem.W.codeIn K cdv x = true) (k : PySem.W.keepIn K (.ref f) = true)
    (hb : ∀ (kV doc pm : Value) (an : Option Addr) (cdv ct : Value) (us : List Value), us.length = ps.length → bindArgs (PySem.W.fnOf x x (defArgs st) (defBody st) (defScope st) .none kV doc pm an cdv ct) ⟨us, []⟩ = pure (ps.zip us)) :
    DefOk K mg x st ps f (PySem.W.fnOf x x (defArgs st) (defBody st) (defScope st) .none kV doc pm an cdv ct) := ⟨fun_mk l c k, (fun_mk l c k).binds hb, PySem.W.mg_of X G a⟩
theorem kb_sw {K : PySem.W.Frag} {fd : FuncData} (h : ∀ (s : Shared) (u v x : Value), BindsTo s fd ⟨[], [("query", u), ("space", v), ("obj", x)]⟩ [("space", v), ("obj", x), ("query", u)]) : KBinds K fd ["space", "obj", "query"] ["query", "space", "obj"] swK swK where
  to := fun s us ws _ hl => by
    match us, ws, hl with
    | [], [u, v, x], _ => exact h s u v x
  rel := fun {vs us zs ws} r rz => by
    cases r with
    | nil =>
      cases rz with
      | nil => exact .nil
      | cons a t =>
        cases t with
        | nil => exact .nil
        | cons b t2 =>
          cases t2 with
          | nil => exact .nil
          | cons c t3 =>
            cases t3 with
            | nil => exact .cons b (.cons c (.cons a .nil))
            | cons d t4 => exact .nil
    | cons a t => exact .nil
/-- a table of promises -/
def look : List (Addr × Sp) → Addr → Option Sp
  | [], _ => none
  | p :: r, x => if x = p.1 then some p.2 else look r x
theorem look_mem {x : Addr} {sp : Sp} : ∀ {t : List (Addr × Sp)}, look t x = some sp → (x, sp) ∈ t
  | [], h => by cases h
  | p :: r, h => by
    unfold look at h
    split at h
    · rename_i e
      cases h
      rw [e]
      exact List.mem_cons_self
    · exact List.mem_cons_of_mem _ (look_mem h)
theorem look_at {x : Addr} {sp : Sp} : ∀ {t : List (Addr × Sp)}, (t.map (·.1)).Nodup → (x, sp) ∈ t → look t x = some sp
  | [], _, h => by cases h
  | p :: r, nd, h => by
    rw [List.map_cons, List.nodup_cons] at nd
    unfold look
    rcases List.mem_cons.mp h with e | h
    · rw [← e, if_pos rfl]
    · rw [if_neg (fun e => nd.1 (List.mem_map.mpr ⟨(x, sp), h, e⟩))]
      exact look_at nd.2 h
theorem all_mk {l : PySem.W.OpenLaw} {w : World} {K : PySem.W.Frag} {h : Heap} {mg : Str → Option Value} {fa dC f_names f_answer f_stepin f_dsub f_dword f_places f_count f_darr f_pars f_cntA f_dcyc f_dmat f_dperm f_dtree f_deck f_draw f_pick f_subsets f_words f_merged f_arrs f_orders f_cycles f_mats f_perms f_rooted f_trees f_objs f_lnames f_steps f_witem f_aitem f_item f_rowqs f_partqs f_order f_counts f_leaf f_right f_law : Addr} {d_names d_answer d_stepin d_dsub d_dword d_places d_count d_darr d_pars d_cntA d_dcyc d_dmat d_dperm d_dtree d_deck d_draw d_pick d_subsets d_words d_merged d_arrs d_orders d_cycles d_mats d_perms d_rooted d_trees d_objs d_lnames d_steps d_witem d_aitem d_item d_rowqs d_partqs d_order d_counts d_leaf d_right d_law : FuncData} {esC : Array DictEntry} {mC : Nat} (X : K.In h) (G : h.Ns mainGlobals mg) (hfa : mg "law" = some (.ref fa))
    (n0 : PySem.W.nsIn K mainGlobals "isinstance" = some none)
    (n1 : PySem.W.nsIn K mainGlobals "int" = some none)
    (n2 : PySem.W.nsIn K mainGlobals "bool" = some none)
    (n3 : PySem.W.nsIn K mainGlobals "str" = some none)
    (n4 : PySem.W.nsIn K mainGlobals "tuple" = some none)
    (n5 : PySem.W.nsIn K mainGlobals "len" = some none)
    (n6 : PySem.W.nsIn K mainGlobals "list" = some none)
    (n7 : PySem.W.nsIn K mainGlobals "range" = some none)
    (n8 : PySem.W.nsIn K mainGlobals "repr" = some none)
    (n9 : PySem.W.nsIn K mainGlobals "all" = some none)
    (n10 : PySem.W.nsIn K mainGlobals "any" = some none)
    (n11 : PySem.W.nsIn K mainGlobals "zip" = some none)
    (n12 : PySem.W.nsIn K mainGlobals "sum" = some none)
    (n13 : PySem.W.nsIn K mainGlobals "enumerate" = some none)
    (n14 : PySem.W.nsIn K mainGlobals "dict" = some none)
    (nso : PySem.W.nsIn K mainGlobals "sorted" = some none)
    (nre : PySem.W.nsIn K mainGlobals "reversed" = some none)
    (eS : PySem.W.nsIn K cStatics "sys.int_max_str_digits" = some none)
    (o_names : DefOk K mg "names_of" sNames ["order"] f_names d_names)
    (o_answer : DefOk K mg "answer_to" s_answer ["space", "obj", "query"] f_answer d_answer)
    (o_stepin : DefOk K mg "step_in" s_stepin ["part", "item", "step"] f_stepin d_stepin)
    (o_dsub : DefOk K mg "describe_subset" s_dsub ["part", "item", "word", "arguments"] f_dsub d_dsub)
    (o_dword : DefOk K mg "describe_word" s_dword ["part", "item", "word", "arguments"] f_dword d_dword)
    (o_places : DefOk K mg "places_of" s_places ["row", "wanted"] f_places d_places)
    (o_count : DefOk K mg "count_each" s_count ["letters", "row"] f_count d_count)
    (o_darr : DefOk K mg "describe_arrangement" s_darr ["part", "item", "word", "arguments"] f_darr d_darr)
    (o_pars : DefOk K mg "parallels_of" s_pars ["order", "name"] f_pars d_pars)
    (o_cntA : DefOk K mg "count_among" s_cntA ["order", "names"] f_cntA d_cntA)
    (o_dcyc : DefOk K mg "describe_cycle" s_cycle ["part", "item", "word", "arguments"] f_dcyc d_dcyc)
    (o_dmat : DefOk K mg "describe_matching" s_matching ["part", "item", "word", "arguments"] f_dmat d_dmat)
    (o_dperm : DefOk K mg "describe_permutation" s_perm ["part", "item", "word", "arguments"] f_dperm d_dperm)
    (o_dtree : DefOk K mg "describe_tree" s_tree ["part", "item", "word", "arguments"] f_dtree d_dtree)
    (o_deck : DefOk K mg "_law_deck" sDeck ["_law_script"] f_deck d_deck)
    (o_draw : DefOk K mg "_law_draw" sDraw ["_law_deck_here", "_law_bound"] f_draw d_draw)
    (o_pick : DefOk K mg "_law_pick" sPick ["_law_deck_here", "_law_items"] f_pick d_pick)
    (o_subsets : DefOk K mg "_law_subsets" s_subsets ["_law_n", "_law_k"] f_subsets d_subsets)
    (o_words : DefOk K mg "_law_words" s_words ["_law_counts_here"] f_words d_words)
    (o_merged : DefOk K mg "_law_merged" s_merged ["_law_one", "_law_other"] f_merged d_merged)
    (o_arrs : DefOk K mg "_law_arrangements" s_arrangements ["_law_order_here"] f_arrs d_arrs)
    (o_orders : DefOk K mg "_law_orders" s_orders ["_law_items"] f_orders d_orders)
    (o_cycles : DefOk K mg "_law_cycles" s_cycles ["_law_n"] f_cycles d_cycles)
    (o_mats : DefOk K mg "_law_matchings" s_matchings ["_law_m"] f_mats d_mats)
    (o_perms : DefOk K mg "_law_permutations" s_permutations ["_law_n", "_law_moved"] f_perms d_perms)
    (o_rooted : DefOk K mg "_law_is_rooted" s_is_rooted ["_law_row"] f_rooted d_rooted)
    (o_trees : DefOk K mg "_law_trees" s_trees ["_law_n"] f_trees d_trees)
    (o_objs : DefOk K mg "_law_leaf_objects" s_leaf_objects ["_law_leaf_here"] f_objs d_objs)
    (o_lnames : DefOk K mg "_law_names" KB.s_names ["_law_order_here"] f_lnames d_lnames)
    (o_steps : DefOk K mg "_law_steps" s_steps ["_law_order_here", "_law_row", "_law_name"] f_steps d_steps)
    (o_witem : DefOk K mg "_law_word_item" s_witem ["_law_counts_here", "_law_letters", "_law_asked"] f_witem d_witem)
    (o_aitem : DefOk K mg "_law_arrangement_item" s_aitem ["_law_order_here", "_law_row", "_law_asked"] f_aitem d_aitem)
    (o_item : DefOk K mg "_law_item" s_item ["_law_part", "_law_own", "_law_asked"] f_item d_item)
    (o_rowqs : DefOk K mg "_law_row_queries" s_row_queries ["_law_part"] f_rowqs d_rowqs)
    (o_partqs : DefOk K mg "_law_part_queries" s_partq ["_law_part"] f_partqs d_partqs)
    (o_order : DefOk K mg "_law_order" s_order ["_law_deck_here", "_law_names_here"] f_order d_order)
    (o_counts : DefOk K mg "_law_counts" s_counts ["_law_deck_here", "_law_most"] f_counts d_counts)
    (o_leaf : DefOk K mg "_law_leaf" s_leaf ["_law_deck_here", "_law_sort"] f_leaf d_leaf)
    (o_right : DefOk K mg "_law_right" s_right ["_law_leaf_here", "_law_thing", "_law_asked"] f_right d_right)
    (o_law : DefOk K mg "law" s_law ["_law_script"] f_law d_law)
    (gC : PySem.W.nsIn K mainGlobals "DESCRIPTIONS" = some (some (.ref dC)))
    (aC : K.lookup dC = some ⟨.type "dict", none, .dict esC mC, #[]⟩)
    (kC : PySem.W.KeysLit w.params esC.toList)
    (wC : (dC == sysModules) = false)
    (r1 : PySem.W.nsIn K dC "subset" = some (some (.ref f_dsub)))
    (r2 : PySem.W.nsIn K dC "word" = some (some (.ref f_dword)))
    (r3 : PySem.W.nsIn K dC "arrangement" = some (some (.ref f_darr)))
    (r4 : PySem.W.nsIn K dC "cycle" = some (some (.ref f_dcyc)))
    (r5 : PySem.W.nsIn K dC "matching" = some (some (.ref f_dmat)))
    (r6 : PySem.W.nsIn K dC "tree" = some (some (.ref f_dtree)))
    (r7 : PySem.W.nsIn K dC "permutation" = some (some (.ref f_dperm)))
    (nd : [f_dsub, f_dword, f_darr, f_dcyc, f_dmat, f_dtree, f_dperm].Nodup)
    (hkb : ∀ (s : Shared) (u v x : Value), BindsTo s d_answer ⟨[], [("query", u), ("space", v), ("obj", x)]⟩ [("space", v), ("obj", x), ("query", u)])
    (hbind : ∀ (s : Shared) (u : Value), BindsTo s d_law ⟨[u], []⟩ [("_law_script", u)]) :
    ∃ fd : FuncData, (∀ (s : Shared) (u : Value), BindsTo s fd ⟨[u], []⟩ [("_law_script", u)]) ∧ ∀ base : Heap, K.In base → base.Ns mainGlobals mg → FnG l.prog w K mg base 18 fa fd ["_law_script"] (spLaw K) := by
  have e := hfa.symm.trans o_law.g
  cases e
  have T : Nm mg := ⟨PySem.W.mg_none_of X G n0, PySem.W.mg_none_of X G n1, PySem.W.mg_none_of X G n2, PySem.W.mg_none_of X G n3, PySem.W.mg_none_of X G n4, PySem.W.mg_none_of X G n5, PySem.W.mg_none_of X G n6, PySem.W.mg_none_of X G n7, PySem.W.mg_none_of X G n8, PySem.W.mg_none_of X G n9, PySem.W.mg_none_of X G n10, PySem.W.mg_none_of X G n11, PySem.W.mg_none_of X G n12, PySem.W.mg_none_of X G n13, PySem.W.mg_none_of X G n14⟩
  have Ts : mg "sorted" = none := PySem.W.mg_none_of X G nso
  have Tr : mg "reversed" = none := PySem.W.mg_none_of X G nre
  have kb : KBinds K d_answer ["space", "obj", "query"] ["query", "space", "obj"] swK swK := kb_sw hkb
  refine ⟨d_law, hbind, fun base _ _ => ?_⟩
  have H1 : FnOk l.prog w K mg base CX0 15 f_dsub d_dsub ["part", "item", "word", "arguments"] spDSub := (ok_dsub o_dsub.F T).mono (by decide)
  have H2 : FnOk l.prog w K mg base CX0 15 f_dword d_dword ["part", "item", "word", "arguments"] spDWord := (ok_dword o_dword.F T o_places o_count).mono (by decide)
  have H3 : FnOk l.prog w K mg base CX0 15 f_darr d_darr ["part", "item", "word", "arguments"] spDArr := (ok_darr o_darr.F T Tr o_names o_pars o_cntA).mono (by decide)
  have H4 : FnOk l.prog w K mg base CX0 15 f_dcyc d_dcyc ["part", "item", "word", "arguments"] (spIxOf "successor") := (ok_cycle o_dcyc.F).mono (by decide)
  have H5 : FnOk l.prog w K mg base CX0 15 f_dmat d_dmat ["part", "item", "word", "arguments"] spIx := (ok_matching o_dmat.F).mono (by decide)
  have H6 : FnOk l.prog w K mg base CX0 15 f_dtree d_dtree ["part", "item", "word", "arguments"] spIx := (ok_tree o_dtree.F).mono (by decide)
  have H7 : FnOk l.prog w K mg base CX0 15 f_dperm d_dperm ["part", "item", "word", "arguments"] (spIxOf "image") := (ok_perm o_dperm.F).mono (by decide)
  have nd' : ((([(f_dsub, spDSub), (f_dword, spDWord), (f_darr, spDArr), (f_dcyc, (spIxOf "successor")), (f_dmat, spIx), (f_dtree, spIx), (f_dperm, (spIxOf "image"))] : List (Addr × Sp))).map (·.1)).Nodup := nd
  have Z : Descs l.prog w K mg base dC (look [(f_dsub, spDSub), (f_dword, spDWord), (f_darr, spDArr), (f_dcyc, (spIxOf "successor")), (f_dmat, spIx), (f_dtree, spIx), (f_dperm, (spIxOf "image"))]) := {
    g := PySem.W.mg_of X G gC
    k := ⟨_, _, aC, kC, wC⟩
    held := fun f sp hs => by
      have hm := look_mem hs
      simp only [List.mem_cons, List.not_mem_nil, or_false] at hm
      rcases hm with e | e | e | e | e | e | e
      · cases e
        exact ⟨_, _, H1, o_dsub.F.kp, o_dsub.b⟩
      · cases e
        exact ⟨_, _, H2, o_dword.F.kp, o_dword.b⟩
      · cases e
        exact ⟨_, _, H3, o_darr.F.kp, o_darr.b⟩
      · cases e
        exact ⟨_, _, H4, o_dcyc.F.kp, o_dcyc.b⟩
      · cases e
        exact ⟨_, _, H5, o_dmat.F.kp, o_dmat.b⟩
      · cases e
        exact ⟨_, _, H6, o_dtree.F.kp, o_dtree.b⟩
      · cases e
        exact ⟨_, _, H7, o_dperm.F.kp, o_dperm.b⟩
    at_ := fun l => by
      cases l with
      | sub n k => exact ⟨f_dsub, r1, look_at (sp := spDSub) nd' List.mem_cons_self⟩
      | word cs => exact ⟨f_dword, r2, look_at (sp := spDWord) nd' (List.mem_cons_of_mem _ List.mem_cons_self)⟩
      | arr o => exact ⟨f_darr, r3, look_at (sp := spDArr) nd' (List.mem_cons_of_mem _ (List.mem_cons_of_mem _ List.mem_cons_self))⟩
      | cyc n => exact ⟨f_dcyc, r4, look_at (sp := (spIxOf "successor")) nd' (List.mem_cons_of_mem _ (List.mem_cons_of_mem _ (List.mem_cons_of_mem _ List.mem_cons_self)))⟩
      | mat n => exact ⟨f_dmat, r5, look_at (sp := spIx) nd' (List.mem_cons_of_mem _ (List.mem_cons_of_mem _ (List.mem_cons_of_mem _ (List.mem_cons_of_mem _ List.mem_cons_self))))⟩
      | tree n => exact ⟨f_dtree, r6, look_at (sp := spIx) nd' (List.mem_cons_of_mem _ (List.mem_cons_of_mem _ (List.mem_cons_of_mem _ (List.mem_cons_of_mem _ (List.mem_cons_of_mem _ List.mem_cons_self)))))⟩
      | perm n mv => exact ⟨f_dperm, r7, look_at (sp := (spIxOf "image")) nd' (List.mem_cons_of_mem _ (List.mem_cons_of_mem _ (List.mem_cons_of_mem _ (List.mem_cons_of_mem _ (List.mem_cons_of_mem _ (List.mem_cons_of_mem _ List.mem_cons_self))))))⟩ }
  have GA : FnOk l.prog w K mg base CX0 16 f_answer d_answer ["space", "obj", "query"] spAns := ok_answer o_answer.F Z o_stepin
  have GI : FnOk l.prog w K mg base CX0 10 f_item d_item ["_law_part", "_law_own", "_law_asked"] spItem := okl_item o_item.F T o_witem o_aitem o_steps o_lnames
  have GL : FnOk l.prog w K mg base CX0 9 f_leaf d_leaf ["_law_deck_here", "_law_sort"] spLeaf7 := okl_leaf o_leaf.F T o_draw o_pick o_counts o_order
  have GQ : FnOk l.prog w K mg base CX0 9 f_partqs d_partqs ["_law_part"] spPartQ := okl_partq o_partqs.F T Ts o_rowqs o_lnames
  have GO : FnOk l.prog w K mg base CX0 10 f_objs d_objs ["_law_leaf_here"] spLeafObjs := okl_leafobjs o_objs.F T o_subsets o_words o_arrs o_cycles o_mats o_perms o_trees o_orders o_rooted o_merged
  have GR : FnG l.prog w K mg base 17 f_right d_right ["_law_leaf_here", "_law_thing", "_law_asked"] spRight := okl_right o_right.F T eS o_item GI o_answer GA kb
  exact okl_law o_law.F T o_deck o_leaf GL o_partqs GQ o_objs GO o_right GR
theorem law_sp (K : PySem.W.Frag) (H : Hp) (a : Addr) (ns : List Int) (hl : ns.length ≤ 63) (_ : Only H) (hS : SqL K H a (ns.map V.int)) : spLaw K [.ref a] H (fun v _ => v = .bl true) fun _ _ _ => False := ⟨a, ns, rfl, hS, hl, fun _ => rfl⟩
end KB
open PySem PySem.W PyProof.Rows
set_option maxRecDepth 100000 in
set_option maxHeartbeats 0 in
theorem PySem.Challenge.cw_undrawn_k11_answers_of_leaves_holds : PySem.Challenge.rw_undrawn_k11_answers_of_leaves.Holds := by
  w_on; o_law; k_head; (case hw => w_witness2)
  k_fill
  refine L2.walk_G (l := PySem.Challenge.rw_undrawn_k11_answers_of_leaves) (n := 63) (k := 18) (x := "_law_script") (sp := KB.spLaw) rfl (by decide) rfl ⟨rfl, by decide, by decide⟩ (fun w h Y => PySem.W.kIn_of Y) ?F KB.law_sp
  case F =>
    intro w mg fa h KX G hmg
    refine' KB.all_mk KX G hmg ?n0 ?n1 ?n2 ?n3 ?n4 ?n5 ?n6 ?n7 ?n8 ?n9 ?n10 ?n11 ?n12 ?n13 ?n14 ?nso ?nre ?eS ?o_names ?o_answer ?o_stepin ?o_dsub ?o_dword ?o_places ?o_count ?o_darr ?o_pars ?o_cntA ?o_dcyc ?o_dmat ?o_dperm ?o_dtree ?o_deck ?o_draw ?o_pick ?o_subsets ?o_words ?o_merged ?o_arrs ?o_orders ?o_cycles ?o_mats ?o_perms ?o_rooted ?o_trees ?o_objs ?o_lnames ?o_steps ?o_witem ?o_aitem ?o_item ?o_rowqs ?o_partqs ?o_order ?o_counts ?o_leaf ?o_right ?o_law ?gC ?aC ?kC ?wC ?r1 ?r2 ?r3 ?r4 ?r5 ?r6 ?r7 ?nd ?hkb ?hbind
    (case n0 => k_is)
    (case n1 => k_is)
    (case n2 => k_is)
    (case n3 => k_is)
    (case n4 => k_is)
    (case n5 => k_is)
    (case n6 => k_is)
    (case n7 => k_is)
    (case n8 => k_is)
    (case n9 => k_is)
    (case n10 => k_is)
    (case n11 => k_is)
    (case n12 => k_is)
    (case n13 => k_is)
    (case n14 => k_is)
    (case nso => k_is)
    (case nre => k_is)
    (case eS => k_is)
    (case o_names => refine' KB.def_mk KX G ?a ?l ?c ?k (fun _ _ _ _ _ _ us hl => match us, hl with | [_], _ => rfl); (case a => k_is); (case l => k_is); (case c => k_is); (case k => k_is))
    (case o_answer => refine' KB.def_mk KX G ?a ?l ?c ?k (fun _ _ _ _ _ _ us hl => match us, hl with | [_, _, _], _ => rfl); (case a => k_is); (case l => k_is); (case c => k_is); (case k => k_is))
    (case o_stepin => refine' KB.def_mk KX G ?a ?l ?c ?k (fun _ _ _ _ _ _ us hl => match us, hl with | [_, _, _], _ => rfl); (case a => k_is); (case l => k_is); (case c => k_is); (case k => k_is))
    (case o_dsub => refine' KB.def_mk KX G ?a ?l ?c ?k (fun _ _ _ _ _ _ us hl => match us, hl with | [_, _, _, _], _ => rfl); (case a => k_is); (case l => k_is); (case c => k_is); (case k => k_is))
    (case o_dword => refine' KB.def_mk KX G ?a ?l ?c ?k (fun _ _ _ _ _ _ us hl => match us, hl with | [_, _, _, _], _ => rfl); (case a => k_is); (case l => k_is); (case c => k_is); (case k => k_is))
    (case o_places => refine' KB.def_mk KX G ?a ?l ?c ?k (fun _ _ _ _ _ _ us hl => match us, hl with | [_, _], _ => rfl); (case a => k_is); (case l => k_is); (case c => k_is); (case k => k_is))
    (case o_count => refine' KB.def_mk KX G ?a ?l ?c ?k (fun _ _ _ _ _ _ us hl => match us, hl with | [_, _], _ => rfl); (case a => k_is); (case l => k_is); (case c => k_is); (case k => k_is))
    (case o_darr => refine' KB.def_mk KX G ?a ?l ?c ?k (fun _ _ _ _ _ _ us hl => match us, hl with | [_, _, _, _], _ => rfl); (case a => k_is); (case l => k_is); (case c => k_is); (case k => k_is))
    (case o_pars => refine' KB.def_mk KX G ?a ?l ?c ?k (fun _ _ _ _ _ _ us hl => match us, hl with | [_, _], _ => rfl); (case a => k_is); (case l => k_is); (case c => k_is); (case k => k_is))
    (case o_cntA => refine' KB.def_mk KX G ?a ?l ?c ?k (fun _ _ _ _ _ _ us hl => match us, hl with | [_, _], _ => rfl); (case a => k_is); (case l => k_is); (case c => k_is); (case k => k_is))
    (case o_dcyc => refine' KB.def_mk KX G ?a ?l ?c ?k (fun _ _ _ _ _ _ us hl => match us, hl with | [_, _, _, _], _ => rfl); (case a => k_is); (case l => k_is); (case c => k_is); (case k => k_is))
    (case o_dmat => refine' KB.def_mk KX G ?a ?l ?c ?k (fun _ _ _ _ _ _ us hl => match us, hl with | [_, _, _, _], _ => rfl); (case a => k_is); (case l => k_is); (case c => k_is); (case k => k_is))
    (case o_dperm => refine' KB.def_mk KX G ?a ?l ?c ?k (fun _ _ _ _ _ _ us hl => match us, hl with | [_, _, _, _], _ => rfl); (case a => k_is); (case l => k_is); (case c => k_is); (case k => k_is))
    (case o_dtree => refine' KB.def_mk KX G ?a ?l ?c ?k (fun _ _ _ _ _ _ us hl => match us, hl with | [_, _, _, _], _ => rfl); (case a => k_is); (case l => k_is); (case c => k_is); (case k => k_is))
    (case o_deck => refine' KB.def_mk KX G ?a ?l ?c ?k (fun _ _ _ _ _ _ us hl => match us, hl with | [_], _ => rfl); (case a => k_is); (case l => k_is); (case c => k_is); (case k => k_is))
    (case o_draw => refine' KB.def_mk KX G ?a ?l ?c ?k (fun _ _ _ _ _ _ us hl => match us, hl with | [_, _], _ => rfl); (case a => k_is); (case l => k_is); (case c => k_is); (case k => k_is))
    (case o_pick => refine' KB.def_mk KX G ?a ?l ?c ?k (fun _ _ _ _ _ _ us hl => match us, hl with | [_, _], _ => rfl); (case a => k_is); (case l => k_is); (case c => k_is); (case k => k_is))
    (case o_subsets => refine' KB.def_mk KX G ?a ?l ?c ?k (fun _ _ _ _ _ _ us hl => match us, hl with | [_, _], _ => rfl); (case a => k_is); (case l => k_is); (case c => k_is); (case k => k_is))
    (case o_words => refine' KB.def_mk KX G ?a ?l ?c ?k (fun _ _ _ _ _ _ us hl => match us, hl with | [_], _ => rfl); (case a => k_is); (case l => k_is); (case c => k_is); (case k => k_is))
    (case o_merged => refine' KB.def_mk KX G ?a ?l ?c ?k (fun _ _ _ _ _ _ us hl => match us, hl with | [_, _], _ => rfl); (case a => k_is); (case l => k_is); (case c => k_is); (case k => k_is))
    (case o_arrs => refine' KB.def_mk KX G ?a ?l ?c ?k (fun _ _ _ _ _ _ us hl => match us, hl with | [_], _ => rfl); (case a => k_is); (case l => k_is); (case c => k_is); (case k => k_is))
    (case o_orders => refine' KB.def_mk KX G ?a ?l ?c ?k (fun _ _ _ _ _ _ us hl => match us, hl with | [_], _ => rfl); (case a => k_is); (case l => k_is); (case c => k_is); (case k => k_is))
    (case o_cycles => refine' KB.def_mk KX G ?a ?l ?c ?k (fun _ _ _ _ _ _ us hl => match us, hl with | [_], _ => rfl); (case a => k_is); (case l => k_is); (case c => k_is); (case k => k_is))
    (case o_mats => refine' KB.def_mk KX G ?a ?l ?c ?k (fun _ _ _ _ _ _ us hl => match us, hl with | [_], _ => rfl); (case a => k_is); (case l => k_is); (case c => k_is); (case k => k_is))
    (case o_perms => refine' KB.def_mk KX G ?a ?l ?c ?k (fun _ _ _ _ _ _ us hl => match us, hl with | [_, _], _ => rfl); (case a => k_is); (case l => k_is); (case c => k_is); (case k => k_is))
    (case o_rooted => refine' KB.def_mk KX G ?a ?l ?c ?k (fun _ _ _ _ _ _ us hl => match us, hl with | [_], _ => rfl); (case a => k_is); (case l => k_is); (case c => k_is); (case k => k_is))
    (case o_trees => refine' KB.def_mk KX G ?a ?l ?c ?k (fun _ _ _ _ _ _ us hl => match us, hl with | [_], _ => rfl); (case a => k_is); (case l => k_is); (case c => k_is); (case k => k_is))
    (case o_objs => refine' KB.def_mk KX G ?a ?l ?c ?k (fun _ _ _ _ _ _ us hl => match us, hl with | [_], _ => rfl); (case a => k_is); (case l => k_is); (case c => k_is); (case k => k_is))
    (case o_lnames => refine' KB.def_mk KX G ?a ?l ?c ?k (fun _ _ _ _ _ _ us hl => match us, hl with | [_], _ => rfl); (case a => k_is); (case l => k_is); (case c => k_is); (case k => k_is))
    (case o_steps => refine' KB.def_mk KX G ?a ?l ?c ?k (fun _ _ _ _ _ _ us hl => match us, hl with | [_, _, _], _ => rfl); (case a => k_is); (case l => k_is); (case c => k_is); (case k => k_is))
    (case o_witem => refine' KB.def_mk KX G ?a ?l ?c ?k (fun _ _ _ _ _ _ us hl => match us, hl with | [_, _, _], _ => rfl); (case a => k_is); (case l => k_is); (case c => k_is); (case k => k_is))
    (case o_aitem => refine' KB.def_mk KX G ?a ?l ?c ?k (fun _ _ _ _ _ _ us hl => match us, hl with | [_, _, _], _ => rfl); (case a => k_is); (case l => k_is); (case c => k_is); (case k => k_is))
    (case o_item => refine' KB.def_mk KX G ?a ?l ?c ?k (fun _ _ _ _ _ _ us hl => match us, hl with | [_, _, _], _ => rfl); (case a => k_is); (case l => k_is); (case c => k_is); (case k => k_is))
    (case o_rowqs => refine' KB.def_mk KX G ?a ?l ?c ?k (fun _ _ _ _ _ _ us hl => match us, hl with | [_], _ => rfl); (case a => k_is); (case l => k_is); (case c => k_is); (case k => k_is))
    (case o_partqs => refine' KB.def_mk KX G ?a ?l ?c ?k (fun _ _ _ _ _ _ us hl => match us, hl with | [_], _ => rfl); (case a => k_is); (case l => k_is); (case c => k_is); (case k => k_is))
    (case o_order => refine' KB.def_mk KX G ?a ?l ?c ?k (fun _ _ _ _ _ _ us hl => match us, hl with | [_, _], _ => rfl); (case a => k_is); (case l => k_is); (case c => k_is); (case k => k_is))
    (case o_counts => refine' KB.def_mk KX G ?a ?l ?c ?k (fun _ _ _ _ _ _ us hl => match us, hl with | [_, _], _ => rfl); (case a => k_is); (case l => k_is); (case c => k_is); (case k => k_is))
    (case o_leaf => refine' KB.def_mk KX G ?a ?l ?c ?k (fun _ _ _ _ _ _ us hl => match us, hl with | [_, _], _ => rfl); (case a => k_is); (case l => k_is); (case c => k_is); (case k => k_is))
    (case o_right => refine' KB.def_mk KX G ?a ?l ?c ?k (fun _ _ _ _ _ _ us hl => match us, hl with | [_, _, _], _ => rfl); (case a => k_is); (case l => k_is); (case c => k_is); (case k => k_is))
    (case o_law => refine' KB.def_mk KX G ?a ?l ?c ?k (fun _ _ _ _ _ _ us hl => match us, hl with | [_], _ => rfl); (case a => k_is); (case l => k_is); (case c => k_is); (case k => k_is))
    (case gC => k_is)
    (case aC => k_is)
    (case kC => k_keys)
    (case wC => decide)
    (case r1 => k_is)
    (case r2 => k_is)
    (case r3 => k_is)
    (case r4 => k_is)
    (case r5 => k_is)
    (case r6 => k_is)
    (case r7 => k_is)
    (case nd => decide)
    (case hkb => exact fun s u v x => .of_eq rfl)
    (case hbind => exact fun s u => .of_eq rfl)
