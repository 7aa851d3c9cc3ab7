import PyProof.Rows.All
import Wide.All
import OpenK.AllK
import Wide.FinOn
import HandS.ForMost
import HandS.Style
import HandS.Codes
import HandS.Comp
import HandS.Iter
import HandS.Walk
import HandS.Text
import HandS.Zip
import HandS.IsInst
import HandS.TupAny
import KE.DataCmp
import PyProof.EqKinds
import HandS.Strs
import HandS.More
import HandS.CallLocal
import HandS.Wide
import HandS.WideBits
import KE.KMathGC
import HandS.Gcd
import HandS.Defaults
import HandS.Conv
import KE.DatumOrd
import HandS.TupLen
import PyProof.Rows.Digits
import HandS.TryMany
import HandS.ExcOwn
import HandS.WordsExc
import PyProof.ReprBulk
import PyProof.Rows.IntBool
import PyProof.Rows.EqBoolInt
import KE.KIntText
import PySem.Challenge.RW_undrawn_k02_leaves_of_any_value
set_option Elab.async false
set_option linter.all false
set_option maxRecDepth 100000
set_option maxHeartbeats 4000000
namespace K2
open PySem PySem.Spec PyProof.Rows L2
/-! ### the text by places -/
def top (i : Nat) : Stmt := PySem.Challenge.pw_undrawn_k02_leaves_of_any_value.main.body.getD i (.Pass ⟨0, 0, 0, 0⟩)
/-! ### any value that is made of None, bools, ints, texts, tuples, lists, empty dicts -/
mutual
inductive Dat (H : Hp) : V → PyData → Prop
  | non : Dat H .non .none
  | bl (b : Bool) : Dat H (.bl b) (.bool b)
  | int (i : Int) : Dat H (.int i) (.int i)
  | str (x : Str) : x.length ≤ 1000 → Dat H (.str x) (.str x)
  | lst {a : Addr} {xs : List V} {ds : List PyData} : H a = some (.lst xs) → DatAll H xs ds → Dat H (.ref a) (.list ds)
  | tup {a : Addr} {xs : List V} {ds : List PyData} : H a = some (.tup xs) → DatAll H xs ds → Dat H (.ref a) (.tuple ds)
  | d0 {a : Addr} : H a = some (.dK []) → Dat H (.ref a) (.dict [])
inductive DatAll (H : Hp) : List V → List PyData → Prop
  | nil : DatAll H [] []
  | cons {v : V} {vs : List V} {d : PyData} {ds : List PyData} : Dat H v d → DatAll H vs ds → DatAll H (v :: vs) (d :: ds)
end
mutual
theorem Dat.same {H H' : Hp} (S : Same H H') : ∀ {v : V} {d : PyData}, Dat H v d → Dat H' v d
  | _, _, .non => .non
  | _, _, .bl b => .bl b
  | _, _, .int i => .int i
  | _, _, .str x h => .str x h
  | _, _, .lst h t => .lst (S _ _ h) (DatAll.same S t)
  | _, _, .tup h t => .tup (S _ _ h) (DatAll.same S t)
  | _, _, .d0 h => .d0 (S _ _ h)
theorem DatAll.same {H H' : Hp} (S : Same H H') : ∀ {vs : List V} {ds : List PyData}, DatAll H vs ds → DatAll H' vs ds
  | _, _, .nil => .nil
  | _, _, .cons h t => .cons (Dat.same S h) (DatAll.same S t)
end
theorem DatAll.len {H : Hp} : ∀ {vs : List V} {ds : List PyData}, DatAll H vs ds → vs.length = ds.length
  | _, _, .nil => rfl
  | _, _, .cons _ t => congrArg (· + 1) (DatAll.len t)
theorem DatAll.get {H : Hp} : ∀ {xs : List V} {ds : List PyData} {j : Nat} {x : V}, DatAll H xs ds → xs[j]? = some x → ∃ d, ds[j]? = some d ∧ Dat H x d
  | _, _, _, _, .nil, e => by simp at e
  | _, _, 0, _, .cons t _, e => by
    simp at e
    subst e
    exact ⟨_, rfl, t⟩
  | _, _, j + 1, x, .cons _ ts, e => by
    obtain ⟨d, h1, h2⟩ := DatAll.get (j := j) (x := x) ts (by simpa using e)
    exact ⟨d, by simpa using h1, h2⟩
theorem DatAll.at {H : Hp} : ∀ {xs : List V} {ds : List PyData} {j : Nat} {d : PyData}, DatAll H xs ds → ds[j]? = some d → ∃ x, xs[j]? = some x ∧ Dat H x d
  | _, _, _, _, .nil, e => by simp at e
  | _, _, 0, _, .cons t _, e => by
    simp at e
    subst e
    exact ⟨_, rfl, t⟩
  | _, _, j + 1, x, .cons _ ts, e => by
    obtain ⟨d, h1, h2⟩ := DatAll.at (j := j) (d := x) ts (by simpa using e)
    exact ⟨d, by simpa using h1, h2⟩
/-- the type's name -/
def tyD : PyData → String
  | .none => "NoneType"
  | .bool _ => "bool"
  | .int _ => "int"
  | .str _ => "str"
  | .list _ => "list"
  | .tuple _ => "tuple"
  | .dict _ => "dict"
theorem Dat.ty {K : PySem.W.Frag} {H : Hp} {v : V} {d : PyData} (h : Dat H v d) : TyX K H v (.type (tyD d)) := by
  cases h with
  | non => exact .base .non
  | bl b => exact .base (.bl b)
  | int i => exact .base (.int i)
  | str x _ => exact .base (.str x)
  | lst h _ => exact .base (.lst h)
  | tup h _ => exact .base (.tup h)
  | d0 h => exact .base (.dK h)
/-! ### what the small predicates say of such values -/
def isInt : PyData → Bool
  | .int _ => true
  | _ => false
def isBool : PyData → Bool
  | .bool _ => true
  | _ => false
def isStr : PyData → Bool
  | .str _ => true
  | _ => false
def isTup : PyData → Bool
  | .tuple _ => true
  | _ => false
/-- an int from lo to hi -/
def btw (lo hi : Int) : PyData → Bool
  | .int i => decide (lo ≤ i) && decide (i ≤ hi)
  | _ => false
theorem kit_int (K : PySem.W.Frag) (d : PyData) : PySem.W.kitOne K (.type (tyD d)) (.type "int") = some (isInt d || isBool d) := by
  cases d with
  | none => exact kit_ty (a := "NoneType") (b := "int") (r := false) (by decide +kernel)
  | bool b => exact kit_ty (a := "bool") (b := "int") (r := true) (by decide +kernel)
  | int i => exact kit_ty (a := "int") (b := "int") (r := true) (by decide +kernel)
  | str x => exact kit_ty (a := "str") (b := "int") (r := false) (by decide +kernel)
  | list l => exact kit_ty (a := "list") (b := "int") (r := false) (by decide +kernel)
  | tuple l => exact kit_ty (a := "tuple") (b := "int") (r := false) (by decide +kernel)
  | dict l => exact kit_ty (a := "dict") (b := "int") (r := false) (by decide +kernel)
theorem kit_bool (K : PySem.W.Frag) (d : PyData) : PySem.W.kitOne K (.type (tyD d)) (.type "bool") = some (isBool d) := by
  cases d with
  | none => exact kit_ty (a := "NoneType") (b := "bool") (r := false) (by decide +kernel)
  | bool b => exact kit_ty (a := "bool") (b := "bool") (r := true) (by decide +kernel)
  | int i => exact kit_ty (a := "int") (b := "bool") (r := false) (by decide +kernel)
  | str x => exact kit_ty (a := "str") (b := "bool") (r := false) (by decide +kernel)
  | list l => exact kit_ty (a := "list") (b := "bool") (r := false) (by decide +kernel)
  | tuple l => exact kit_ty (a := "tuple") (b := "bool") (r := false) (by decide +kernel)
  | dict l => exact kit_ty (a := "dict") (b := "bool") (r := false) (by decide +kernel)
theorem kit_str (K : PySem.W.Frag) (d : PyData) : PySem.W.kitOne K (.type (tyD d)) (.type "str") = some (isStr d) := by
  cases d with
  | none => exact kit_ty (a := "NoneType") (b := "str") (r := false) (by decide +kernel)
  | bool b => exact kit_ty (a := "bool") (b := "str") (r := false) (by decide +kernel)
  | int i => exact kit_ty (a := "int") (b := "str") (r := false) (by decide +kernel)
  | str x => exact kit_ty (a := "str") (b := "str") (r := true) (by decide +kernel)
  | list l => exact kit_ty (a := "list") (b := "str") (r := false) (by decide +kernel)
  | tuple l => exact kit_ty (a := "tuple") (b := "str") (r := false) (by decide +kernel)
  | dict l => exact kit_ty (a := "dict") (b := "str") (r := false) (by decide +kernel)
theorem kit_tuple (K : PySem.W.Frag) (d : PyData) : PySem.W.kitOne K (.type (tyD d)) (.type "tuple") = some (isTup d) := by
  cases d with
  | none => exact kit_ty (a := "NoneType") (b := "tuple") (r := false) (by decide +kernel)
  | bool b => exact kit_ty (a := "bool") (b := "tuple") (r := false) (by decide +kernel)
  | int i => exact kit_ty (a := "int") (b := "tuple") (r := false) (by decide +kernel)
  | str x => exact kit_ty (a := "str") (b := "tuple") (r := false) (by decide +kernel)
  | list l => exact kit_ty (a := "list") (b := "tuple") (r := false) (by decide +kernel)
  | tuple l => exact kit_ty (a := "tuple") (b := "tuple") (r := true) (by decide +kernel)
  | dict l => exact kit_ty (a := "dict") (b := "tuple") (r := false) (by decide +kernel)
/-! ### promises -/
/-- a predicate of one value; no tracked object changes -/
def spP (f : PyData → Bool) : Sp := fun vs H Q _ => ∃ (v : V) (d : PyData), vs = [v] ∧ Dat H v d ∧ ∀ H', Same H H' → Q (.bl (f d)) H'
def spBtw : Sp := fun vs H Q _ => ∃ (v : V) (d : PyData) (lo hi : Int), vs = [v, .int lo, .int hi] ∧ Dat H v d ∧ ∀ H', Same H H' → Q (.bl (btw lo hi d)) H'
/-- a tuple of lo to hi items -/
def tupOf (lo hi : Int) : PyData → Bool
  | .tuple ds => decide (lo ≤ (ds.length : Int)) && decide ((ds.length : Int) ≤ hi)
  | _ => false
def spTup : Sp := fun vs H Q _ => ∃ (v : V) (d : PyData) (lo hi : Int), vs = [v, .int lo, .int hi] ∧ Dat H v d ∧ ∀ H', Same H H' → Q (.bl (tupOf lo hi d)) H'
abbrev sIsInt : Stmt := top 20
abbrev sBtw : Stmt := top 21
abbrev sName : Stmt := top 22
abbrev sTup : Stmt := top 23
abbrev sAsc : Stmt := top 24
/-- what the module says of built-in names -/
structure Nm (mg : Str → Option Value) : Prop where
  isinstance : mg "isinstance" = none
  int : mg "int" = none
  bool : mg "bool" = none
  str : mg "str" = none
  tuple : mg "tuple" = none
  len : mg "len" = none
  all : mg "all" = none
  zip : mg "zip" = none
  sum : mg "sum" = none
  set : mg "set" = none
  range : mg "range" = none
/-- a def of the module -/
structure DefOk (K : PySem.W.Frag) (mg : Str → Option Value) (x : Str) (st : Stmt) (ps : List Str) (f : Addr) (fd : FuncData) : Prop where
  F : Fun K x x st f fd
  b : L2.Binds K fd ps []
  g : mg x = some (.ref f)
section
variable {P : Program} {w : World} {K : PySem.W.Frag} {mg : Str → Option Value} {base : Heap}
theorem scIsInt : FnScope ["value"] ["value"] (defScope sIsInt) := ⟨rfl, rfl, rfl, by decide +kernel, rfl, by decide +kernel, by decide +kernel⟩
theorem scBtw : FnScope ["value", "low", "high"] ["value", "low", "high"] (defScope sBtw) := ⟨rfl, rfl, rfl, by decide +kernel, rfl, by decide +kernel, by decide +kernel⟩
theorem scTup : FnScope ["value", "least", "most"] ["value", "least", "most"] (defScope sTup) := ⟨rfl, rfl, rfl, by decide +kernel, rfl, by decide +kernel, by decide +kernel⟩
theorem ok_isint {f : Addr} {fd : FuncData} (F : Fun K "is_integer" "is_integer" sIsInt f fd) (T : Nm mg) : FnOk P w K mg base CX0 1 f fd ["value"] (spP isInt) := by
  refine F.ok scIsInt (fun vs H Q E h => ?_) (fun cdv A outer s H vs Q E hr h => ?_)
  · obtain ⟨v, d, rfl, _⟩ := h
    rfl
  · obtain ⟨v, d, rfl, hd, q⟩ := h
    refine ⟨_, pss_one (ps_ret (pe_and (pe_callB call_isi (by rfl) T.isinstance boot_isinstance (pa_cons (pv 0) (pa_cons (pe_bltn (v := .ty "int") rfl T.int (by decide +kernel) rfl) pa_nil)))
      (pe_one (pe_not (pe_callB call_isi (by rfl) T.isinstance boot_isinstance (pa_cons (pv 0) (pa_cons (pe_bltn (v := .ty "bool") rfl T.bool (by decide +kernel) rfl) pa_nil))))))), ?_⟩
    refine ⟨_, rfl, v, .ty "int", _, _, _, rfl, .ty _, hd.ty, kit_int _ d, _, rfl, ?_⟩
    have q' := q H fun _ _ e => e
    cases d with
    | int i => exact ⟨_, rfl, v, .ty "bool", _, _, _, rfl, .ty _, hd.ty, kit_bool _ _, _, rfl, q'⟩
    | bool b => exact ⟨_, rfl, v, .ty "bool", _, _, _, rfl, .ty _, hd.ty, kit_bool _ _, _, rfl, q'⟩
    | none => exact q'
    | str x => exact q'
    | list ds => exact q'
    | tuple ds => exact q'
    | dict kv => exact q'
theorem ok_btw {f fI : Addr} {fd fdI : FuncData} (F : Fun K "is_between" "is_between" sBtw f fd) (T : Nm mg) (I : DefOk K mg "is_integer" sIsInt ["value"] fI fdI) : FnOk P w K mg base CX0 2 f fd ["value", "low", "high"] spBtw := by
  have GI : FnOk P w K mg base CX0 1 fI fdI ["value"] (spP isInt) := ok_isint I.F T
  refine F.ok scBtw (fun vs H Q E h => ?_) (fun cdv A outer s H vs Q E hr h => ?_)
  · obtain ⟨v, d, lo, hi, rfl, _⟩ := h
    rfl
  · obtain ⟨v, d, lo, hi, rfl, hd, q⟩ := h
    refine ⟨_, pss_one (ps_ret (pe_and (pe_call GI hr rfl I.g I.F.kp I.b .nil pass0 (pa_cons (pv 0) pa_nil)) (pe_one (pe_chain op_le op_le (pv 1) (pv 0) (pv 2))))), ?_⟩
    refine ⟨_, rfl, v, d, rfl, hd, fun H' S => ⟨_, rfl, ?_⟩⟩
    have q' := q H' S
    cases d with
    | int i =>
      cases hd
      refine ⟨_, rfl, _, rfl, _, _, rfl, rfl, _, rfl, ?_⟩
      by_cases h : lo ≤ i
      · have e : btw lo hi (.int i) = decide (i ≤ hi) := by
          show (decide (lo ≤ i) && decide (i ≤ hi)) = _
          rw [decide_eq_true h, Bool.true_and]
        rw [e] at q'
        rw [if_pos (decide_eq_true h)]
        exact ⟨_, rfl, _, _, rfl, rfl, q'⟩
      · have e : btw lo hi (.int i) = false := by
          show (decide (lo ≤ i) && decide (i ≤ hi)) = _
          rw [decide_eq_false h, Bool.false_and]
        rw [e] at q'
        rw [if_neg (by rw [decide_eq_false h]; exact Bool.false_ne_true)]
        exact q'
    | bool b => exact q'
    | none => exact q'
    | str x => exact q'
    | list ds => exact q'
    | tuple ds => exact q'
    | dict kv => exact q'
theorem ok_tup {f : Addr} {fd : FuncData} (F : Fun K "is_tuple" "is_tuple" sTup f fd) (T : Nm mg) : FnOk P w K mg base CX0 1 f fd ["value", "least", "most"] spTup := by
  refine F.ok scTup (fun vs H Q E h => ?_) (fun cdv A outer s H vs Q E hr h => ?_)
  · obtain ⟨v, d, lo, hi, rfl, _⟩ := h
    rfl
  · obtain ⟨v, d, lo, hi, rfl, hd, q⟩ := h
    refine ⟨_, pss_one (ps_ret (pe_and (pe_callB call_isi (by rfl) T.isinstance boot_isinstance (pa_cons (pv 0) (pa_cons (pe_bltn (v := .ty "tuple") rfl T.tuple (by decide +kernel) rfl) pa_nil)))
      (pe_one (pe_chain op_le op_le (pv 1) (pe_callB call_len_seq (by rfl) T.len PySem.boot_len (pa_cons (pv 0) pa_nil)) (pv 2))))), ?_⟩
    have q' := q H fun _ _ e => e
    refine ⟨_, rfl, v, .ty "tuple", _, _, _, rfl, .ty _, hd.ty, kit_tuple _ d, _, rfl, ?_⟩
    cases d with
    | tuple ds =>
      cases hd with
      | @tup a xs _ ha hx =>
        have el : (xs.length : Int) = (ds.length : Int) := by rw [hx.len]
        refine ⟨_, rfl, _, rfl, a, xs, rfl, .inr (SqT.of ha), _, _, rfl, rfl, _, rfl, ?_⟩
        rw [el]
        by_cases h : lo ≤ (ds.length : Int)
        · have e : tupOf lo hi (.tuple ds) = decide ((ds.length : Int) ≤ hi) := by
            show (decide (lo ≤ (ds.length : Int)) && decide ((ds.length : Int) ≤ hi)) = _
            rw [decide_eq_true h, Bool.true_and]
          rw [e] at q'
          rw [if_pos (decide_eq_true h)]
          exact ⟨_, rfl, _, _, rfl, rfl, q'⟩
        · have e : tupOf lo hi (.tuple ds) = false := by
            show (decide (lo ≤ (ds.length : Int)) && decide ((ds.length : Int) ≤ hi)) = _
            rw [decide_eq_false h, Bool.false_and]
          rw [e] at q'
          rw [if_neg (by rw [decide_eq_false h]; exact Bool.false_ne_true)]
          exact q'
    | int i => exact q'
    | bool b => exact q'
    | none => exact q'
    | str x => exact q'
    | list ds => exact q'
    | dict kv => exact q'
end
end K2
set_option maxRecDepth 100000
set_option maxHeartbeats 4000000
namespace K2
open PySem PySem.Spec PyProof.Rows L2
theorem same_new {H : Hp} {p : Addr} {o : HO} (h : H p = none) : Same H (upd H p o) := fun b u e => by rw [upd_ne (ne_of_none e h)]; exact e
theorem if_t {c : Bool} {A B : Prop} (hc : c = true) (h : A) : if c = true then A else B := by
  rw [if_pos hc]
  exact h
theorem if_f {c : Bool} {A B : Prop} (hc : c = false) (h : B) : if c = true then A else B := by
  rw [hc, if_neg Bool.false_ne_true]
  exact h
/-- a list that grows at D while what was tracked before D stands -/
theorem grow {H Hx : Hp} {D : Addr} {xs : List V} {y : V} (nD : H D = none) (S : Same H Hx) : Same H (upd Hx D (.lst (xs ++ [y]))) := fun b o e => by
  have bD : b ≠ D := fun z => by
    rw [z, nD] at e
    cases e
  rw [upd_ne bD]
  exact S _ _ e
/-! ### names -/
/-- one sign from a to z -/
def azB (c : Nat) : Bool := !decide ([c] < ("a" : Str).cps.toList) && !decide (("z" : Str).cps.toList < [c])
def nameS (s : Str) : Bool := decide (1 ≤ (s.length : Int)) && decide ((s.length : Int) ≤ 6) && s.cps.toList.all azB
def nameB : PyData → Bool
  | .str s => nameS s
  | _ => false
section
variable {P : Program} {w : World} {K : PySem.W.Frag} {mg : Str → Option Value} {base : Heap}
theorem scName : FnScope ["value", "letter"] ["value"] (defScope sName) := ⟨rfl, rfl, rfl, by decide +kernel, rfl, by decide +kernel, by decide +kernel⟩
theorem ok_name {f : Addr} {fd : FuncData} (F : Fun K "is_name" "is_name" sName f fd) (T : Nm mg) (c6 : ∃ t, mg "LONGEST_NAME" = some (.int 6 t)) : FnOk P w K mg base CX0 1 f fd ["value"] (spP nameB) := by
  obtain ⟨t6, c6⟩ := c6
  refine F.ok scName (fun vs H Q E h => ?_) (fun cdv A outer s H vs Q E hr h => ?_)
  · obtain ⟨v, d, rfl, _⟩ := h
    rfl
  · obtain ⟨v, d, rfl, hd, q⟩ := h
    refine ⟨_, pss_cons (ps_if (PW.pt (pw_or (pt_not (pt_val (pe_callB call_isi (by rfl) T.isinstance boot_isinstance (pa_cons (pv 0) (pa_cons (pe_bltn (v := .ty "str") rfl T.str (by decide +kernel) rfl) pa_nil)))))
        (pw_or1 (pt_not (pt_chain op_le op_le pe_int (pe_callB call_len_str (by rfl) T.len PySem.boot_len (pa_cons (pv 0) pa_nil)) (pe_glob (v := .int 6) rfl c6 ⟨_, rfl⟩)))))) (pss_one (ps_ret pe_bl)) pss_nil)
      (pss_one (ps_ret (pe_callB (cr_all rfl) (by rfl) T.all boot_all (pa_cons (pe_lc (own := [("letter", 1)]) (g := gName 1) (tt := tYes) rfl scName.nd (pi_str (pv 0)) (blkOk_by (N := ["value", "letter"]) (sc := defScope sName) (by decide +kernel))
        (fun _ _ _ _ _ => pg_name (i := 1) scName.nd rfl (Or.inl rfl)) (fun _ _ _ _ _ => pts_nil) (fun _ _ _ _ _ => pe_chain op_le_str op_le_str pe_str (pv 1) pe_str)) pa_nil)))), ?_⟩
    refine ⟨_, rfl, v, .ty "str", _, _, _, rfl, .ty _, hd.ty, kit_str _ d, _, rfl, ?_⟩
    have q0 := q H fun _ _ e => e
    cases d with
    | str x =>
      cases hd with
      | str _ hx =>
        refine if_f rfl ⟨_, rfl, x, rfl, Nat.le_trans hx (by decide), _, _, rfl, rfl, _, rfl, ?_⟩
        by_cases h1 : (1 : Int) ≤ (x.length : Int)
        · rw [if_pos (decide_eq_true h1)]
          refine ⟨_, _, rfl, rfl, _, rfl, ?_⟩
          by_cases h6 : (x.length : Int) ≤ 6
          · refine if_f (by rw [decide_eq_true h6]; rfl) ?_
            refine ⟨_, rfl, x, rfl, fun D nD => lc_it (walk_str (z := x)) (fun j Hx => Same H Hx ∧ Hx D = some (.lst ((x.cps.toList.take j).map fun c => V.bl (azB c)))) ⟨same_new nD, upd_same⟩ (fun _ _ _ _ => trivial) ?_ ?_⟩
            · rintro j y Hx Hy hj ⟨S, hD⟩ ⟨rfl, c, hc, rfl⟩
              have hcl : x.cps.toList[j]? = some c := by simpa using hc
              have et : (x.cps.toList.take (j + 1)).map (fun c => V.bl (azB c)) = (x.cps.toList.take j).map (fun c => V.bl (azB c)) ++ [V.bl (azB c)] := by
                rw [List.take_add_one, hcl]
                simp
              have fin : ∀ b : Bool, b = azB c → ∃ acc, Hy D = some (.lst acc) ∧ acc.length < sizeLine ∧ Same H (upd Hy D (.lst (acc ++ [V.bl b]))) ∧ upd Hy D (.lst (acc ++ [V.bl b])) D = some (.lst ((x.cps.toList.take (j + 1)).map fun c => V.bl (azB c))) := by
                rintro b rfl
                refine ⟨_, hD, ?_, grow nD S, by rw [upd_same, et]⟩
                rw [List.length_map, List.length_take, sizeLine_eq]
                have : j < x.cps.size := hj
                have : x.cps.size = x.length := rfl
                omega
              refine ⟨rfl, _, rfl, _, _, rfl, rfl, _, rfl, ?_⟩
              by_cases ha : [c] < ("a" : Str).cps.toList
              · refine if_f (by rw [decide_eq_true ha]; rfl) (fin _ ?_)
                unfold azB
                rw [decide_eq_true ha]
                rfl
              · refine if_t (by rw [decide_eq_false ha]; rfl) ⟨_, _, rfl, rfl, fin _ ?_⟩
                unfold azB
                rw [decide_eq_false ha]
                rfl
            · rintro Hx ⟨S, hD⟩
              have el : x.cps.toList.take x.cps.size = x.cps.toList := List.take_of_length_le (by simp)
              rw [el] at hD
              have q1 := q Hx S
              have e : nameB (.str x) = x.cps.toList.all azB := by
                show (decide (1 ≤ (x.length : Int)) && decide ((x.length : Int) ≤ 6) && x.cps.toList.all azB) = _
                rw [decide_eq_true h1, decide_eq_true h6]
                rfl
              rw [e] at q1
              refine ⟨D, x.cps.toList.map azB, rfl, SqL.of (by rw [hD, List.map_map]; rfl), ?_⟩
              rw [List.all_map]
              exact q1
          · refine if_t (by rw [decide_eq_false h6]; rfl) ?_
            have e : nameB (.str x) = false := by
              show (decide (1 ≤ (x.length : Int)) && decide ((x.length : Int) ≤ 6) && x.cps.toList.all azB) = _
              rw [decide_eq_true h1, decide_eq_false h6]
              rfl
            rw [e] at q0
            exact q0
        · rw [if_neg (by rw [decide_eq_false h1]; exact Bool.false_ne_true)]
          refine ⟨_, rfl, if_t rfl ?_⟩
          have e : nameB (.str x) = false := by
            show (decide (1 ≤ (x.length : Int)) && decide ((x.length : Int) ≤ 6) && x.cps.toList.all azB) = _
            rw [decide_eq_false h1]
            rfl
          rw [e] at q0
          exact q0
    | int i => exact if_t rfl (if_t rfl q0)
    | bool b => exact if_t rfl (if_t rfl q0)
    | none => exact if_t rfl (if_t rfl q0)
    | tuple ds => exact if_t rfl (if_t rfl q0)
    | list ds => exact if_t rfl (if_t rfl q0)
    | dict kv => exact if_t rfl (if_t rfl q0)
end
end K2
set_option maxRecDepth 100000
set_option maxHeartbeats 4000000
namespace K2
open PySem PySem.Spec PyProof.Rows L2
/-! ### such values as the machine reads them -/
section
variable {P : Program} {w : World} {H : Hp} {h : Heap}
mutual
theorem Dat.reads (ok : HOk P w H h) : ∀ {v : V} {d : PyData} {u : Value}, Dat H v d → RelV v u → ∃ as, Reads h u d as
  | _, _, _, .non, r => ⟨[], by cases r; exact .none⟩
  | _, _, _, .bl b, r => ⟨[], by cases r; exact .bool b⟩
  | _, _, _, .int i, r => ⟨[], by obtain ⟨t, rfl⟩ := r; exact .int i t⟩
  | _, _, _, .str x _, r => ⟨[], by obtain ⟨t, rfl⟩ := r; exact .str x t⟩
  | _, _, _, .lst (a := a) (xs := xs) e t, r => by
    cases r
    obtain ⟨_, its, n, rv, ho⟩ := (show ObjOk P w H h a (.lst xs) from ok a _ e)
    obtain ⟨as, ra⟩ := DatAll.reads ok t rv
    exact ⟨_, .list ho rfl rfl ra⟩
  | _, _, _, .tup (a := a) (xs := xs) e t, r => by
    cases r
    obtain ⟨_, its, rv, o, ho, hc, m, hd⟩ := (show ObjOk P w H h a (.tup xs) from ok a _ e)
    obtain ⟨as, ra⟩ := DatAll.reads ok t rv
    exact ⟨_, .tuple ho hc hd ra⟩
  | _, _, _, .d0 (a := a) e, r => by
    cases r
    obtain ⟨_, ns, vs, kv, o, es, ep, ho, hx, hd, hk, hp, _⟩ := (show ObjOk P w H h a (.dK []) from ok a _ e)
    cases kv
    have e0 : es.toList = [] := by
      generalize es.toList = l at hp
      cases hp
      rfl
    exact ⟨a :: [] ++ [], .dict (kvs := []) ho hx.1 hd (by rw [e0]; exact .nil) (by rw [e0]; exact .nil)⟩
theorem DatAll.reads (ok : HOk P w H h) : ∀ {vs : List V} {ds : List PyData} {us : List Value}, DatAll H vs ds → Vals vs us → ∃ as, ReadsAll h us ds as
  | _, _, _, .nil, .nil => ⟨[], .nil⟩
  | _, _, _, .cons t ts, .cons r rs => by
    obtain ⟨as, ra⟩ := Dat.reads ok t r
    obtain ⟨bs, rb⟩ := DatAll.reads ok ts rs
    exact ⟨as ++ bs, .cons ra rb⟩
end
end
/-! ### < of two values of one form -/
section
variable {X : Cx}
def rLtDat : R2 := fun x y H Q => ∃ d e, Dat H x d ∧ Dat H y e ∧ PySem.W.alike d e = true ∧ d ≠ .none ∧ d.depth ≤ 60 ∧ Q (.bl (PySem.W.dataLt d e)) H
theorem op_ltDat (hu : X.A.units + 64 < cLine) : OpR X (compareOp .Lt) rLtDat := by
  intro pins s σ H x y v u Q I rx ry h
  obtain ⟨d, e, hd, he, ha, hn, hz, q⟩ := h
  obtain ⟨as, r1⟩ := hd.reads I.hok rx
  obtain ⟨bs, r2⟩ := he.reads I.hok ry
  exact PySem.W.lt_data r1 r2 ha hn (by omega) ⟨.bl _, H, I, rfl, q⟩
end
/-! ### strictly ascending -/
/-- neighbours that can be compared -/
def AscOk (ds : List PyData) : Prop := ∀ i, i + 1 < ds.length → PySem.W.alike (ds.getD i .none) (ds.getD (i + 1) .none) = true ∧ ds.getD i .none ≠ .none ∧ (ds.getD i .none).depth ≤ 60
def ascB (ds : List PyData) : Bool := (List.range (ds.length - 1)).all fun i => PySem.W.dataLt (ds.getD i .none) (ds.getD (i + 1) .none)
def spAsc : Sp := fun vs H Q _ => ∃ (a : Addr) (xs : List V) (ds : List PyData), vs = [.ref a] ∧ (H a = some (.lst xs) ∨ H a = some (.tup xs)) ∧ DatAll H xs ds ∧ AscOk ds ∧ ∀ H', Same H H' → Q (.bl (ascB ds)) H'
theorem cut1 (xs : List V) : cutV xs (some 1) none = xs.drop 1 := by
  unfold cutV
  have e1 : HT.sIx xs.length 0 (some 1) = min 1 xs.length := HT.sIx_nat xs.length 0 1
  have e2 : HT.sIx xs.length xs.length none = xs.length := HT.sIx_none _ _
  rw [e1, e2]
  cases xs with
  | nil => rfl
  | cons x l =>
    have e3 : min 1 (x :: l).length = 1 := by
      rw [List.length_cons]
      omega
    rw [e3]
    exact List.take_of_length_le (by simp)
/-- t[1:] -/
theorem slA_of {K : PySem.W.Frag} {H : Hp} {a : Addr} {xs : List V} {Q : VK} (ha : H a = some (.tup xs)) (hq : ∀ (b : Addr) (Hb : Hp), Same H Hb → Hb b = some (.tup (xs.drop 1)) → Q (.ref b) Hb) : rSlA K (.ref a) (some 1) none H Q := by
  refine ⟨a, xs, rfl, SqT.of ha, fun z => ?_, fun _ p np => ?_⟩
  · have e1 : HT.sIx xs.length 0 (some 1) = min 1 xs.length := HT.sIx_nat xs.length 0 1
    have e2 : min 1 xs.length = 0 := e1.symm.trans z.1
    cases xs with
    | nil => exact hq a H (fun _ _ e => e) ha
    | cons x l =>
      rw [List.length_cons] at e2
      omega
  · rw [cut1]
    exact hq p _ (same_new np) upd_same
section
variable {K : PySem.W.Frag} {a b : Addr} {xs ys : List V}
theorem walk_zip2 {n : Nat} (hn : n = min xs.length ys.length) : Walk (RZ.ItzT K a b) n (fun H => SqT K H a xs ∧ SqT K H b ys) (YPair (fun i => xs[i]?) (fun i => ys[i]?)) := by
  subst hn
  constructor
  · intro i _ hi q
    exact ⟨xs, ys, xs[i]'(by omega), ys[i]'(by omega), q.1, q.2, List.getElem?_eq_getElem (by omega), List.getElem?_eq_getElem (by omega)⟩
  · intro _ q
    exact ⟨xs, ys, q.1, q.2, by omega⟩
  · intro i H v H' _ q y
    obtain ⟨T, x, z, e1, e2, e3, e4, e5⟩ := y
    exact ⟨T, x, z, e1, e2, e3, e4 _ q.1, e5 _ q.2⟩
end
section
variable {P : Program} {w : World} {K : PySem.W.Frag} {mg : Str → Option Value} {base : Heap}
theorem scAsc : FnScope ["items", "before", "after"] ["items"] (defScope sAsc) := ⟨rfl, rfl, rfl, by decide +kernel, rfl, by decide +kernel, by decide +kernel⟩
/-- one turn of the list of comparisons -/
theorem asc_turn {H Hx : Hp} {D : Addr} {xs : List V} {ds : List PyData} {j : Nat} {x y : V} {U : Addr} (nD : H D = none) (S : Same H Hx) (hD : Hx D = some (.lst ((List.range j).map fun i => V.bl (PySem.W.dataLt (ds.getD i .none) (ds.getD (i + 1) .none)))))
    (hx : DatAll H xs ds) (ok : AscOk ds) (h1 : xs[j]? = some x) (h2 : (xs.drop 1)[j]? = some y) (hj : j < 1000000) (nU : Hx U = none) :
    rLtDat x y (upd Hx U (.tup [x, y])) (fun z H4 => ∃ acc, H4 D = some (.lst acc) ∧ acc.length < sizeLine ∧ Same H (upd H4 D (.lst (acc ++ [z]))) ∧ upd H4 D (.lst (acc ++ [z])) D = some (.lst ((List.range (j + 1)).map fun i => V.bl (PySem.W.dataLt (ds.getD i .none) (ds.getD (i + 1) .none))))) := by
  have S1 := S.trans (same_new (o := HO.tup [x, y]) nU)
  obtain ⟨d, hd, td⟩ := hx.get h1
  have h2' : xs[j + 1]? = some y := by
    rw [List.getElem?_drop] at h2
    rw [Nat.add_comm]
    exact h2
  obtain ⟨e, he, te⟩ := hx.get h2'
  have g1 : ds.getD j .none = d := by rw [List.getD_eq_getElem?_getD, hd]; rfl
  have g2 : ds.getD (j + 1) .none = e := by rw [List.getD_eq_getElem?_getD, he]; rfl
  have hlt : j + 1 < ds.length := by
    have z := (List.getElem?_eq_some_iff.mp he).1
    exact z
  obtain ⟨o1, o2, o3⟩ := ok j hlt
  rw [g1, g2] at o1
  rw [g1] at o2 o3
  refine ⟨d, e, td.same S1, te.same S1, o1, o2, o3, _, same_new nU _ _ hD, ?_, grow nD S1, ?_⟩
  · rw [List.length_map, List.length_range, sizeLine_eq]
    omega
  · rw [upd_same, List.range_succ, List.map_append]
    show _ = some (HO.lst (_ ++ [V.bl (PySem.W.dataLt (ds.getD j .none) (ds.getD (j + 1) .none))]))
    rw [g1, g2]
theorem ok_asc {f : Addr} {fd : FuncData} (F : Fun K "is_ascending" "is_ascending" sAsc f fd) (T : Nm mg) : FnOk P w K mg base CX0 1 f fd ["items"] (fun vs H Q E => spAsc vs H Q E ∧ ∀ a xs, (H a = some (.lst xs) ∨ H a = some (.tup xs)) → vs = [.ref a] → xs.length < 1000000) := by
  refine F.ok scAsc (fun vs H Q E h => ?_) (fun cdv A outer s H vs Q E hr h => ?_)
  · obtain ⟨⟨a, xs, ds, rfl, _⟩, _⟩ := h
    rfl
  · obtain ⟨⟨a, xs, ds, rfl, ha, hx, ok, q⟩, hz⟩ := h
    have hu := hr.units
    have hl := hz a xs ha rfl
    have hlen : min xs.length (xs.drop 1).length = ds.length - 1 := by
      rw [List.length_drop, hx.len]
      omega
    have fin : ∀ {D : Addr} {Hx : Hp} {Q' : VK}, (∀ H', Same H H' → Q' (.bl (ascB ds)) H') → Same H Hx → Hx D = some (.lst ((List.range (ds.length - 1)).map fun i => V.bl (PySem.W.dataLt (ds.getD i .none) (ds.getD (i + 1) .none)))) → rAll K [.ref D] Hx Q' := by
      intro D Hx Q' q' S hD
      refine ⟨D, (List.range (ds.length - 1)).map fun i => PySem.W.dataLt (ds.getD i .none) (ds.getD (i + 1) .none), rfl, SqL.of (by rw [hD, List.map_map]; rfl), ?_⟩
      rw [List.all_map]
      exact q' Hx S
    rcases ha with ha | ha
    · refine ⟨_, pss_one (ps_ret (pe_callB (cr_all rfl) (by rfl) T.all boot_all (pa_cons (pe_lc (own := [("before", 1), ("after", 2)]) (g := gTup K 2 (gCons (gName 1) (gCons (gName 2) gNil))) (tt := tYes) rfl scAsc.nd
          (RZ.pi_zipA rfl T.zip (pa_cons (pv 0) (pa_cons (pe_slice sl_list (pv 0) (po_some pe_int) po_none) pa_nil))) (blkOk_by (N := ["items", "before", "after"]) (sc := defScope sAsc) (by decide +kernel))
          (fun _ _ _ _ _ => pg_tup rfl (pgs_cons (pg_name (i := 1) scAsc.nd rfl (Or.inl rfl)) (pgs_cons (pg_name (i := 2) scAsc.nd rfl (Or.inl rfl)) pgs_nil))) (fun _ _ _ _ _ => pts_nil) (fun _ _ _ _ _ => pe_cmpR (op_ltDat hu) (pv 1) (pv 2) (nomark _))) pa_nil))), ?_⟩
      refine ⟨_, rfl, _, rfl, 1, rfl, a, xs, rfl, SqL.of ha, fun b nb => ?_⟩
      rw [cut1]
      have Sb := same_new (o := HO.lst (xs.drop 1)) nb
      have hb : upd H b (.lst (xs.drop 1)) b = some (.lst (xs.drop 1)) := upd_same
      generalize upd H b (.lst (xs.drop 1)) = Hb at Sb hb ⊢
      refine ⟨a, b, xs, xs.drop 1, rfl, .inl ⟨SqL.of (Sb _ _ ha), SqL.of hb, fun D nD => lc_it (walk_zip (K := K) (a := a) (b := b) (xs := xs) (ys := xs.drop 1) hlen.symm) (fun j Hx => Same Hb Hx ∧ Hx D = some (.lst ((List.range j).map fun i => V.bl (PySem.W.dataLt (ds.getD i .none) (ds.getD (i + 1) .none)))))
        ⟨same_new nD, upd_same⟩ (fun j Hx _ ⟨S, _⟩ => ⟨SqL.of (S _ _ (Sb _ _ ha)), SqL.of (S _ _ hb)⟩) ?_ ?_⟩⟩
      · rintro j z Hx Hy hj ⟨S, hD⟩ ⟨U, x, y, rfl, nU, rfl, h1, h2⟩
        exact ⟨U, _, rfl, SqT.of upd_same, rfl, _, _, rfl, _, _, rfl, rfl, rfl, _, rfl, _, rfl, asc_turn nD S hD (hx.same Sb) ok h1 h2 (by omega) nU⟩
      · rintro Hx ⟨S, hD⟩
        exact fin q (Sb.trans S) hD
    · refine ⟨_, pss_one (ps_ret (pe_callB (cr_all rfl) (by rfl) T.all boot_all (pa_cons (pe_lc (own := [("before", 1), ("after", 2)]) (g := gTup K 2 (gCons (gName 1) (gCons (gName 2) gNil))) (tt := tYes) rfl scAsc.nd
          (RZ.pi_zipA rfl T.zip (pa_cons (pv 0) (pa_cons (pe_slice sl_tupA (pv 0) (po_some pe_int) po_none) pa_nil))) (blkOk_by (N := ["items", "before", "after"]) (sc := defScope sAsc) (by decide +kernel))
          (fun _ _ _ _ _ => pg_tup rfl (pgs_cons (pg_name (i := 1) scAsc.nd rfl (Or.inl rfl)) (pgs_cons (pg_name (i := 2) scAsc.nd rfl (Or.inl rfl)) pgs_nil))) (fun _ _ _ _ _ => pts_nil) (fun _ _ _ _ _ => pe_cmpR (op_ltDat hu) (pv 1) (pv 2) (nomark _))) pa_nil))), ?_⟩
      refine ⟨_, rfl, _, rfl, 1, rfl, ?_⟩
      dsimp only [tNoPart]
      refine slA_of ha fun b Hb Sb hb => ?_
      refine ⟨a, b, xs, xs.drop 1, rfl, .inr ⟨SqT.of (Sb _ _ ha), SqT.of hb, fun D nD => lc_it (walk_zip2 (K := K) (a := a) (b := b) (xs := xs) (ys := xs.drop 1) hlen.symm) (fun j Hx => Same Hb Hx ∧ Hx D = some (.lst ((List.range j).map fun i => V.bl (PySem.W.dataLt (ds.getD i .none) (ds.getD (i + 1) .none)))))
        ⟨same_new nD, upd_same⟩ (fun j Hx _ ⟨S, _⟩ => ⟨SqT.of (S _ _ (Sb _ _ ha)), SqT.of (S _ _ hb)⟩) ?_ ?_⟩⟩
      · rintro j z Hx Hy hj ⟨S, hD⟩ ⟨U, x, y, rfl, nU, rfl, h1, h2⟩
        exact ⟨U, _, rfl, SqT.of upd_same, rfl, _, _, rfl, _, _, rfl, rfl, rfl, _, rfl, _, rfl, asc_turn nD S hD (hx.same Sb) ok h1 h2 (by omega) nU⟩
      · rintro Hx ⟨S, hD⟩
        exact fin q (Sb.trans S) hD
end
end K2
set_option maxRecDepth 100000
set_option maxHeartbeats 4000000
namespace K2
open PySem PySem.Spec PyProof.Rows L2
/-! ### [p(x) for x in a tuple] -/
theorem lc_all {K : PySem.W.Frag} {H : Hp} {a : Addr} {xs : List V} {ds : List PyData} {g : TG} {te : TE} {vs : List Nat} {σ : L2.St} {D : Addr} {Qd : Hp → Prop} (p : PyData → Bool) (ha : H a = some (.tup xs)) (hx : DatAll H xs ds) (hz : xs.length ≤ 1000000) (nD : H D = none)
    (hs : ∀ (i : Nat) (x : V) (d : PyData) (Hx : Hp), xs[i]? = some x → ds[i]? = some d → Dat Hx x d → Same H Hx → ∀ R : VK, (∀ H', Same Hx H' → R (.bl (p d)) H') → g x (wipe σ vs) Hx fun σ2 H2 => wipe σ2 vs = wipe σ vs ∧ te σ2 H2 R)
    (mono : ∀ (x : V) (Hx : Hp) (A B : L2.St → Hp → Prop), (∀ σ2 H2, A σ2 H2 → B σ2 H2) → g x (wipe σ vs) Hx A → g x (wipe σ vs) Hx B)
    (hd : ∀ Hx, Same H Hx → Hx D = some (.lst ((ds.map p).map V.bl)) → Qd Hx) :
    ∃ W : Nat → Nat → Hp → Prop, (∃ m, W 0 m (upd H D (.lst []))) ∧ ∀ i m H, W i m H →
      ((Itt K a).stop i H ∧ Qd H) ∨ ((Itt K a).go i H ∧ ∃ Nx : Hp → Prop, (∀ H', Nx H' → ∃ m', m' < m ∧ W (i + 1) m' H') ∧ ∀ x H', (Itt K a).yld i H x H' → g x (wipe σ vs) H' fun σ2 H2 => wipe σ2 vs = wipe σ vs ∧ tYes σ2 H2 fun b H3 =>
        if b = true then te σ2 H3 fun y H4 => ∃ acc, H4 D = some (.lst acc) ∧ acc.length < sizeLine ∧ Nx (upd H4 D (.lst (acc ++ [y]))) else Nx H3) := by
  refine lc_tup (K := K) (a := a) (xs := xs) (fun j Hx => Same H Hx ∧ Hx D = some (.lst (((ds.take j).map p).map V.bl))) ⟨same_new nD, upd_same⟩ (fun j Hx _ ⟨S, _⟩ => SqT.of (S _ _ ha)) ?_ ?_
  · rintro i x Hx hi ⟨S, hD⟩
    obtain ⟨d, hdi, td⟩ := hx.get hi
    refine mono x Hx _ _ (fun σ2 H2 h => ⟨h.1, ?_⟩) (hs i x d Hx hi hdi (td.same S) S (fun y H4 => ∃ acc, H4 D = some (.lst acc) ∧ acc.length < sizeLine ∧ Same H (upd H4 D (.lst (acc ++ [y]))) ∧ upd H4 D (.lst (acc ++ [y])) D = some (.lst (((ds.take (i + 1)).map p).map V.bl))) fun H' S' => ?_)
    · dsimp only [tYes]
      first
        | exact if_t rfl h.2
        | exact h.2
    · have hi' : i < xs.length := (List.getElem?_eq_some_iff.mp hi).1
      refine ⟨_, S' _ _ hD, ?_, grow nD (S.trans S'), ?_⟩
      · rw [List.length_map, List.length_map, List.length_take, sizeLine_eq]
        omega
      · rw [upd_same, List.take_add_one, hdi]
        simp
  · rintro Hx ⟨S, hD⟩
    refine hd Hx S ?_
    rw [hD, hx.len, List.take_of_length_le (Nat.le_refl _)]
theorem mono_name {i : Nat} {σ : L2.St} {vs : List Nat} : ∀ (x : V) (Hx : Hp) (A B : L2.St → Hp → Prop), (∀ σ2 H2, A σ2 H2 → B σ2 H2) → gName i x (wipe σ vs) Hx A → gName i x (wipe σ vs) Hx B := fun _ _ _ _ h a => h _ _ a
theorem all_bools {K : PySem.W.Frag} {H : Hp} {D : Addr} {bs : List Bool} {Q : VK} (h : H D = some (.lst (bs.map V.bl))) (q : Q (.bl (bs.all id)) H) : rAll K [.ref D] H Q := ⟨D, bs, rfl, SqL.of h, q⟩
/-! ### promises of the leaves' checks: the whole tuple is handed over -/
def spT (m : Nat) (p : List PyData → Bool) : Sp := fun vs H Q _ => ∃ (a : Addr) (xs : List V) (ds : List PyData), vs = [.ref a] ∧ H a = some (.tup xs) ∧ DatAll H xs ds ∧ ds.length = m ∧ ∀ H', Same H H' → Q (.bl (p ds)) H'
abbrev sIsState : Stmt := top 29
abbrev sAreStates : Stmt := top 30
abbrev sIsMove : Stmt := top 28
abbrev sIsCount : Stmt := top 45
abbrev sSubset : Stmt := top 42
abbrev sWalk : Stmt := top 47
abbrev sCycle : Stmt := top 48
abbrev sMatching : Stmt := top 49
abbrev sPerm : Stmt := top 50
abbrev sTree : Stmt := top 51
abbrev sRow : Stmt := top 53
abbrev sPower : Stmt := top 54
/-- the module's constants -/
structure Cst (mg : Str → Option Value) : Prop where
  places : ∃ t, mg "MOST_PLACES" = some (.int 400 t)
  steps : ∃ t, mg "MOST_STEPS" = some (.int 60 t)
  pairs : ∃ t, mg "MOST_PAIRS" = some (.int 200 t)
  highest : ∃ t, mg "HIGHEST" = some (.int 60 t)
  letters : ∃ t, mg "MOST_LETTERS" = some (.int 6 t)
  moves : ∃ t, mg "MOST_MOVES" = some (.int 48 t)
  last : ∃ t, mg "LAST_STATE" = some (.int 7 t)
  nested : ∃ t, mg "MOST_NESTED" = some (.int 6 t)
  deepest : ∃ t, mg "DEEPEST" = some (.int 6 t)
  parts : ∃ t, mg "MOST_PARTS" = some (.int 40 t)
  name : ∃ t, mg "LONGEST_NAME" = some (.int 6 t)
  digits : ∃ t, mg "DIGITS" = some (.int 4000 t)
  leaves : ∃ t, mg "LEAVES" = some (.int 2000 t)
def at0 (ds : List PyData) (i : Nat) : PyData := ds.getD i .none
theorem at_of {ds : List PyData} {i : Nat} {d : PyData} (h : ds[i]? = some d) : at0 ds i = d := by
  unfold at0
  rw [List.getD_eq_getElem?_getD, h]
  rfl
def pCycle (ds : List PyData) : Bool := btw 1 400 (at0 ds 1)
def pMatching (ds : List PyData) : Bool := btw 0 200 (at0 ds 1)
def pPower (ds : List PyData) : Bool := btw 0 400 (at0 ds 1)
def pRow (ds : List PyData) : Bool := tupOf 1 6 (at0 ds 1)
def intOf : PyData → Int
  | .int i => i
  | _ => 0
def pSubset (ds : List PyData) : Bool := btw 0 400 (at0 ds 1) && btw 0 (intOf (at0 ds 1)) (at0 ds 2)
theorem btw_int {lo hi : Int} {d : PyData} (h : btw lo hi d = true) : ∃ i, d = .int i ∧ lo ≤ i ∧ i ≤ hi := by
  cases d with
  | int i =>
    have h' : (decide (lo ≤ i) && decide (i ≤ hi)) = true := h
    rw [Bool.and_eq_true] at h'
    exact ⟨i, rfl, of_decide_eq_true h'.1, of_decide_eq_true h'.2⟩
  | _ => cases h
section
variable {P : Program} {w : World} {K : PySem.W.Frag} {mg : Str → Option Value} {base : Heap}
theorem scIsState : FnScope ["value"] ["value"] (defScope sIsState) := ⟨rfl, rfl, rfl, by decide +kernel, rfl, by decide +kernel, by decide +kernel⟩
theorem scCycle : FnScope ["space"] ["space"] (defScope sCycle) := ⟨rfl, rfl, rfl, by decide +kernel, rfl, by decide +kernel, by decide +kernel⟩
theorem scMatching : FnScope ["space"] ["space"] (defScope sMatching) := ⟨rfl, rfl, rfl, by decide +kernel, rfl, by decide +kernel, by decide +kernel⟩
theorem scTree : FnScope ["space"] ["space"] (defScope sTree) := ⟨rfl, rfl, rfl, by decide +kernel, rfl, by decide +kernel, by decide +kernel⟩
theorem scPower : FnScope ["space"] ["space"] (defScope sPower) := ⟨rfl, rfl, rfl, by decide +kernel, rfl, by decide +kernel, by decide +kernel⟩
theorem scRow : FnScope ["space"] ["space"] (defScope sRow) := ⟨rfl, rfl, rfl, by decide +kernel, rfl, by decide +kernel, by decide +kernel⟩
theorem scSubset : FnScope ["space", "n", "k"] ["space"] (defScope sSubset) := ⟨rfl, rfl, rfl, by decide +kernel, rfl, by decide +kernel, by decide +kernel⟩
theorem ok_state {f fB : Addr} {fd fdB : FuncData} (F : Fun K "is_state" "is_state" sIsState f fd) (Z : Cst mg) (B : DefOk K mg "is_between" sBtw ["value", "low", "high"] fB fdB) (GB : FnOk P w K mg base CX0 2 fB fdB ["value", "low", "high"] spBtw) : FnOk P w K mg base CX0 3 f fd ["value"] (spP (btw 0 7)) := by
  obtain ⟨t, z⟩ := Z.last
  refine F.ok scIsState (fun vs H Q E h => ?_) (fun cdv A outer s H vs Q E hr h => ?_)
  · obtain ⟨v, d, rfl, _⟩ := h
    rfl
  · obtain ⟨v, d, rfl, hd, q⟩ := h
    refine ⟨_, pss_one (ps_ret (pe_call GB hr rfl B.g B.F.kp B.b .nil pass0 (pa_cons (pv 0) (pa_cons pe_int (pa_cons (pe_glob (v := .int 7) rfl z ⟨_, rfl⟩) pa_nil))))), ?_⟩
    exact ⟨_, rfl, v, d, 0, 7, rfl, hd, q⟩
theorem ok_cycle {f fB : Addr} {fd fdB : FuncData} (F : Fun K "is_cycle" "is_cycle" sCycle f fd) (Z : Cst mg) (B : DefOk K mg "is_between" sBtw ["value", "low", "high"] fB fdB) (GB : FnOk P w K mg base CX0 2 fB fdB ["value", "low", "high"] spBtw) : FnOk P w K mg base CX0 3 f fd ["space"] (spT 2 pCycle) := by
  obtain ⟨t, z⟩ := Z.places
  refine F.ok scCycle (fun vs H Q E h => ?_) (fun cdv A outer s H vs Q E hr h => ?_)
  · obtain ⟨a, xs, ds, rfl, _⟩ := h
    rfl
  · obtain ⟨a, xs, ds, rfl, ha, hx, hl, q⟩ := h
    obtain ⟨x1, g1, td⟩ := hx.at (j := 1) (List.getElem?_eq_getElem (by omega))
    refine ⟨_, pss_one (ps_ret (pe_call GB hr rfl B.g B.F.kp B.b .nil pass0 (pa_cons (pe_ix ix_tup (pv 0) pe_int (fun _ _ => rfl)) (pa_cons pe_int (pa_cons (pe_glob (v := .int 400) rfl z ⟨_, rfl⟩) pa_nil))))), ?_⟩
    refine ⟨_, rfl, a, _, _, _, rfl, rfl, SqT.of ha, atI_nat (j := 1) g1, x1, _, 1, 400, rfl, td, fun H' S => ?_⟩
    have q' := q H' S
    unfold pCycle at q'
    rw [at_of (List.getElem?_eq_getElem (by omega))] at q'
    exact q'
theorem ok_subset {f fB : Addr} {fd fdB : FuncData} (F : Fun K "is_subset" "is_subset" sSubset f fd) (Z : Cst mg) (B : DefOk K mg "is_between" sBtw ["value", "low", "high"] fB fdB) (GB : FnOk P w K mg base CX0 2 fB fdB ["value", "low", "high"] spBtw) : FnOk P w K mg base CX0 3 f fd ["space"] (spT 3 pSubset) := by
  obtain ⟨t, z⟩ := Z.places
  refine F.ok scSubset (fun vs H Q E h => ?_) (fun cdv A outer s H vs Q E hr h => ?_)
  · obtain ⟨a, xs, ds, rfl, _⟩ := h
    rfl
  · obtain ⟨a, xs, ds, rfl, ha, hx, hl, q⟩ := h
    match ds, hl, hx with
    | [d0, d1, d2], _, .cons (v := x0) t0 (.cons (v := x1) t1 (.cons (v := x2) t2 .nil)) =>
      refine ⟨_, pss_cons (ps_asg (pe_slice sl_tupA (pv 0) (po_some pe_int) po_none) (pg_tup rfl (pgs_cons (pg_name (i := 1) scSubset.nd rfl (Or.inl rfl)) (pgs_cons (pg_name (i := 2) scSubset.nd rfl (Or.inl rfl)) pgs_nil))))
        (pss_one (ps_ret (pe_and (pe_call GB hr rfl B.g B.F.kp B.b .nil pass0 (pa_cons (pv 1) (pa_cons pe_int (pa_cons (pe_glob (v := .int 400) rfl z ⟨_, rfl⟩) pa_nil))))
          (pe_one (pe_call GB hr rfl B.g B.F.kp B.b .nil pass0 (pa_cons (pv 2) (pa_cons pe_int (pa_cons (pv 1) pa_nil)))))))), ?_⟩
      refine ⟨_, rfl, 1, rfl, ?_⟩
      dsimp only [tNoPart]
      refine slA_of ha fun b Hb Sb hb => ?_
      refine ⟨b, [x1, x2], rfl, SqT.of hb, rfl, _, _, rfl, _, _, rfl, rfl, ?_⟩
      refine ⟨_, rfl, x1, d1, 0, 400, rfl, t1.same Sb, fun H' S => ⟨_, rfl, ?_⟩⟩
      have q' := q H' (Sb.trans S)
      have e : pSubset [d0, d1, d2] = (btw 0 400 d1 && btw 0 (intOf d1) d2) := rfl
      rw [e] at q'
      cases h : btw 0 400 d1 with
      | true =>
        obtain ⟨i, rfl, _, _⟩ := btw_int h
        cases t1
        refine if_t rfl ⟨_, rfl, _, rfl, x2, d2, 0, i, rfl, (t2.same Sb).same S, fun H2 S2 => ?_⟩
        have q2 := q H2 ((Sb.trans S).trans S2)
        rw [e, h] at q2
        exact q2
      | false =>
        rw [h] at q'
        exact if_f rfl q'
end
end K2
set_option maxRecDepth 100000
set_option maxHeartbeats 4000000
namespace K2
open PySem PySem.Spec PyProof.Rows L2
theorem cutK (k : Nat) (xs : List V) : cutV xs (some (k : Int)) none = xs.drop k := by
  unfold cutV
  have e1 : HT.sIx xs.length 0 (some (k : Int)) = min k xs.length := HT.sIx_nat xs.length 0 k
  have e2 : HT.sIx xs.length xs.length none = xs.length := HT.sIx_none _ _
  rw [e1, e2]
  by_cases h : k ≤ xs.length
  · rw [show min k xs.length = k by omega]
    exact List.take_of_length_le (by rw [List.length_drop]; omega)
  · rw [show min k xs.length = xs.length by omega, List.drop_of_length_le (Nat.le_refl xs.length), List.drop_of_length_le (by omega)]
    exact List.take_nil
/-- t[k:] -/
theorem slK_of {K : PySem.W.Frag} {H : Hp} {a : Addr} {xs : List V} {Q : VK} (k : Nat) (ha : H a = some (.tup xs)) (hq : ∀ (b : Addr) (Hb : Hp), Same H Hb → Hb b = some (.tup (xs.drop k)) → Q (.ref b) Hb) : rSlA K (.ref a) (some (k : Int)) none H Q := by
  refine ⟨a, xs, rfl, SqT.of ha, fun z => ?_, fun _ p np => ?_⟩
  · have e1 : HT.sIx xs.length 0 (some (k : Int)) = min k xs.length := HT.sIx_nat xs.length 0 k
    have e2 : min k xs.length = 0 := e1.symm.trans z.1
    refine hq a H (fun _ _ e => e) ?_
    by_cases h0 : k = 0
    · rw [h0]
      exact ha
    · have e3 : xs = [] := List.eq_nil_of_length_eq_zero (by omega)
      rw [e3] at ha ⊢
      rw [List.drop_nil]
      exact ha
  · rw [cutK]
    exact hq p _ (same_new np) upd_same
theorem DatAll.drop {H : Hp} : ∀ (k : Nat) {xs : List V} {ds : List PyData}, DatAll H xs ds → DatAll H (xs.drop k) (ds.drop k)
  | 0, _, _, h => h
  | _ + 1, _, _, .nil => .nil
  | k + 1, _, _, .cons _ t => DatAll.drop k t
/-! ints can be compared -/
theorem asc_ints {ds : List PyData} (h : ∀ d ∈ ds, ∃ i, d = .int i) : AscOk ds := fun i hi => by
  have g : ∀ j, j < ds.length → ∃ z, ds.getD j .none = .int z := fun j hj => by
    obtain ⟨z, e⟩ := h ds[j] (List.getElem_mem hj)
    exact ⟨z, by rw [List.getD_eq_getElem?_getD, List.getElem?_eq_getElem hj]; exact e⟩
  obtain ⟨x, ex⟩ := g i (by omega)
  obtain ⟨y, ey⟩ := g (i + 1) hi
  rw [ex, ey]
  exact ⟨by simp [PySem.W.alike], by simp, by simp [PyData.depth]⟩
theorem asc_strs {ds : List PyData} (h : ∀ d ∈ ds, ∃ s, d = .str s) : AscOk ds := fun i hi => by
  have g : ∀ j, j < ds.length → ∃ z, ds.getD j .none = .str z := fun j hj => by
    obtain ⟨z, e⟩ := h ds[j] (List.getElem_mem hj)
    exact ⟨z, by rw [List.getD_eq_getElem?_getD, List.getElem?_eq_getElem hj]; exact e⟩
  obtain ⟨x, ex⟩ := g i (by omega)
  obtain ⟨y, ey⟩ := g (i + 1) hi
  rw [ex, ey]
  exact ⟨by simp [PySem.W.alike], by simp, by simp [PyData.depth]⟩
theorem all_btw {lo hi : Int} {ds : List PyData} (h : ds.all (btw lo hi) = true) : ∀ d ∈ ds, ∃ i, d = .int i := fun d hd => by
  obtain ⟨i, e, _⟩ := btw_int (List.all_eq_true.mp h d hd)
  exact ⟨i, e⟩
def pTree (ds : List PyData) : Bool := btw 1 400 (at0 ds 1)
def tupItems : PyData → List PyData
  | .tuple ds => ds
  | _ => []
def pWalk (ds : List PyData) : Bool := (ds.drop 2).all (btw (-60) 60) && (btw 0 60 (at0 ds 1) && (decide (intOf (at0 ds 4) ≤ intOf (at0 ds 2)) && decide (intOf (at0 ds 2) ≤ intOf (at0 ds 5)) && (decide (intOf (at0 ds 4) ≤ intOf (at0 ds 3)) && decide (intOf (at0 ds 3) ≤ intOf (at0 ds 5)))))
def pPerm (ds : List PyData) : Bool := btw 0 60 (at0 ds 1) && tupOf 0 (intOf (at0 ds 1)) (at0 ds 2) && ((tupItems (at0 ds 2)).all (btw 0 (intOf (at0 ds 1) - 1)) && ascB (tupItems (at0 ds 2)))
def statesB (d : PyData) : Bool := tupOf 0 8 d && ((tupItems d).all (btw 0 7) && ascB (tupItems d))
def countB (d : PyData) : Bool := tupOf 2 2 d && (nameB (at0 (tupItems d) 0) && btw 1 400 (at0 (tupItems d) 1))
def moveB (d : PyData) : Bool := tupOf 3 3 d && (btw 0 7 (at0 (tupItems d) 0) && (nameB (at0 (tupItems d) 1) && btw 0 7 (at0 (tupItems d) 2)))
theorem tupOf_len {lo hi : Int} {d : PyData} (h : tupOf lo hi d = true) : ∃ ds, d = .tuple ds ∧ lo ≤ (ds.length : Int) ∧ (ds.length : Int) ≤ hi := by
  cases d with
  | tuple ds =>
    have h' : (decide (lo ≤ (ds.length : Int)) && decide ((ds.length : Int) ≤ hi)) = true := h
    rw [Bool.and_eq_true] at h'
    exact ⟨ds, rfl, of_decide_eq_true h'.1, of_decide_eq_true h'.2⟩
  | _ => cases h
section
variable {P : Program} {w : World} {K : PySem.W.Frag} {mg : Str → Option Value} {base : Heap}
/-- what is known of is_between, is_tuple, is_name, is_ascending -/
structure Pre (P : Program) (w : World) (K : PySem.W.Frag) (mg : Str → Option Value) (base : Heap) where
  (fB fT fN fA : Addr)
  (dB dT dN dA : FuncData)
  B : DefOk K mg "is_between" sBtw ["value", "low", "high"] fB dB
  T : DefOk K mg "is_tuple" sTup ["value", "least", "most"] fT dT
  N : DefOk K mg "is_name" sName ["value"] fN dN
  A : DefOk K mg "is_ascending" sAsc ["items"] fA dA
  GB : FnOk P w K mg base CX0 2 fB dB ["value", "low", "high"] spBtw
  GT : FnOk P w K mg base CX0 1 fT dT ["value", "least", "most"] spTup
  GN : FnOk P w K mg base CX0 1 fN dN ["value"] (spP nameB)
  GA : FnOk P w K mg base CX0 1 fA dA ["items"] (fun vs H Q E => spAsc vs H Q E ∧ ∀ a xs, (H a = some (.lst xs) ∨ H a = some (.tup xs)) → vs = [.ref a] → xs.length < 1000000)
  nm : Nm mg
  z : Cst mg
theorem ok_matching {f : Addr} {fd : FuncData} (F : Fun K "is_matching" "is_matching" sMatching f fd) (Y : Pre P w K mg base) : FnOk P w K mg base CX0 3 f fd ["space"] (spT 2 pMatching) := by
  obtain ⟨t, z⟩ := Y.z.pairs
  refine F.ok scMatching (fun vs H Q E h => ?_) (fun cdv A outer s H vs Q E hr h => ?_)
  · obtain ⟨a, xs, ds, rfl, _⟩ := h
    rfl
  · obtain ⟨a, xs, ds, rfl, ha, hx, hl, q⟩ := h
    obtain ⟨x1, g1, td⟩ := hx.at (j := 1) (List.getElem?_eq_getElem (by omega))
    refine ⟨_, pss_one (ps_ret (pe_call Y.GB hr rfl Y.B.g Y.B.F.kp Y.B.b .nil pass0 (pa_cons (pe_ix ix_tup (pv 0) pe_int (fun _ _ => rfl)) (pa_cons pe_int (pa_cons (pe_glob (v := .int 200) rfl z ⟨_, rfl⟩) pa_nil))))), ?_⟩
    refine ⟨_, rfl, a, _, _, _, rfl, rfl, SqT.of ha, atI_nat (j := 1) g1, x1, _, 0, 200, rfl, td, fun H' S => ?_⟩
    have q' := q H' S
    unfold pMatching at q'
    rw [at_of (List.getElem?_eq_getElem (by omega))] at q'
    exact q'
theorem ok_tree {f : Addr} {fd : FuncData} (F : Fun K "is_tree" "is_tree" sTree f fd) (Y : Pre P w K mg base) : FnOk P w K mg base CX0 3 f fd ["space"] (spT 2 pTree) := by
  obtain ⟨t, z⟩ := Y.z.places
  refine F.ok scTree (fun vs H Q E h => ?_) (fun cdv A outer s H vs Q E hr h => ?_)
  · obtain ⟨a, xs, ds, rfl, _⟩ := h
    rfl
  · obtain ⟨a, xs, ds, rfl, ha, hx, hl, q⟩ := h
    obtain ⟨x1, g1, td⟩ := hx.at (j := 1) (List.getElem?_eq_getElem (by omega))
    refine ⟨_, pss_one (ps_ret (pe_call Y.GB hr rfl Y.B.g Y.B.F.kp Y.B.b .nil pass0 (pa_cons (pe_ix ix_tup (pv 0) pe_int (fun _ _ => rfl)) (pa_cons pe_int (pa_cons (pe_glob (v := .int 400) rfl z ⟨_, rfl⟩) pa_nil))))), ?_⟩
    refine ⟨_, rfl, a, _, _, _, rfl, rfl, SqT.of ha, atI_nat (j := 1) g1, x1, _, 1, 400, rfl, td, fun H' S => ?_⟩
    have q' := q H' S
    unfold pTree at q'
    rw [at_of (List.getElem?_eq_getElem (by omega))] at q'
    exact q'
theorem ok_power {f : Addr} {fd : FuncData} (F : Fun K "is_power" "is_power" sPower f fd) (Y : Pre P w K mg base) : FnOk P w K mg base CX0 3 f fd ["space"] (spT 3 pPower) := by
  obtain ⟨t, z⟩ := Y.z.places
  refine F.ok scPower (fun vs H Q E h => ?_) (fun cdv A outer s H vs Q E hr h => ?_)
  · obtain ⟨a, xs, ds, rfl, _⟩ := h
    rfl
  · obtain ⟨a, xs, ds, rfl, ha, hx, hl, q⟩ := h
    obtain ⟨x1, g1, td⟩ := hx.at (j := 1) (List.getElem?_eq_getElem (by omega))
    refine ⟨_, pss_one (ps_ret (pe_call Y.GB hr rfl Y.B.g Y.B.F.kp Y.B.b .nil pass0 (pa_cons (pe_ix ix_tup (pv 0) pe_int (fun _ _ => rfl)) (pa_cons pe_int (pa_cons (pe_glob (v := .int 400) rfl z ⟨_, rfl⟩) pa_nil))))), ?_⟩
    refine ⟨_, rfl, a, _, _, _, rfl, rfl, SqT.of ha, atI_nat (j := 1) g1, x1, _, 0, 400, rfl, td, fun H' S => ?_⟩
    have q' := q H' S
    unfold pPower at q'
    rw [at_of (List.getElem?_eq_getElem (by omega))] at q'
    exact q'
theorem ok_row {f : Addr} {fd : FuncData} (F : Fun K "is_row" "is_row" sRow f fd) (Y : Pre P w K mg base) : FnOk P w K mg base CX0 2 f fd ["space"] (spT 2 pRow) := by
  obtain ⟨t, z⟩ := Y.z.nested
  refine F.ok scRow (fun vs H Q E h => ?_) (fun cdv A outer s H vs Q E hr h => ?_)
  · obtain ⟨a, xs, ds, rfl, _⟩ := h
    rfl
  · obtain ⟨a, xs, ds, rfl, ha, hx, hl, q⟩ := h
    obtain ⟨x1, g1, td⟩ := hx.at (j := 1) (List.getElem?_eq_getElem (by omega))
    refine ⟨_, pss_one (ps_ret (pe_call Y.GT hr rfl Y.T.g Y.T.F.kp Y.T.b .nil pass0 (pa_cons (pe_ix ix_tup (pv 0) pe_int (fun _ _ => rfl)) (pa_cons pe_int (pa_cons (pe_glob (v := .int 6) rfl z ⟨_, rfl⟩) pa_nil))))), ?_⟩
    refine ⟨_, rfl, a, _, _, _, rfl, rfl, SqT.of ha, atI_nat (j := 1) g1, x1, _, 1, 6, rfl, td, fun H' S => ?_⟩
    have q' := q H' S
    unfold pRow at q'
    rw [at_of (List.getElem?_eq_getElem (by omega))] at q'
    exact q'
theorem scWalk : FnScope ["space", "n", "start", "end", "low", "high", "height"] ["space"] (defScope sWalk) := ⟨rfl, rfl, rfl, by decide +kernel, rfl, by decide +kernel, by decide +kernel⟩
theorem scPerm : FnScope ["space", "n", "moved", "place"] ["space"] (defScope sPerm) := ⟨rfl, rfl, rfl, by decide +kernel, rfl, by decide +kernel, by decide +kernel⟩
theorem scStates : FnScope ["value", "state"] ["value"] (defScope sAreStates) := ⟨rfl, rfl, rfl, by decide +kernel, rfl, by decide +kernel, by decide +kernel⟩
theorem scCount : FnScope ["pair"] ["pair"] (defScope sIsCount) := ⟨rfl, rfl, rfl, by decide +kernel, rfl, by decide +kernel, by decide +kernel⟩
theorem scMove : FnScope ["move", "state", "letter", "reached"] ["move"] (defScope sIsMove) := ⟨rfl, rfl, rfl, by decide +kernel, rfl, by decide +kernel, by decide +kernel⟩
theorem dat_int {H : Hp} {v : V} {i : Int} (h : Dat H v (.int i)) : v = .int i := by
  cases h
  rfl
theorem ok_walk {f : Addr} {fd : FuncData} (F : Fun K "is_walk" "is_walk" sWalk f fd) (Y : Pre P w K mg base) : FnOk P w K mg base CX0 3 f fd ["space"] (spT 6 pWalk) := by
  obtain ⟨t, z⟩ := Y.z.highest
  obtain ⟨t2, z2⟩ := Y.z.steps
  refine F.ok scWalk (fun vs H Q E h => ?_) (fun cdv A outer s H vs Q E hr h => ?_)
  · obtain ⟨a, xs, ds, rfl, _⟩ := h
    rfl
  · obtain ⟨a, xs, ds, rfl, ha, hx, hl, q⟩ := h
    match ds, hl, hx with
    | [d0, d1, d2, d3, d4, d5], _, .cons (v := x0) c0 (.cons (v := x1) c1 (.cons (v := x2) c2 (.cons (v := x3) c3 (.cons (v := x4) c4 (.cons (v := x5) c5 .nil))))) =>
      refine ⟨_, pss_cons (ps_asg (pe_slice sl_tupA (pv 0) (po_some pe_int) po_none) (pg_tup rfl (pgs_cons (pg_name (i := 1) scWalk.nd rfl (Or.inl rfl)) (pgs_cons (pg_name (i := 2) scWalk.nd rfl (Or.inl rfl)) (pgs_cons (pg_name (i := 3) scWalk.nd rfl (Or.inl rfl)) (pgs_cons (pg_name (i := 4) scWalk.nd rfl (Or.inl rfl)) (pgs_cons (pg_name (i := 5) scWalk.nd rfl (Or.inl rfl)) pgs_nil)))))))
        (pss_cons (ps_if (pt_not (pt_val (pe_callB (cr_all rfl) (by rfl) Y.nm.all boot_all (pa_cons (pe_lc (own := [("height", 6)]) (g := gName 6) (tt := tYes) rfl scWalk.nd (pi_tup (pe_slice sl_tupA (pv 0) (po_some pe_int) po_none)) (blkOk_by (N := ["space", "n", "start", "end", "low", "high", "height"]) (sc := defScope sWalk) (by decide +kernel))
            (fun _ _ _ _ _ => pg_name (i := 6) scWalk.nd rfl (Or.inl rfl)) (fun _ _ _ _ _ => pts_nil) (fun _ _ _ _ _ => pe_call Y.GB hr rfl Y.B.g Y.B.F.kp Y.B.b .nil pass0 (pa_cons (pv 6) (pa_cons (pe_un un_neg (pe_glob (v := .int 60) rfl z ⟨_, rfl⟩)) (pa_cons (pe_glob (v := .int 60) rfl z ⟨_, rfl⟩) pa_nil))))) pa_nil)))) (pss_one (ps_ret pe_bl)) pss_nil)
        (pss_one (ps_ret (pe_and (pe_call Y.GB hr rfl Y.B.g Y.B.F.kp Y.B.b .nil pass0 (pa_cons (pv 1) (pa_cons pe_int (pa_cons (pe_glob (v := .int 60) rfl z2 ⟨_, rfl⟩) pa_nil)))) (pe_and (pe_chain op_le op_le (pv 4) (pv 2) (pv 5)) (pe_one (pe_chain op_le op_le (pv 4) (pv 3) (pv 5)))))))), ?_⟩
      refine ⟨_, rfl, 1, rfl, ?_⟩
      dsimp only [tNoPart]
      refine slK_of 1 ha fun b Hb Sb hb => ?_
      refine ⟨b, [x1, x2, x3, x4, x5], rfl, SqT.of hb, rfl, _, _, rfl, _, _, rfl, _, _, rfl, _, _, rfl, _, _, rfl, rfl, ?_⟩
      refine ⟨_, rfl, 2, rfl, ?_⟩
      dsimp only [tNoPart]
      refine slK_of 2 (Sb _ _ ha) fun b2 Hc Sc hc => ?_
      have S2 := Sb.trans Sc
      have hx2 : DatAll Hc [x2, x3, x4, x5] [d2, d3, d4, d5] := .cons (c2.same S2) (.cons (c3.same S2) (.cons (c4.same S2) (.cons (c5.same S2) .nil)))
      refine ⟨b2, rfl, ⟨_, SqT.of hc⟩, fun D nD => lc_all (K := K) (a := b2) (xs := [x2, x3, x4, x5]) (ds := [d2, d3, d4, d5]) (btw (-60) 60) hc hx2 (show 4 ≤ 1000000 by decide) nD (fun i x d Hx hi hdi td S R hR => ⟨rfl, _, rfl, _, rfl, x, d, -60, 60, rfl, td, hR⟩) mono_name fun Hx S hD => ?_⟩
      refine ⟨D, [d2, d3, d4, d5].map (btw (-60) 60), rfl, SqL.of hD, _, rfl, ?_⟩
      have S3 := S2.trans S
      have eAll : ([d2, d3, d4, d5].map (btw (-60) 60)).all id = [d2, d3, d4, d5].all (btw (-60) 60) := by
        rw [List.all_map]
        rfl
      rw [eAll]
      have e : pWalk [d0, d1, d2, d3, d4, d5] = ([d2, d3, d4, d5].all (btw (-60) 60) && (btw 0 60 d1 && (decide (intOf d4 ≤ intOf d2) && decide (intOf d2 ≤ intOf d5) && (decide (intOf d4 ≤ intOf d3) && decide (intOf d3 ≤ intOf d5))))) := rfl
      rw [e] at q
      cases h : [d2, d3, d4, d5].all (btw (-60) 60) with
      | false =>
        rw [h] at q
        exact if_t rfl (q Hx S3)
      | true =>
        rw [h] at q
        obtain ⟨i2, r2⟩ := all_btw h d2 (by simp)
        obtain ⟨i3, r3⟩ := all_btw h d3 (by simp)
        obtain ⟨i4, r4⟩ := all_btw h d4 (by simp)
        obtain ⟨i5, r5⟩ := all_btw h d5 (by simp)
        subst r2 r3 r4 r5
        obtain rfl := dat_int c2
        obtain rfl := dat_int c3
        obtain rfl := dat_int c4
        obtain rfl := dat_int c5
        refine if_f rfl ⟨_, rfl, x1, d1, 0, 60, rfl, c1.same S3, fun H4 S4 => ⟨_, rfl, ?_⟩⟩
        have q4 := q H4 (S3.trans S4)
        cases h1 : btw 0 60 d1 with
        | false =>
          rw [h1] at q4
          exact if_f rfl q4
        | true =>
          rw [h1] at q4
          have q5 : Q (.bl (decide (i4 ≤ i2) && decide (i2 ≤ i5) && (decide (i4 ≤ i3) && decide (i3 ≤ i5)))) H4 := q4
          refine if_t rfl ⟨_, rfl, _, rfl, _, _, rfl, rfl, _, rfl, ?_⟩
          by_cases k1 : i4 ≤ i2
          · rw [decide_eq_true k1] at q5 ⊢
            refine if_t rfl ⟨_, rfl, _, _, rfl, rfl, _, rfl, ?_⟩
            by_cases k2 : i2 ≤ i5
            · rw [decide_eq_true k2] at q5 ⊢
              refine if_t rfl ⟨_, rfl, _, rfl, _, _, rfl, rfl, _, rfl, ?_⟩
              by_cases k3 : i4 ≤ i3
              · rw [decide_eq_true k3] at q5 ⊢
                exact if_t rfl ⟨_, rfl, _, _, rfl, rfl, q5⟩
              · rw [decide_eq_false k3] at q5 ⊢
                exact if_f rfl q5
            · rw [decide_eq_false k2] at q5 ⊢
              exact if_f rfl q5
          · rw [decide_eq_false k1] at q5 ⊢
            exact if_f rfl ⟨_, rfl, if_f rfl q5⟩
end
end K2
set_option maxRecDepth 100000
set_option maxHeartbeats 4000000
namespace K2
open PySem PySem.Spec PyProof.Rows L2
section
variable {P : Program} {w : World} {K : PySem.W.Frag} {mg : Str → Option Value} {base : Heap}
/-- as for Pre.GA: a tuple that is short -/
theorem asc_tup {H : Hp} {a : Addr} {xs : List V} {ds : List PyData} {Q : VK} {E : XK} (ha : H a = some (.tup xs)) (hx : DatAll H xs ds) (hz : xs.length < 1000000) (ok : AscOk ds) (q : ∀ H', Same H H' → Q (.bl (ascB ds)) H') :
    spAsc [.ref a] H Q E ∧ ∀ b ys, (H b = some (.lst ys) ∨ H b = some (.tup ys)) → ([V.ref a] : List V) = [.ref b] → ys.length < 1000000 := by
  refine ⟨⟨a, xs, ds, rfl, .inr ha, hx, ok, q⟩, fun b ys h e => ?_⟩
  injection e with e _
  injection e with e
  subst e
  rw [ha] at h
  rcases h with h | h
  · cases h
  · cases h
    exact hz
theorem asc_lst {H : Hp} {a : Addr} {xs : List V} {ds : List PyData} {Q : VK} {E : XK} (ha : H a = some (.lst xs)) (hx : DatAll H xs ds) (hz : xs.length < 1000000) (ok : AscOk ds) (q : ∀ H', Same H H' → Q (.bl (ascB ds)) H') :
    spAsc [.ref a] H Q E ∧ ∀ b ys, (H b = some (.lst ys) ∨ H b = some (.tup ys)) → ([V.ref a] : List V) = [.ref b] → ys.length < 1000000 := by
  refine ⟨⟨a, xs, ds, rfl, .inl ha, hx, ok, q⟩, fun b ys h e => ?_⟩
  injection e with e _
  injection e with e
  subst e
  rw [ha] at h
  rcases h with h | h
  · cases h
    exact hz
  · cases h
theorem ok_states {f fS : Addr} {fd fdS : FuncData} (F : Fun K "are_states" "are_states" sAreStates f fd) (Y : Pre P w K mg base) (St : DefOk K mg "is_state" sIsState ["value"] fS fdS) (GS : FnOk P w K mg base CX0 3 fS fdS ["value"] (spP (btw 0 7))) : FnOk P w K mg base CX0 4 f fd ["value"] (spP statesB) := by
  obtain ⟨t, z⟩ := Y.z.last
  refine F.ok scStates (fun vs H Q E h => ?_) (fun cdv A outer s H vs Q E hr h => ?_)
  · obtain ⟨v, d, rfl, _⟩ := h
    rfl
  · obtain ⟨v, d, rfl, hd, q⟩ := h
    have hr1 : Room 1 _ := hr.mono (by decide)
    refine ⟨_, pss_cons (ps_if (pt_not (pt_val (pe_call Y.GT hr1 rfl Y.T.g Y.T.F.kp Y.T.b .nil pass0 (pa_cons (pv 0) (pa_cons pe_int (pa_cons (pe_op op_add (pe_glob (v := .int 7) rfl z ⟨_, rfl⟩) pe_int) pa_nil)))))) (pss_one (ps_ret pe_bl)) pss_nil)
      (pss_one (ps_ret (pe_and (pe_callB (cr_all rfl) (by rfl) Y.nm.all boot_all (pa_cons (pe_lc (own := [("state", 1)]) (g := gName 1) (tt := tYes) rfl scStates.nd (pi_tup (pv 0)) (blkOk_by (N := ["value", "state"]) (sc := defScope sAreStates) (by decide +kernel))
            (fun _ _ _ _ _ => pg_name (i := 1) scStates.nd rfl (Or.inl rfl)) (fun _ _ _ _ _ => pts_nil) (fun _ _ _ _ _ => pe_call GS hr rfl St.g St.F.kp St.b .nil pass0 (pa_cons (pv 1) pa_nil))) pa_nil))
          (pe_one (pe_call Y.GA hr1 rfl Y.A.g Y.A.F.kp Y.A.b .nil pass0 (pa_cons (pv 0) pa_nil)))))), ?_⟩
    refine ⟨_, rfl, _, _, rfl, rfl, v, d, 0, 8, rfl, hd, fun H1 S1 => ⟨_, rfl, ?_⟩⟩
    have q1 := q H1 S1
    unfold statesB at q q1
    cases h : tupOf 0 8 d with
    | false =>
      rw [h] at q1
      exact if_t rfl q1
    | true =>
      rw [h] at q
      obtain ⟨ds, rfl, _, h8⟩ := tupOf_len h
      cases hd with
      | @tup a xs _ ha hx =>
        have hx1 := hx.same S1
        have hl := hx.len
        refine if_f rfl ⟨_, rfl, a, rfl, ⟨_, SqT.of (S1 _ _ ha)⟩, fun D nD => lc_all (K := K) (a := a) (xs := xs) (ds := ds) (btw 0 7) (S1 _ _ ha) hx1 (by omega) nD (fun i x d Hx hi hdi td S R hR => ⟨rfl, _, rfl, x, d, rfl, td, hR⟩) mono_name fun Hx S hD => ?_⟩
        refine ⟨D, ds.map (btw 0 7), rfl, SqL.of hD, _, rfl, ?_⟩
        have eAll : (ds.map (btw 0 7)).all id = ds.all (btw 0 7) := by
          rw [List.all_map]
          rfl
        rw [eAll]
        have S2 := S1.trans S
        cases h2 : ds.all (btw 0 7) with
        | false =>
          have q2 : Q (.bl (true && (ds.all (btw 0 7) && ascB ds))) Hx := q Hx S2
          rw [h2] at q2
          exact if_f rfl q2
        | true =>
          refine if_t rfl ⟨_, rfl, asc_tup (S2 _ _ ha) (hx.same S2) (by omega) (asc_ints (all_btw h2)) fun H3 S3 => ?_⟩
          have q3 : Q (.bl (true && (ds.all (btw 0 7) && ascB ds))) H3 := q H3 (S2.trans S3)
          rw [h2] at q3
          exact q3
theorem ok_perm {f : Addr} {fd : FuncData} (F : Fun K "is_permutation" "is_permutation" sPerm f fd) (Y : Pre P w K mg base) : FnOk P w K mg base CX0 3 f fd ["space"] (spT 3 pPerm) := by
  obtain ⟨t, z⟩ := Y.z.steps
  refine F.ok scPerm (fun vs H Q E h => ?_) (fun cdv A outer s H vs Q E hr h => ?_)
  · obtain ⟨a, xs, ds, rfl, _⟩ := h
    rfl
  · obtain ⟨a, xs, ds, rfl, ha, hx, hl, q⟩ := h
    have hr1 : Room 1 _ := hr.mono (by decide)
    match ds, hl, hx with
    | [d0, d1, d2], _, .cons (v := x0) c0 (.cons (v := x1) c1 (.cons (v := x2) c2 .nil)) =>
      refine ⟨_, pss_cons (ps_asg (pe_slice sl_tupA (pv 0) (po_some pe_int) po_none) (pg_tup rfl (pgs_cons (pg_name (i := 1) scPerm.nd rfl (Or.inr rfl)) (pgs_cons (pg_name (i := 2) scPerm.nd rfl (Or.inl rfl)) pgs_nil))))
        (pss_cons (ps_if (PW.pt (pw_or (pt_not (pt_val (pe_call Y.GB hr rfl Y.B.g Y.B.F.kp Y.B.b .nil pass0 (pa_cons (pv 1) (pa_cons pe_int (pa_cons (pe_glob (v := .int 60) rfl z ⟨_, rfl⟩) pa_nil))))))
            (pw_or1 (pt_not (pt_val (pe_call Y.GT hr1 rfl Y.T.g Y.T.F.kp Y.T.b .nil pass0 (pa_cons (pv 2) (pa_cons pe_int (pa_cons (pv 1) pa_nil))))))))) (pss_one (ps_ret pe_bl)) pss_nil)
        (pss_one (ps_ret (pe_and (pe_callB (cr_all rfl) (by rfl) Y.nm.all boot_all (pa_cons (pe_lc (own := [("place", 3)]) (g := gName 3) (tt := tYes) rfl scPerm.nd (pi_tup (pv 2)) (blkOk_by (N := ["space", "n", "moved", "place"]) (sc := defScope sPerm) (by decide +kernel))
            (fun _ _ _ _ _ => pg_name (i := 3) scPerm.nd rfl (Or.inl rfl)) (fun _ _ _ _ _ => pts_nil) (fun _ _ _ _ _ => pe_call Y.GB hr rfl Y.B.g Y.B.F.kp Y.B.b .nil pass0 (pa_cons (pv 3) (pa_cons pe_int (pa_cons (pe_op op_sub (pv 1) pe_int) pa_nil))))) pa_nil))
          (pe_one (pe_call Y.GA hr1 rfl Y.A.g Y.A.F.kp Y.A.b .nil pass0 (pa_cons (pv 2) pa_nil))))))), ?_⟩
      refine ⟨_, rfl, 1, rfl, ?_⟩
      dsimp only [tNoPart]
      refine slK_of 1 ha fun b Hb Sb hb => ?_
      refine ⟨b, [x1, x2], rfl, SqT.of hb, rfl, _, _, rfl, _, _, rfl, rfl, ?_⟩
      have e : pPerm [d0, d1, d2] = (btw 0 60 d1 && tupOf 0 (intOf d1) d2 && ((tupItems d2).all (btw 0 (intOf d1 - 1)) && ascB (tupItems d2))) := rfl
      rw [e] at q
      refine ⟨_, rfl, x1, d1, 0, 60, rfl, c1.same Sb, fun H1 S1 => ⟨_, rfl, ?_⟩⟩
      have T1 := Sb.trans S1
      cases h1 : btw 0 60 d1 with
      | false =>
        have q1 := q H1 T1
        rw [h1] at q1
        exact if_t rfl (if_t rfl q1)
      | true =>
        rw [h1] at q
        obtain ⟨n, rfl, n0, n60⟩ := btw_int h1
        obtain rfl := dat_int c1
        refine if_f rfl ⟨_, rfl, _, rfl, x2, d2, 0, n, rfl, c2.same T1, fun H2 S2 => ⟨_, rfl, ?_⟩⟩
        have T2 := T1.trans S2
        have q2 : ∀ H', Same H H' → Q (.bl (true && tupOf 0 n d2 && ((tupItems d2).all (btw 0 (n - 1)) && ascB (tupItems d2)))) H' := q
        cases h2 : tupOf 0 n d2 with
        | false =>
          have q3 := q2 H2 T2
          rw [h2] at q3
          exact if_t rfl q3
        | true =>
          rw [h2] at q2
          obtain ⟨ds, rfl, _, hn⟩ := tupOf_len h2
          cases c2 with
          | @tup a2 ys _ ha2 hx2 =>
            have hy2 := hx2.same T2
            have hl2 := hx2.len
            refine if_f rfl ⟨_, rfl, a2, rfl, ⟨_, SqT.of (T2 _ _ ha2)⟩, fun D nD => lc_all (K := K) (a := a2) (xs := ys) (ds := ds) (btw 0 (n - 1)) (T2 _ _ ha2) hy2 (by omega) nD (fun i x d Hx hi hdi td S R hR => ⟨rfl, _, rfl, _, rfl, _, _, rfl, rfl, x, d, 0, n - 1, rfl, td, hR⟩) mono_name fun Hx S hD => ?_⟩
            refine ⟨D, ds.map (btw 0 (n - 1)), rfl, SqL.of hD, _, rfl, ?_⟩
            have eAll : (ds.map (btw 0 (n - 1))).all id = ds.all (btw 0 (n - 1)) := by
              rw [List.all_map]
              rfl
            rw [eAll]
            have T3 := T2.trans S
            have q4 : ∀ H', Same H H' → Q (.bl (true && (ds.all (btw 0 (n - 1)) && ascB ds))) H' := q2
            cases h3 : ds.all (btw 0 (n - 1)) with
            | false =>
              rw [h3] at q4
              exact if_f rfl (q4 Hx T3)
            | true =>
              rw [h3] at q4
              exact if_t rfl ⟨_, rfl, asc_tup (T3 _ _ ha2) (hx2.same T3) (by omega) (asc_ints (all_btw h3)) fun H4 S4 => q4 H4 (T3.trans S4)⟩
theorem ok_count {f : Addr} {fd : FuncData} (F : Fun K "is_count" "is_count" sIsCount f fd) (Y : Pre P w K mg base) : FnOk P w K mg base CX0 3 f fd ["pair"] (spP countB) := by
  obtain ⟨t, z⟩ := Y.z.places
  refine F.ok scCount (fun vs H Q E h => ?_) (fun cdv A outer s H vs Q E hr h => ?_)
  · obtain ⟨v, d, rfl, _⟩ := h
    rfl
  · obtain ⟨v, d, rfl, hd, q⟩ := h
    have hr1 : Room 1 _ := hr.mono (by decide)
    refine ⟨_, pss_one (ps_ret (pe_and (pe_call Y.GT hr1 rfl Y.T.g Y.T.F.kp Y.T.b .nil pass0 (pa_cons (pv 0) (pa_cons pe_int (pa_cons pe_int pa_nil)))) (pe_and (pe_call Y.GN hr1 rfl Y.N.g Y.N.F.kp Y.N.b .nil pass0 (pa_cons (pe_ix ix_tup (pv 0) pe_int (fun _ _ => rfl)) pa_nil))
      (pe_one (pe_call Y.GB hr rfl Y.B.g Y.B.F.kp Y.B.b .nil pass0 (pa_cons (pe_ix ix_tup (pv 0) pe_int (fun _ _ => rfl)) (pa_cons pe_int (pa_cons (pe_glob (v := .int 400) rfl z ⟨_, rfl⟩) pa_nil)))))))), ?_⟩
    refine ⟨_, rfl, v, d, 2, 2, rfl, hd, fun H1 S1 => ⟨_, rfl, ?_⟩⟩
    unfold countB at q
    cases h : tupOf 2 2 d with
    | false =>
      rw [h] at q
      exact if_f rfl (q H1 S1)
    | true =>
      rw [h] at q
      obtain ⟨ds, rfl, l1, l2⟩ := tupOf_len h
      have hl : ds.length = 2 := by omega
      cases hd with
      | @tup a xs _ ha hx =>
       match ds, hl, hx with
       | [d0, d1], _, .cons (v := x0) c0 (.cons (v := x1) c1 .nil) =>
        refine if_t rfl ⟨_, rfl, a, _, _, _, rfl, rfl, SqT.of (S1 _ _ ha), atI_nat (j := 0) rfl, x0, d0, rfl, c0.same S1, fun H2 S2 => ⟨_, rfl, ?_⟩⟩
        have T2 := S1.trans S2
        have q2 : ∀ H', Same H H' → Q (.bl (true && (nameB d0 && btw 1 400 d1))) H' := q
        cases h2 : nameB d0 with
        | false =>
          rw [h2] at q2
          exact if_f rfl (q2 H2 T2)
        | true =>
          rw [h2] at q2
          exact if_t rfl ⟨_, rfl, a, _, _, _, rfl, rfl, SqT.of (T2 _ _ ha), atI_nat (j := 1) rfl, x1, d1, 1, 400, rfl, c1.same T2, fun H3 S3 => q2 H3 (T2.trans S3)⟩
theorem ok_move {f fS : Addr} {fd fdS : FuncData} (F : Fun K "is_move" "is_move" sIsMove f fd) (Y : Pre P w K mg base) (St : DefOk K mg "is_state" sIsState ["value"] fS fdS) (GS : FnOk P w K mg base CX0 3 fS fdS ["value"] (spP (btw 0 7))) : FnOk P w K mg base CX0 4 f fd ["move"] (spP moveB) := by
  refine F.ok scMove (fun vs H Q E h => ?_) (fun cdv A outer s H vs Q E hr h => ?_)
  · obtain ⟨v, d, rfl, _⟩ := h
    rfl
  · obtain ⟨v, d, rfl, hd, q⟩ := h
    have hr1 : Room 1 _ := hr.mono (by decide)
    refine ⟨_, pss_cons (ps_if (pt_not (pt_val (pe_call Y.GT hr1 rfl Y.T.g Y.T.F.kp Y.T.b .nil pass0 (pa_cons (pv 0) (pa_cons pe_int (pa_cons pe_int pa_nil)))))) (pss_one (ps_ret pe_bl)) pss_nil)
      (pss_cons (ps_asg (pv 0) (pg_tup rfl (pgs_cons (pg_name (i := 1) scMove.nd rfl (Or.inl rfl)) (pgs_cons (pg_name (i := 2) scMove.nd rfl (Or.inl rfl)) (pgs_cons (pg_name (i := 3) scMove.nd rfl (Or.inl rfl)) pgs_nil)))))
      (pss_one (ps_ret (pe_and (pe_call GS hr rfl St.g St.F.kp St.b .nil pass0 (pa_cons (pv 1) pa_nil)) (pe_and (pe_call Y.GN hr1 rfl Y.N.g Y.N.F.kp Y.N.b .nil pass0 (pa_cons (pv 2) pa_nil)) (pe_one (pe_call GS hr rfl St.g St.F.kp St.b .nil pass0 (pa_cons (pv 3) pa_nil)))))))), ?_⟩
    refine ⟨_, rfl, v, d, 3, 3, rfl, hd, fun H1 S1 => ⟨_, rfl, ?_⟩⟩
    unfold moveB at q
    cases h : tupOf 3 3 d with
    | false =>
      rw [h] at q
      exact if_t rfl (q H1 S1)
    | true =>
      rw [h] at q
      obtain ⟨ds, rfl, l1, l2⟩ := tupOf_len h
      have hl : ds.length = 3 := by omega
      cases hd with
      | @tup a xs _ ha hx =>
       match ds, hl, hx with
       | [d0, d1, d2], _, .cons (v := x0) c0 (.cons (v := x1) c1 (.cons (v := x2) c2 .nil)) =>
        refine if_f rfl ⟨_, rfl, a, _, rfl, SqT.of (S1 _ _ ha), rfl, _, _, rfl, _, _, rfl, _, _, rfl, rfl, ?_⟩
        refine ⟨_, rfl, x0, d0, rfl, c0.same S1, fun H2 S2 => ⟨_, rfl, ?_⟩⟩
        have T2 := S1.trans S2
        have q2 : ∀ H', Same H H' → Q (.bl (true && (btw 0 7 d0 && (nameB d1 && btw 0 7 d2)))) H' := q
        cases h2 : btw 0 7 d0 with
        | false =>
          rw [h2] at q2
          exact if_f rfl (q2 H2 T2)
        | true =>
          rw [h2] at q2
          refine if_t rfl ⟨_, rfl, x1, d1, rfl, c1.same T2, fun H3 S3 => ⟨_, rfl, ?_⟩⟩
          have T3 := T2.trans S3
          cases h3 : nameB d1 with
          | false =>
            rw [h3] at q2
            exact if_f rfl (q2 H3 T3)
          | true =>
            rw [h3] at q2
            exact if_t rfl ⟨_, rfl, x2, d2, rfl, c2.same T3, fun H4 S4 => q2 H4 (T3.trans S4)⟩
end
end K2
set_option maxRecDepth 100000
set_option maxHeartbeats 4000000
namespace K2
open PySem PySem.Spec PyProof.Rows
open PySem.AutoSeq1 (wpAny_loadPart')
/-! ### a dict beside a text -/
theorem sub_str_dict : isSubtype (.type "str") (.type "dict") = pure false := by
  rw [isSubtype_type]
  kernel_rfl
theorem sub_dict_str : isSubtype (.type "dict") (.type "str") = pure false := by
  rw [isSubtype_type]
  kernel_rfl
theorem dict_no_str (l : Addr) (dd : Option Addr) (es : Array DictEntry) (ep : Nat) (sl : Array (Option Value)) (b : Str) (u : Tok) :
    Meets (Builtin.«dict.__eq__» ⟨[.ref l, .str b u], []⟩) (fun _ R s => s.heap.get? l = some { cls := .type "dict", dict := dd, data := .dict es ep, slots := sl } ∧ R (.ok (.ret .notImplemented)) s) :=
  .of_wp fun prog w A R s h => by
    obtain ⟨hp, g, d, tk, os⟩ := s
    obtain ⟨hl, h⟩ := h
    have f1 := sub_str_dict
    wp_walk using wpAny_loadPart' hl
    exact ⟨_, rfl, h⟩
theorem str_no_dict (l : Addr) (dd : Option Addr) (es : Array DictEntry) (ep : Nat) (sl : Array (Option Value)) (b : Str) (u : Tok) :
    Meets (Builtin.«str.__eq__» ⟨[.str b u, .ref l], []⟩) (fun _ R s => s.heap.get? l = some { cls := .type "dict", dict := dd, data := .dict es ep, slots := sl } ∧ R (.ok (.ret .notImplemented)) s) :=
  .of_wp fun prog w A R s h => by
    obtain ⟨hp, g, d, tk, os⟩ := s
    obtain ⟨hl, h⟩ := h
    wp_walk using wpAny_loadPart' hl, wpAny_load hl
    exact ⟨_, rfl, h⟩
end K2
namespace PySem.SeqAt
open PySem PyProof.Rows
theorem k2_dict_str {A : Around} {s : Shared} {l : Addr} {dd : Option Addr} {es : Array DictEntry} {ep : Nat} {sl : Array (Option Value)} (b : Str) (u : Tok) (hl : s.heap.get? l = some { cls := .type "dict", dict := dd, data := .dict es ep, slots := sl }) (hu : A.units < cLine) :
    RcAt A s (.ref l) (.str b u) false := fun prog w E Q h =>
  rc_eq_decline_or (k := false) ⟨_, hl, rfl⟩ (typeIs_str s b u) (by decide) K2.sub_str_dict PySem.F.slot_dict_eq F.slot_str_eq_refl
    (fun _ hq => call_meets PySem.F.slot_dict_eq ⟨_, hl, rfl⟩ PySem.F.entry_dict_eq (PySem.F.args_dict_eq_2 _ _) (K2.dict_no_str l dd es ep sl b u) ⟨hl, hq⟩)
    (fun _ hq => call_meets F.slot_str_eq_refl (typeIs_str s b u) F.entry_str_eq (F.args_str_eq_2 _ _) (K2.str_no_dict l dd es ep sl b u) ⟨hl, hq⟩)
    (fun _ hq => wpAny_of_eq (rfl : isSame (.ref l) (.str b u) = pure false) hq) (.inr hu) h
end PySem.SeqAt
namespace K2
open PySem PySem.Spec PyProof.Rows L2
/-- any value beside a text -/
def eqStr (z : Str) : PyData → Bool
  | .str x => x == z
  | _ => false
def rEqStr : R2 := fun x y H Q => ∃ d z, Dat H x d ∧ y = .str z ∧ Q (.bl (eqStr z d)) H
section
variable {X : Cx}
theorem op_eqStr (hu : X.A.units < cLine) : OpR X (compareOp .Eq) rEqStr := by
  intro pins s σ H x y v u Q I rx ry h
  obtain ⟨d, z, hd, rfl, q⟩ := h
  obtain ⟨t, rfl⟩ := ry
  have fin : ∀ k : Bool, k = eqStr z d → EP X pins σ Q (.bool k) s := fun k e => ⟨.bl k, H, I, rfl, by rw [e]; exact q⟩
  cases hd with
  | non =>
    cases rx
    exact PySem.SeqAt.RcAt.none_str z t _ _ _ _ (fin _ rfl)
  | bl b =>
    cases rx
    exact PySem.SeqAt.RcAt.bool_str b z t _ _ _ _ (fin _ rfl)
  | int i =>
    obtain ⟨t2, rfl⟩ := rx
    exact PySem.SeqAt.RcAt.int_str i t2 z t _ _ _ _ (fin _ rfl)
  | str x hx =>
    obtain ⟨t2, rfl⟩ := rx
    exact PySem.SeqAt.RcAt.str_str x t2 z t _ _ _ _ (fin _ rfl)
  | @lst a xs ds ha hx =>
    cases rx
    obtain ⟨its, rv, p, _⟩ := I.list (SqL.of ha)
    exact PySem.SeqAt.RcAt.list_str z t p.isList hu _ _ _ _ (fin _ rfl)
  | @tup a xs ds ha hx =>
    cases rx
    obtain ⟨its, rv, p, _⟩ := I.tuple (SqT.of ha)
    exact PySem.SeqAt.RcAt.tuple_str z t p hu _ _ _ _ (fin _ rfl)
  | @d0 a ha =>
    cases rx
    obtain ⟨_, ns, vs, kv, o, es, ep, ho, hx, hd, hk, hp, _⟩ := (show ObjOk X.prog X.w H s.heap a (.dK []) from I.hok a _ ha)
    obtain ⟨oc, od, dt, sl⟩ := o
    have e1 : oc = .type "dict" := hx.1
    have e2 : dt = .dict es ep := hd
    subst e1 e2
    exact PySem.SeqAt.k2_dict_str z t ho hu _ _ _ _ (fin _ rfl)
end
end K2
set_option maxRecDepth 100000
set_option maxHeartbeats 4000000
namespace PySem.SeqAt
open PySem PyProof.Rows
theorem k2_str_dict {A : Around} {s : Shared} {l : Addr} {dd : Option Addr} {es : Array DictEntry} {ep : Nat} {sl : Array (Option Value)} (b : Str) (u : Tok) (hl : s.heap.get? l = some { cls := .type "dict", dict := dd, data := .dict es ep, slots := sl }) (hu : A.units < cLine) :
    EqAt A s (.str b u) (.ref l) false := fun prog w E Q h => by
  unfold eqBool
  refine wpAny_holding (wpAny_ite_split (fun hab => absurd (eq_of_beq hab) nofun) fun _ => wpAny_bind ?_)
  exact rc_eq_decline_or (k := false) (typeIs_str s b u) ⟨_, hl, rfl⟩ (by decide) K2.sub_dict_str F.slot_str_eq PySem.F.slot_dict_eq_refl
    (fun _ hq => call_meets F.slot_str_eq (typeIs_str s b u) F.entry_str_eq (F.args_str_eq_2 _ _) (K2.str_no_dict l dd es ep sl b u) ⟨hl, hq⟩)
    (fun _ hq => call_meets PySem.F.slot_dict_eq_refl ⟨_, hl, rfl⟩ PySem.F.entry_dict_eq (PySem.F.args_dict_eq_2 _ _) (K2.dict_no_str l dd es ep sl b u) ⟨hl, hq⟩)
    (fun _ hq => wpAny_of_eq (rfl : isSame (.str b u) (.ref l) = pure false) hq) (.inr hu) (wpAny_truthy_bool h)
end PySem.SeqAt
namespace K2
open PySem PySem.Spec PyProof.Rows L2
section
variable {X : Cx}
/-- a text among the items, held against any value -/
theorem str_eqAt {pins : List (Addr × Obj)} {σ : L2.St} {H : Hp} {s : Shared} {x : V} {v : Value} {d : PyData} (I : Inv X pins σ H s) (hd : Dat H x d) (rx : RelV x v) {A : Around} (hu : A.units < cLine) (z : Str) (t : Tok) : SeqAt.EqAt A s (.str z t) v (eqStr z d) := by
  cases hd with
  | non =>
    cases rx
    exact SeqAt.EqAt.str_none z t
  | bl b =>
    cases rx
    exact SeqAt.EqAt.str_bool z t b
  | int i =>
    obtain ⟨t2, rfl⟩ := rx
    exact SeqAt.EqAt.str_int z t i t2
  | str y hy =>
    obtain ⟨t2, rfl⟩ := rx
    have e : eqStr z (.str y) = (z == y) := by
      show (y == z) = (z == y)
      by_cases h : y = z
      · rw [h]
      · rw [beq_eq_false_iff_ne.mpr h, beq_eq_false_iff_ne.mpr (Ne.symm h)]
    rw [e]
    exact SeqAt.EqAt.str_str z t y t2
  | @lst a xs ds ha hx =>
    cases rx
    obtain ⟨its, rv, p, _⟩ := I.list (SqL.of ha)
    exact SeqAt.EqAt.str_list z t p.isList hu
  | @tup a xs ds ha hx =>
    cases rx
    obtain ⟨its, rv, p, _⟩ := I.tuple (SqT.of ha)
    exact SeqAt.EqAt.str_tuple z t p hu
  | @d0 a ha =>
    cases rx
    obtain ⟨_, ns, vs, kv, o, es, ep, ho, hx, hd, hk, hp, _⟩ := (show ObjOk X.prog X.w H s.heap a (.dK []) from I.hok a _ ha)
    obtain ⟨oc, od, dt, sl⟩ := o
    have e1 : oc = .type "dict" := hx.1
    have e2 : dt = .dict es ep := hd
    subst e1 e2
    exact SeqAt.k2_str_dict z t ho hu
/-- x in (texts), x not in (texts) -/
def rInStrs (neg : Bool) : R2 := fun x y H Q => ∃ (d : PyData) (p : Addr) (zs : List Str), Dat H x d ∧ y = .ref p ∧ H p = some (.tup (zs.map V.str)) ∧ Q (.bl (if neg then !zs.any fun z => eqStr z d else zs.any fun z => eqStr z d)) H
def eStr (d : PyData) : Value → Bool
  | .str z _ => eqStr z d
  | _ => false
theorem any_strs {d : PyData} : ∀ {zs : List Str} {its : List Value}, Vals (zs.map V.str) its → its.any (eStr d) = zs.any fun z => eqStr z d
  | [], _, .nil => rfl
  | z :: zs, _, .cons r rs => by
    obtain ⟨t, rfl⟩ := r
    rw [List.any_cons, List.any_cons, any_strs rs]
    rfl
theorem mem_strs {zs : List Str} {its : List Value} (r : Vals (zs.map V.str) its) : ∀ y ∈ its, ∃ z t, y = .str z t := by
  intro y hy
  obtain ⟨i, hi⟩ := List.mem_iff_getElem?.mp hy
  have hl := r.length
  have hlt := (List.getElem?_eq_some_iff.mp hi).1
  obtain ⟨x, hx⟩ : ∃ x, (zs.map V.str)[i]? = some x := ⟨_, List.getElem?_eq_getElem (by omega)⟩
  obtain ⟨u, hu, ru⟩ := r.get hx
  rw [hi] at hu
  cases hu
  rw [List.getElem?_map] at hx
  cases e : zs[i]? with
  | none =>
    rw [e] at hx
    cases hx
  | some z =>
    rw [e] at hx
    cases hx
    obtain ⟨t, rfl⟩ := ru
    exact ⟨z, t, rfl⟩
theorem op_notInStrs (hu : X.A.units + 1 < cLine) : OpR X (compareOp .NotIn) (rInStrs true) := by
  intro pins s σ H x y v u Q I rx ry h
  obtain ⟨d, p, zs, hd, rfl, hp, q⟩ := h
  cases ry
  obtain ⟨its, r, pl, _⟩ := I.tuple (SqT.of hp)
  refine SeqAt.notIn_tupleAt (eStr d) pl (fun w hw => ?_) ⟨.bl _, H, I, rfl, ?_⟩
  · obtain ⟨z, t, rfl⟩ := mem_strs r w (by simpa using hw)
    exact str_eqAt I hd rx hu z t
  · rw [show its.toArray.any (eStr d) = its.any (eStr d) by simp, any_strs r]
    exact q
theorem op_inStrs (hu : X.A.units + 1 < cLine) : OpR X (compareOp .In) (rInStrs false) := by
  intro pins s σ H x y v u Q I rx ry h
  obtain ⟨d, p, zs, hd, rfl, hp, q⟩ := h
  cases ry
  obtain ⟨its, r, pl, _⟩ := I.tuple (SqT.of hp)
  refine SeqAt.in_tupleAt (eStr d) pl (fun w hw => ?_) ⟨.bl _, H, I, rfl, ?_⟩
  · obtain ⟨z, t, rfl⟩ := mem_strs r w (by simpa using hw)
    exact str_eqAt I hd rx hu z t
  · rw [show its.toArray.any (eStr d) = its.any (eStr d) by simp, any_strs r]
    exact q
end
end K2
set_option maxRecDepth 100000
set_option maxHeartbeats 4000000
namespace K2
open PySem PySem.Spec PyProof.Rows L2
/-! ### orders -/
def orderB : Nat → PyData → Bool
  | 0, _ => false
  | n + 1, d => tupOf 2 2 d && (if eqStr "item" (at0 (tupItems d) 0) = true then nameB (at0 (tupItems d) 1)
      else ((eqStr "series" (at0 (tupItems d) 0) || eqStr "parallel" (at0 (tupItems d) 0)) && (tupOf 2 6 (at0 (tupItems d) 1) && (tupItems (at0 (tupItems d) 1)).all (orderB n))))
def spOrd (n : Nat) : Sp := fun vs H Q _ => ∃ (v : V) (d : PyData), vs = [v, .int n] ∧ Dat H v d ∧ ∀ H', Same H H' → Q (.bl (orderB n d)) H'
abbrev sOrd : Stmt := top 35
section
variable {P : Program} {w : World} {K : PySem.W.Frag} {mg : Str → Option Value} {base : Heap}
theorem scOrd : FnScope ["value", "depth", "word", "rest", "inner"] ["value", "depth"] (defScope sOrd) := ⟨rfl, rfl, rfl, by decide +kernel, rfl, by decide +kernel, by decide +kernel⟩
theorem fn_none {k : Nat} {f : Addr} {fd : FuncData} {ps : List Str} : FnOk P w K mg base CX0 k f fd ps (fun _ _ _ _ => False) := ⟨fun _ _ _ _ h => h.elim, fun _ _ _ _ _ _ _ _ _ _ _ _ _ h => h.elim⟩
/-- the body, with what is known of the def itself one level down -/
theorem ord_body {f : Addr} {fd : FuncData} {k : Nat} {sp : Sp} (F : Fun K "has_order_form" "has_order_form" sOrd f fd) (Y : Pre P w K mg base) (b : L2.Binds K fd ["value", "depth"] []) (g : mg "has_order_form" = some (.ref f))
    (G : FnOk P w K mg base CX0 (1 + k) f fd ["value", "depth"] sp) (n : Nat)
    (hn : ∀ m, n = m + 1 → ∀ (x : V) (d : PyData) (H : Hp) (R : VK), Dat H x d → (∀ H', Same H H' → R (.bl (orderB m d)) H') → sp [x, .int (((m + 1 : Nat) : Int) - 1)] H R E0) : FnOk P w K mg base CX0 (2 + k) f fd ["value", "depth"] (spOrd n) := by
  obtain ⟨t, z⟩ := Y.z.nested
  rw [show 2 + k = (1 + k) + 1 by omega]
  refine F.ok scOrd (fun vs H Q E h => ?_) (fun cdv A outer s H vs Q E hr h => ?_)
  · obtain ⟨v, d, rfl, _⟩ := h
    rfl
  · obtain ⟨v, d, rfl, hd, q⟩ := h
    have hu := hr.units
    have hu0 := hr.units0
    have hu1 := hu_of hr
    have hr1 : Room 1 _ := hr.mono (by omega)
    refine ⟨_, pss_cons (ps_if (PW.pt (pw_or (pt_cmpR op_eq (pv 1) pe_int (nomark _)) (pw_or1 (pt_not (pt_val (pe_call Y.GT hr1 rfl Y.T.g Y.T.F.kp Y.T.b .nil pass0 (pa_cons (pv 0) (pa_cons pe_int (pa_cons pe_int pa_nil))))))))) (pss_one (ps_ret pe_bl)) pss_nil)
      (pss_cons (ps_asg (pv 0) (pg_tup rfl (pgs_cons (pg_name (i := 2) scOrd.nd rfl (Or.inl rfl)) (pgs_cons (pg_name (i := 3) scOrd.nd rfl (Or.inl rfl)) pgs_nil))))
      (pss_cons (ps_if (pt_cmpR (op_eqStr hu0) (pv 2) pe_str (nomark _)) (pss_one (ps_ret (pe_call Y.GN hr1 rfl Y.N.g Y.N.F.kp Y.N.b .nil pass0 (pa_cons (pv 3) pa_nil)))) pss_nil)
      (pss_cons (ps_if (PW.pt (pw_or (pt_cmpR (op_notInStrs hu1) (pv 2) (pe_tup (pa_cons pe_str (pa_cons pe_str pa_nil))) rfl) (pw_or1 (pt_not (pt_val (pe_call Y.GT hr1 rfl Y.T.g Y.T.F.kp Y.T.b .nil pass0 (pa_cons (pv 3) (pa_cons pe_int (pa_cons (pe_glob (v := .int 6) rfl z ⟨_, rfl⟩) pa_nil))))))))) (pss_one (ps_ret pe_bl)) pss_nil)
      (pss_one (ps_ret (pe_callB (cr_all rfl) (by rfl) Y.nm.all boot_all (pa_cons (pe_lc (own := [("inner", 4)]) (g := gName 4) (tt := tYes) rfl scOrd.nd (pi_tup (pv 3)) (blkOk_by (N := ["value", "depth", "word", "rest", "inner"]) (sc := defScope sOrd) (by decide +kernel))
            (fun _ _ _ _ _ => pg_name (i := 4) scOrd.nd rfl (Or.inl rfl)) (fun _ _ _ _ _ => pts_nil) (fun _ _ _ _ _ => pe_call G hr rfl g F.kp b .nil pass0 (pa_cons (pv 4) (pa_cons (pe_op op_sub (pv 1) pe_int) pa_nil)))) pa_nil))))))), ?_⟩
    cases n with
    | zero =>
      refine ⟨_, rfl, rfl, _, rfl, ?_⟩
      refine if_t (by decide) (if_t rfl ?_)
      exact q H fun _ _ e => e
    | succ m =>
      have e0 : decide (V.int ((m + 1 : Nat) : Int) = V.int 0) = false := decide_eq_false fun e => by
        injection e with e
        omega
      refine ⟨_, rfl, rfl, _, rfl, if_f e0 ⟨_, rfl, v, d, 2, 2, rfl, hd, fun H1 S1 => ⟨_, rfl, ?_⟩⟩⟩
      have eO : orderB (m + 1) d = (tupOf 2 2 d && (if eqStr "item" (at0 (tupItems d) 0) = true then nameB (at0 (tupItems d) 1)
          else ((eqStr "series" (at0 (tupItems d) 0) || eqStr "parallel" (at0 (tupItems d) 0)) && (tupOf 2 6 (at0 (tupItems d) 1) && (tupItems (at0 (tupItems d) 1)).all (orderB m))))) := by rw [orderB]
      rw [eO] at q
      cases h : tupOf 2 2 d with
      | false =>
        rw [h] at q
        exact if_t rfl (q H1 S1)
      | true =>
        rw [h] at q
        obtain ⟨ds, rfl, l1, l2⟩ := tupOf_len h
        have hl : ds.length = 2 := by omega
        cases hd with
        | @tup a xs _ ha hx =>
         match ds, hl, hx with
         | [d0, d1], _, .cons (v := x0) c0 (.cons (v := x1) c1 .nil) =>
          refine if_f rfl ⟨_, rfl, a, _, rfl, SqT.of (S1 _ _ ha), rfl, _, _, rfl, _, _, rfl, rfl, ?_⟩
          have q1 : ∀ H', Same H H' → Q (.bl (true && (if eqStr "item" d0 = true then nameB d1 else ((eqStr "series" d0 || eqStr "parallel" d0) && (tupOf 2 6 d1 && (tupItems d1).all (orderB m)))))) H' := q
          refine ⟨_, rfl, d0, "item", c0.same S1, rfl, _, rfl, ?_⟩
          cases h0 : eqStr "item" d0 with
          | true =>
            rw [h0] at q1
            exact if_t rfl ⟨_, rfl, x1, d1, rfl, c1.same S1, fun H2 S2 => q1 H2 (S1.trans S2)⟩
          | false =>
            rw [h0] at q1
            refine if_f rfl ⟨_, rfl, (by show 2 ≤ sizeLine; decide), fun p np => ?_⟩
            have Sp := same_new (o := HO.tup [.str "series", .str "parallel"]) np
            have hp : upd H1 p (.tup [.str "series", .str "parallel"]) p = some (.tup [.str "series", .str "parallel"]) := upd_same
            generalize upd H1 p (.tup [.str "series", .str "parallel"]) = H2 at Sp hp ⊢
            have T2 := S1.trans Sp
            have eAny : (["series", "parallel"] : List Str).any (fun z => eqStr z d0) = (eqStr "series" d0 || eqStr "parallel" d0) := by
              rw [List.any_cons, List.any_cons, List.any_nil, Bool.or_false]
            refine ⟨d0, p, ["series", "parallel"], c0.same T2, rfl, hp, _, rfl, ?_⟩
            rw [eAny]
            cases h1 : (eqStr "series" d0 || eqStr "parallel" d0) with
            | false =>
              rw [h1] at q1
              exact if_t rfl (if_t rfl (q1 H2 T2))
            | true =>
              rw [h1] at q1
              refine if_f rfl ⟨_, rfl, x1, d1, 2, 6, rfl, c1.same T2, fun H3 S3 => ⟨_, rfl, ?_⟩⟩
              have T3 := T2.trans S3
              have q2 : ∀ H', Same H H' → Q (.bl (tupOf 2 6 d1 && (tupItems d1).all (orderB m))) H' := q1
              cases h2 : tupOf 2 6 d1 with
              | false =>
                rw [h2] at q2
                exact if_t rfl (q2 H3 T3)
              | true =>
                rw [h2] at q2
                obtain ⟨es, rfl, _, l6⟩ := tupOf_len h2
                cases c1 with
                | @tup a2 ys _ ha2 hx2 =>
                  have hl2 := hx2.len
                  refine if_f rfl ⟨_, rfl, a2, rfl, ⟨_, SqT.of (T3 _ _ ha2)⟩, fun D nD => lc_all (K := K) (a := a2) (xs := ys) (ds := es) (orderB m) (T3 _ _ ha2) (hx2.same T3) (by omega) nD (fun i x d Hx hi hdi td S R hR => ⟨rfl, _, rfl, _, rfl, _, _, rfl, rfl, hn m rfl x d Hx R td hR⟩) mono_name fun Hx S hD => ?_⟩
                  refine ⟨D, es.map (orderB m), rfl, SqL.of hD, ?_⟩
                  rw [List.all_map]
                  exact q2 Hx (T3.trans S)
/-- has_order_form(value, n) -/
theorem ok_ord {f : Addr} {fd : FuncData} (F : Fun K "has_order_form" "has_order_form" sOrd f fd) (Y : Pre P w K mg base) (b : L2.Binds K fd ["value", "depth"] []) (g : mg "has_order_form" = some (.ref f)) :
    ∀ n : Nat, FnOk P w K mg base CX0 (2 + n) f fd ["value", "depth"] (spOrd n)
  | 0 => ord_body (k := 0) (sp := fun _ _ _ _ => False) F Y b g fn_none 0 fun m e => by cases e
  | n + 1 => by
    have G := ok_ord F Y b g n
    rw [show 2 + n = 1 + (n + 1) by omega] at G
    refine ord_body (k := n + 1) F Y b g G (n + 1) fun m e x d H R hd hR => ?_
    obtain rfl : n = m := Nat.succ.inj e
    exact ⟨x, d, by rw [show (((n + 1 : Nat) : Int) - 1) = (n : Int) by omega], hd, hR⟩
end
end K2
set_option maxRecDepth 100000
set_option maxHeartbeats 4000000
/-! A set made of a list of texts, of any length below the model's line: how many texts it holds. -/
namespace S2
open PySem PySem.Spec PyProof.Rows
/-- the distinct texts among the first i -/
def cnt (xs : List Str) : Nat → Nat
  | 0 => 0
  | i + 1 => if (xs.take i).any (· == xs.getD i Str.empty) = true then cnt xs i else cnt xs i + 1
theorem cnt_le (xs : List Str) : ∀ i, cnt xs i ≤ i
  | 0 => Nat.le_refl _
  | i + 1 => by
    have h := cnt_le xs i
    unfold cnt
    split <;> omega
theorem any_next {xs : List Str} {i : Nat} (hi : i < xs.length) (k : Str) : ((xs.take i).any (· == k) || decide (k = xs.getD i Str.empty)) = (xs.take (i + 1)).any (· == k) := by
  have g : xs.getD i Str.empty = xs[i] := by rw [List.getD_eq_getElem?_getD, List.getElem?_eq_getElem hi]; rfl
  rw [List.take_add_one, List.getElem?_eq_getElem hi, List.any_append, g]
  congr 1
  show decide (k = xs[i]) = ([xs[i]].any (· == k))
  rw [List.any_cons, List.any_nil, Bool.or_false]
  by_cases e : k = xs[i]
  · rw [decide_eq_true e, e, beq_self_eq_true]
  · rw [decide_eq_false e, beq_eq_false_iff_ne.mpr (Ne.symm e)]
section
variable {prog : Program} {w : World} {A : Around} {R : Result → Shared → Prop} {I S : Addr} {fp wr : List Addr} {G : Array GenState → Array GenState → Prop} {n : Nat} {V : Nat → Value → Prop} {St : Nat → Shared → Prop}
/-- the state of the set behind i texts -/
def Has (prog : Program) (w : World) (S : Addr) (xs : List Str) (i : Nat) (h : Heap) : Prop := h.SetOf (PySem.strKind prog w) S (fun k => (xs.take i).any (· == k)) (cnt xs i)
theorem Has.moved {xs : List Str} {i : Nat} {s s' : Shared} (hm : Moved wr G s s') (hw : S ∉ wr) (h : Has prog w S xs i s.heap) : Has prog w S xs i s'.heap := by
  obtain ⟨o, es, ep, t, ho, more⟩ := h
  exact ⟨o, es, ep, t, hm.heap S _ hw ho, more⟩
theorem loop (W : WalksS prog w A.in1 I fp wr G n V St) (hf : S ∉ fp) {xs : List Str} (hl : xs.length = n) (hb : n + 1 < scanBound) (hv : ∀ i v, V i v → ∃ t, v = .str (xs.getD i Str.empty) t) :
    ∀ (k i : Nat) (s : Shared), k + i = n → St i s → Has prog w S xs i s.heap → (∀ s', Moved (S :: wr) G s s' → Has prog w S xs n s'.heap → R (.ok (.ret .none)) s') →
      codeAny (model prog w) A (.builtin "set.update.loop" ⟨[.ref S, .ref I], []⟩) R s := by
  have hw : S ∉ wr := fun z => hf (W.sub _ z)
  have up : ∀ b ∈ wr, b ∈ S :: wr := fun b z => List.mem_cons_of_mem _ z
  intro k
  induction k with
  | zero =>
    intro i s e st hS hR
    obtain rfl : i = n := by omega
    refine codeAny_builtin F.entry_set_update_loop ?_
    rw [Around.under_plainId F.plain_set_update_loop _]
    exact wpAny_bind (W.done s _ _ st fun s' hm => wpAny_pure (hR s' (hm.mono up) (hS.moved hm hw)))
  | succ k ih =>
    intro i s e st hS hR
    have hi : i < n := by omega
    refine codeAny_builtin F.entry_set_update_loop ?_
    rw [Around.under_plainId F.plain_set_update_loop _]
    refine wpAny_bind (W.item i s _ _ hi st fun v s' hP st' hm => ?_)
    obtain ⟨t, rfl⟩ := hv i v hP
    have hS' := hS.moved hm hw
    refine wpAny_bind (wpAny_holding ?_)
    unfold setAdd
    refine wpAny_holding (wpAny_bind ((PySem.strKind prog w).pyHash (k := xs.getD i Str.empty) (strKind_is _ _ _ _) ?_))
    refine wpAny_setAddHashed_of (knd := PySem.strKind prog w) (s := { s' with toks := s'.toks + 1 }) (strKind_is _ _ _ _) rfl hS' (by have := cnt_le xs i; omega) fun h' sb hN => ?_
    have hS2 : Has prog w S xs (i + 1) h' := SetOf_congr hN (fun c => any_next (by omega) c) rfl
    refine wpAny_pure ⟨plainId_quiet F.plain_set_update_loop _, ih (i + 1) _ (by omega) (W.frame _ s' _ _ st' (Nat.le_succ _) fun b z o q => ?_) hS2 fun s2 hm2 hS3 => ?_⟩
    · rw [sb.2 b fun y => hf (by rw [← y]; exact z)]
      exact q
    · refine hR s2 (Moved.trans W.gtrans ((hm.mono up).then_heap (Nat.le_succ _) fun b o z q => ?_) hm2) hS3
      rw [sb.2 b fun y => z (by rw [y]; exact List.mem_cons_self)]
      exact q
end
section
variable {prog : Program} {w : World} {A : Around} {E : Value → Shared → Prop} {s : Shared}
/-- the fresh set's object -/
abbrev raw (led : Bool) : Obj := { cls := .type "set", dict := none, data := .set #[] 0 (.fresh 0 0 led) }
/-- what a made set is worth -/
def Good (prog : Program) (w : World) (s : Shared) (xs : List Str) (h' : Heap) : Prop := Has prog w s.heap.objs.size xs xs.length h' ∧ ∀ b o, b < s.heap.objs.size → s.heap.get? b = some o → h'.get? b = some o
theorem init_run {l : Addr} {items : Array Value} {xs : List Str} {led : Bool} (hh : A.handled = none) (hl : s.heap.IsList l items) (hi : StrsAre items.toList xs) (hb : xs.length + 1 < scanBound) :
    codeAny (model prog w) A (.builtin "set.__init__" ⟨[.ref s.heap.objs.size, .ref l], []⟩) (wants (fun r s2 => r = .none ∧ ∃ h' tk, s2 = { s with heap := h', toks := tk } ∧ Good prog w s xs h') E) { s with heap := s.heap.push (raw led) } := by
  obtain ⟨⟨cl, dc, dt, sl⟩, ho, hc, nl, hd⟩ := hl
  simp only at hc hd
  subst hc hd
  have hp : (s.heap.push (raw led)).get? l = some { cls := .type "list", dict := dc, data := .seq items nl, slots := sl } := Heap.get?_push_of_some _ ho
  have hs : (s.heap.push (raw led)).get? s.heap.objs.size = some (raw led) := Heap.get?_push_size _ rfl
  have x1 := PySem.F.sub_list_set
  have x2 := PySem.F.sub_list_frozenset
  have x3 : (Value.type "list" == Value.type "dict") = false := by decide
  have isl : (s.heap.push (raw led)).IsList l items := ⟨_, hp, rfl, nl, rfl⟩
  have lS : l < s.heap.objs.size := Heap.lt_size ho
  have zz : (s.heap.push (raw led)).objs.size = s.heap.objs.size + 1 := Heap.size_push _ _
  have nl1 : l ≠ (s.heap.push (raw led)).objs.size := Nat.ne_of_lt (by rw [zz]; exact Nat.lt_succ_of_lt lS)
  have eL : xs.length = items.size := by rw [← StrsAre.len_eq hi, Array.length_toList]
  have fp : s.heap.objs.size ∉ [(s.heap.push (raw led)).objs.size, l] := fun z => by
    rcases List.mem_cons.mp z with z | z
    · rw [zz] at z
      exact Nat.ne_of_lt (Nat.lt_succ_self _) z
    · rcases List.mem_cons.mp z with z | z
      · exact Nat.ne_of_gt lS z
      · cases z
  refine codeAny_builtin PySem.F.entry_set_init ?_
  rw [Around.under_plainId PySem.F.called_set.init.plain _]
  unfold Builtin.«set.__init__» noKeywords Builtin.Frozenset.updateFrom
  generalize hI : pyIter = it
  wp_walk
  subst hI
  refine wpAny_pyIter_list isl (wpAny_bind (wpAny_runValue ?_))
  have at' : ∀ (i : Nat) (v : Value), items[i]? = some v → ∃ t, v = .str (xs.getD i Str.empty) t := fun i v hv => SS.strs_at hi i v (by rw [Array.getElem?_toList]; exact hv)
  have hid : ∀ B : Around, B.handled = A.handled → B.handled = none := fun B e => e.trans hh
  refine loop (W := (Walks.list (A := A.in1.in1) (hid A.in1.in1 rfl) _ l nl1 items).toS) fp eL (by rw [← eL]; exact hb) at' items.size 0 _ (by omega) ⟨⟨_, Heap.get?_push_size _ rfl, rfl, rfl⟩, isl.push _⟩ ?_ fun s' hm hN => ?_
  · have g : ((s.heap.push (raw led)).push { cls := .type "list_iterator", data := .fields #[.ref l, .int 0 0] }).get? s.heap.objs.size = some (raw led) := Heap.get?_push_of_some _ hs
    exact SetOf_congr ((setObjOf_fresh (knd := PySem.strKind prog w) led).setOf g (by unfold scanBound; omega)) (fun _ => rfl) rfl
  · obtain ⟨h', g', d', tk', os'⟩ := s'
    obtain rfl : g' = s.gens := hm.gens
    obtain rfl : d' = s.drawn := hm.drawn
    obtain rfl : os' = s.os := hm.os
    refine wpAny_pure (wpAny_pure ⟨rfl, h', tk', rfl, by rw [eL]; exact hN, fun b o hlt e => ?_⟩)
    refine hm.heap b o (fun z => ?_) (Heap.get?_push_of_some _ (Heap.get?_push_of_some _ e))
    rcases List.mem_cons.mp z with z | z
    · exact Nat.ne_of_lt hlt z
    · rcases List.mem_cons.mp z with z | z
      · rw [zz] at z
        exact Nat.ne_of_lt (Nat.lt_succ_of_lt hlt) z
      · cases z
set_option maxHeartbeats 8000000 in
/-- set(l), l a list of texts -/
theorem call_strs {l : Addr} {items : Array Value} {xs : List Str} {Q : Value → Shared → Prop} (hh : A.handled = none) (hl : s.heap.IsList l items) (hi : StrsAre items.toList xs) (hb : xs.length + 1 < scanBound)
    (q : ∀ (h' : Heap) (tk : Nat), Good prog w s xs h' → Q (.ref s.heap.objs.size) { s with heap := h', toks := tk }) : wpAny (model prog w) A (call (.type "set") [.ref l]) Q E s := by
  obtain ⟨c, tl, x0⟩ := PySem.F.called_set.mro
  have x1 := PySem.F.called_set.made
  have x2 := PySem.F.called_set.sub
  refine wpAny_call (codeAny_of_tree (wpAny_pure ⟨Code.quiet_builtin _ (by decide +kernel), codeAny_builtin PySem.F.entry_type_call ?_⟩))
  rw [Around.under_plain (weight_type_call_type "set" [.ref l] []) rfl]
  have x3 := PySem.F.called_set.notType
  have x4 := PySem.F.called_set.canCreate
  have x5 := F.typeCall_set_1 (.ref l)
  repeat (any_goals (first | assumption | wp_step))
  refine codeAny_mono (code_set_new_1 (.ref l) (E := E) (Q₁ := fun v s1 => ∃ led : Bool, v = .ref s.heap.objs.size ∧ s1 = { s with heap := s.heap.push (raw led) }) fun led => ⟨led, rfl, rfl⟩) fun r s1 hr => ?_
  cases r with
  | error e => exact hr
  | ok fl =>
    cases fl with
    | next => exact hr.elim
    | brk => exact hr.elim
    | cont => exact hr.elim
    | ret v =>
      obtain ⟨led, rfl, rfl⟩ := hr
      have y0 : (s.heap.push (raw led)).get? s.heap.objs.size = some (raw led) := Heap.get?_push_size _ rfl
      have y1 : Shared.TypeIs { s with heap := s.heap.push (raw led) } (.ref s.heap.objs.size) "set" := ⟨_, y0, rfl⟩
      have y2 := PySem.F.called_set.init.lookup
      have y3 := PySem.F.called_set.init.bind (.ref s.heap.objs.size)
      repeat (any_goals (first | assumption | wp_step))
      refine codeAny_mono (codeAny_call_builtin_code (R := wants (fun r s2 => r = .none ∧ ∃ h' tk, s2 = { s with heap := h', toks := tk } ∧ Good prog w s xs h') E) (Code.quiet_builtin _ (by decide +kernel)) (check_set_init_1 y1 (init_run (by exact hh) hl hi hb))) fun r2 s2 z => ?_
      cases r2 with
      | error e => exact z
      | ok f2 =>
        cases f2 with
        | next => exact z.elim
        | brk => exact z.elim
        | cont => exact z.elim
        | ret u =>
          obtain ⟨rfl, h', tk, rfl, hg⟩ := z
          repeat (any_goals (first | assumption | wp_step))
          exact q _ _ hg
end
end S2
namespace L2
open PySem PySem.Spec PyProof.Rows
section
variable {X : Cx}
/-- len(set(l)), l a list of texts -/
def tCnt (K : PySem.W.Frag) (ta : TE) : TE := fun σ H Q => ta σ H fun x H1 => ∃ (l : Addr) (zs : List Str), x = .ref l ∧ SqL K H1 l (zs.map V.str) ∧ zs.length ≤ 4000 ∧ Q (.int (S2.cnt zs zs.length : Nat)) H1
theorem pe_cnt {e : Expr} {te : TE} {p p2 pos2 pos : Pos} (hc : X.calm = true) (l1 : Gl X "len") (m1 : X.mg "len" = none) (l2 : Gl X "set") (m2 : X.mg "set" = none) (he : PE X e te)
    (hs : starEach [e] X.env = (false, eval e X.env) :: starEach [] X.env := by rfl) : PE X (.Call (.Name "len" p) [.Call (.Name "set" p2) [e] [] pos2] [] pos) (tCnt X.K te) := by
  constructor
  intro pins s σ H Q I h
  refine Call_ (ld_blt I l1 m1 PySem.boot_len (callWith_builtin1 (args_cons (Call_ (ld_blt I l2 m2 PyProof.Rows.boot_set ?_)) rfl) rfl rfl))
  refine callWith_type1 (args_cons (thn (he.run pins s σ H _ I h) fun v s1 z => args_nil ?_) hs) hs rfl
  obtain ⟨x, H1, I1, rx, l, zs, rfl, hq, hz, q⟩ := z
  cases rx
  obtain ⟨its, rv, pl, _⟩ := I1.list hq
  refine S2.call_strs (I1.ok.hd hc) pl.isList (xs := zs) (by simpa using strsAre_of rv) (by unfold scanBound; omega) fun h' tk hg => args_nil ?_
  obtain ⟨⟨o, es, ep, t, ho, hex, hd, _, _, _, hf, hn⟩, keep⟩ := hg
  have I2 : Inv X pins σ H1 { s1 with heap := h', toks := tk } := I1.kept fun b o e => keep b o (Heap.lt_size e) e
  have small : es.size < 4001 := by
    have z := S2.cnt_le zs zs.length
    omega
  exact call_len_set ho hex hd hf (by omega) ⟨.int (S2.cnt zs zs.length : Nat), H1, I2.tok _, ⟨_, by rw [hn]⟩, q⟩
end
end L2
set_option maxRecDepth 100000
set_option maxHeartbeats 4000000
namespace K2
open PySem PySem.Spec PyProof.Rows L2
/-! ### the names of an order -/
def strOf : PyData → Str
  | .str s => s
  | _ => Str.empty
def namesN : Nat → PyData → List Str
  | 0, _ => []
  | n + 1, d => if eqStr "item" (at0 (tupItems d) 0) = true then [strOf (at0 (tupItems d) 1)] else (tupItems (at0 (tupItems d) 1)).flatMap (namesN n)
theorem flat_len {f : PyData → List Str} {m : Nat} : ∀ {l : List PyData}, (∀ d ∈ l, (f d).length ≤ m) → (l.flatMap f).length ≤ l.length * m
  | [], _ => by simp
  | a :: l, h => by
    have h1 := h a (by simp)
    have h2 := flat_len (l := l) fun d hd => h d (by simp [hd])
    rw [List.flatMap_cons, List.length_append, List.length_cons, Nat.succ_mul]
    omega
/-- what orderB says, one level -/
theorem order_cases {n : Nat} {d : PyData} (h : orderB (n + 1) d = true) : ∃ d0 d1, d = .tuple [d0, d1] ∧ ((eqStr "item" d0 = true ∧ nameB d1 = true) ∨
    (eqStr "item" d0 = false ∧ ∃ es, d1 = .tuple es ∧ 2 ≤ es.length ∧ es.length ≤ 6 ∧ ∀ e ∈ es, orderB n e = true)) := by
  rw [orderB, Bool.and_eq_true] at h
  obtain ⟨ds, rfl, l1, l2⟩ := tupOf_len h.1
  match ds, (show ds.length = 2 by omega) with
  | [d0, d1], _ =>
    refine ⟨d0, d1, rfl, ?_⟩
    have h2 : (if eqStr "item" d0 = true then nameB d1 else ((eqStr "series" d0 || eqStr "parallel" d0) && (tupOf 2 6 d1 && (tupItems d1).all (orderB n)))) = true := h.2
    cases h0 : eqStr "item" d0 with
    | true =>
      rw [h0] at h2
      exact .inl ⟨rfl, h2⟩
    | false =>
      rw [h0] at h2
      have h3 : ((eqStr "series" d0 || eqStr "parallel" d0) && (tupOf 2 6 d1 && (tupItems d1).all (orderB n))) = true := h2
      rw [Bool.and_eq_true, Bool.and_eq_true] at h3
      obtain ⟨es, rfl, l3, l4⟩ := tupOf_len h3.2.1
      exact .inr ⟨rfl, es, rfl, by omega, by omega, List.all_eq_true.mp h3.2.2⟩
theorem names_len : ∀ (n : Nat) (d : PyData), orderB n d = true → (namesN n d).length ≤ 6 ^ n
  | 0, _, _ => by simp [namesN]
  | n + 1, d, h => by
    obtain ⟨d0, d1, rfl, hh⟩ := order_cases h
    have e : namesN (n + 1) (.tuple [d0, d1]) = if eqStr "item" d0 = true then [strOf d1] else (tupItems d1).flatMap (namesN n) := by rw [namesN]; rfl
    have p : 0 < 6 ^ n := Nat.pos_of_ne_zero (by simp)
    rw [e, Nat.pow_succ]
    rcases hh with ⟨h0, _⟩ | ⟨h0, es, rfl, _, l6, hes⟩
    · rw [h0, if_pos rfl]
      show 1 ≤ _
      omega
    · rw [h0, if_neg Bool.false_ne_true]
      have z := flat_len (l := es) fun e he => names_len n e (hes e he)
      have z2 : es.length * 6 ^ n ≤ 6 * 6 ^ n := Nat.mul_le_mul_right _ l6
      show (es.flatMap (namesN n)).length ≤ _
      omega
theorem flat_pre {f : PyData → List Str} {es : List PyData} {i : Nat} {e : PyData} (h : es[i]? = some e) : (es.take (i + 1)).flatMap f = (es.take i).flatMap f ++ f e := by
  rw [List.take_add_one, h]
  simp
theorem flat_take {f : PyData → List Str} (es : List PyData) (i : Nat) : ((es.take i).flatMap f).length ≤ (es.flatMap f).length := by
  have z : es.flatMap f = (es.take i).flatMap f ++ (es.drop i).flatMap f := by rw [← List.flatMap_append, List.take_append_drop]
  rw [z, List.length_append]
  omega
/-- the inner walk of a comprehension -/
theorem in_it {J : It} {n : Nat} {G : Hp → Prop} {Y : Nat → Hp → V → Hp → Prop} (w : Walk J n G Y) {Nx : Hp → Prop} {step : Nat → V → Hp → (Hp → Prop) → Prop} {H4 : Hp} (Pv : Nat → Hp → Prop) (h0 : Pv 0 H4) (hG : ∀ j H, j ≤ n → Pv j H → G H)
    (hs : ∀ j x H H', j < n → Pv j H → Y j H x H' → step j x H' (Pv (j + 1))) (hd : ∀ H, Pv n H → Nx H) :
    ∃ W1 : Nat → Nat → Hp → Prop, (∃ m, W1 0 m H4) ∧ ∀ j k H, W1 j k H → (J.stop j H ∧ Nx H) ∨ (J.go j H ∧ ∃ N1 : Hp → Prop, (∀ H', N1 H' → ∃ k', k' < k ∧ W1 (j + 1) k' H') ∧ ∀ x H', J.yld j H x H' → step j x H' N1) := by
  refine ⟨fun j k H => k + j = n ∧ Pv j H, ⟨n, rfl, h0⟩, fun j k H ⟨e, p⟩ => ?_⟩
  have g := hG j H (by omega) p
  by_cases hj : j < n
  · refine .inr ⟨w.goes j H hj g, Pv (j + 1), fun H' p' => ⟨n - (j + 1), by omega, by omega, p'⟩, fun x H' y => hs j x H H' hj p (w.yields j H x H' hj g y)⟩
  · obtain rfl : j = n := by omega
    exact .inl ⟨w.stops H g, hd H p⟩
def spNames (n : Nat) : Sp := fun vs H Q _ => ∃ (v : V) (d : PyData), vs = [v] ∧ n ≤ 6 ∧ Dat H v d ∧ orderB n d = true ∧ ∀ p H', Same H H' → H p = none → H' p = some (.lst ((namesN n d).map V.str)) → Q (.ref p) H'
abbrev sNames : Stmt := top 36
theorem dat_name {H : Hp} {v : V} {d : PyData} (h : Dat H v d) (hn : nameB d = true) : v = .str (strOf d) := by
  cases h with
  | str x _ => rfl
  | _ => cases hn
section
variable {P : Program} {w : World} {K : PySem.W.Frag} {mg : Str → Option Value} {base : Heap}
theorem scNames : FnScope ["order", "word", "rest", "inner", "name"] ["order"] (defScope sNames) := ⟨rfl, rfl, rfl, by decide +kernel, rfl, by decide +kernel, by decide +kernel⟩
theorem names_body {f : Addr} {fd : FuncData} {k : Nat} {sp : Sp} (F : Fun K "names_of" "names_of" sNames f fd) (b : L2.Binds K fd ["order"] []) (g : mg "names_of" = some (.ref f)) (G : FnOk P w K mg base CX0 k f fd ["order"] sp) (n : Nat)
    (hn : ∀ m, n = m + 1 → n ≤ 6 → ∀ (x : V) (d : PyData) (H : Hp) (R : VK), Dat H x d → orderB m d = true → (∀ p H', Same H H' → H p = none → H' p = some (.lst ((namesN m d).map V.str)) → R (.ref p) H') → sp [x] H R E0) : FnOk P w K mg base CX0 (k + 1) f fd ["order"] (spNames n) := by
  refine F.ok scNames (fun vs H Q E h => ?_) (fun cdv A outer s H vs Q E hr h => ?_)
  · obtain ⟨v, d, rfl, _⟩ := h
    rfl
  · obtain ⟨v, d, rfl, h6, hd, ho, q⟩ := h
    have hu0 := hr.units0
    refine ⟨_, pss_cons (ps_asg (pv 0) (pg_tup rfl (pgs_cons (pg_name (i := 1) scNames.nd rfl (Or.inl rfl)) (pgs_cons (pg_name (i := 2) scNames.nd rfl (Or.inl rfl)) pgs_nil))))
      (pss_cons (ps_if (pt_cmpR (op_eqStr hu0) (pv 1) pe_str (nomark _)) (pss_one (ps_ret (pe_lst (pa_cons (pv 2) pa_nil)))) pss_nil)
      (pss_one (ps_ret (pe_lc2 (own := [("inner", 3), ("name", 4)]) (vs1 := [4]) (g := gName 3) (tt := tYes) (wi1 := iList K (tCall sp [] E0 (tCons (tVar 3) tNil))) (g1 := gName 4) (tt1 := tYes) rfl scNames.nd (pi_tup (pv 2)) (blkOk_by (N := ["order", "word", "rest", "inner", "name"]) (sc := defScope sNames) (by decide +kernel)) (by decide)
          (fun _ _ _ _ _ => pg_name (i := 3) scNames.nd rfl (Or.inl rfl)) (fun _ _ _ _ _ => pts_nil) (fun _ _ _ _ _ => pi_list (pe_call G hr rfl g F.kp b .nil pass0 (pa_cons (pv 3) pa_nil)))
          (fun _ _ _ _ _ => pg_name (i := 4) scNames.nd rfl (Or.inl rfl)) (fun _ _ _ _ _ => pts_nil) (fun _ _ _ _ _ => pv 4))))), ?_⟩
    cases n with
    | zero => exact Bool.noConfusion ((show false = true from ho) : false = true)
    | succ m =>
      have hlen := names_len _ _ ho
      have h66 : 6 ^ (m + 1) ≤ 46656 := by
        have z : 6 ^ (m + 1) ≤ 6 ^ 6 := Nat.pow_le_pow_right (by decide) h6
        exact z
      obtain ⟨d0, d1, rfl, hh⟩ := order_cases ho
      have eN : namesN (m + 1) (.tuple [d0, d1]) = if eqStr "item" d0 = true then [strOf d1] else (tupItems d1).flatMap (namesN m) := by rw [namesN]; rfl
      rw [eN] at q hlen
      cases hd with
      | @tup a xs _ ha hx =>
        cases hx with
        | @cons x0 _ _ _ c0 t0 =>
          cases t0 with
          | @cons x1 _ _ _ c1 t1 =>
            cases t1
            refine ⟨_, rfl, a, _, rfl, SqT.of ha, rfl, _, _, rfl, _, _, rfl, rfl, _, rfl, d0, "item", c0, rfl, _, rfl, ?_⟩
            rcases hh with ⟨h0, hn1⟩ | ⟨h0, es, rfl, l2, l6, hes⟩
            · rw [h0] at q ⊢
              refine if_t rfl ⟨_, rfl, (by show 1 ≤ sizeLine; decide), fun p np => q p _ (same_new np) np ?_⟩
              rw [upd_same, dat_name c1 hn1]
              rfl
            · rw [h0] at q hlen ⊢
              have q1 : ∀ p H', Same H H' → H p = none → H' p = some (.lst ((es.flatMap (namesN m)).map V.str)) → Q (.ref p) H' := q
              have hlen1 : (es.flatMap (namesN m)).length ≤ 6 ^ (m + 1) := hlen
              cases c1 with
              | @tup a2 ys _ ha2 hx2 =>
                have hl2 := hx2.len
                refine if_f rfl ⟨_, rfl, a2, rfl, ⟨_, SqT.of ha2⟩, fun D nD => in_it (walk_tup (K := K) (a := a2) (xs := ys)) (fun i Hx => Same H Hx ∧ Hx D = some (.lst (((es.take i).flatMap (namesN m)).map V.str))) ⟨same_new nD, by rw [upd_same]; rfl⟩ (fun i Hx _ ⟨S, _⟩ => SqT.of (S _ _ ha2)) ?_ ?_⟩
                · rintro i x Hx Hy hi ⟨S, hD⟩ ⟨rfl, hxi⟩
                  obtain ⟨e, hei, te⟩ := hx2.get hxi
                  refine ⟨rfl, _, rfl, hn m rfl h6 x e Hy _ (te.same S) (hes e (List.mem_of_getElem? hei)) fun p H1 S1 np hp => ?_⟩
                  have pD : p ≠ D := fun z => by
                    rw [z, hD] at np
                    cases np
                  refine ⟨p, rfl, ⟨_, SqL.of hp⟩, in_it (walk_list (K := K) (a := p) (xs := (namesN m e).map V.str)) (fun j Hz => Same H Hz ∧ Hz p = some (.lst ((namesN m e).map V.str)) ∧ Hz D = some (.lst (((es.take i).flatMap (namesN m) ++ (namesN m e).take j).map V.str)))
                    ⟨S.trans S1, hp, by rw [List.take_zero, List.append_nil]; exact S1 _ _ hD⟩ (fun j Hz _ ⟨_, h, _⟩ => SqL.of h) ?_ ?_⟩
                  · rintro j y Hz Hz' hj ⟨S2, hp2, hD2⟩ ⟨rfl, hy⟩
                    rw [List.getElem?_map] at hy
                    obtain ⟨nm, hnm, rfl⟩ : ∃ nm, (namesN m e)[j]? = some nm ∧ y = V.str nm := by
                      cases hz : (namesN m e)[j]? with
                      | none =>
                        rw [hz] at hy
                        cases hy
                      | some nm =>
                        rw [hz] at hy
                        exact ⟨nm, rfl, (Option.some.inj hy).symm⟩
                    have hjl : j < (namesN m e).length := (List.getElem?_eq_some_iff.mp hnm).1
                    have tot := flat_take (f := namesN m) es (i + 1)
                    rw [flat_pre hei, List.length_append] at tot
                    refine ⟨rfl, _, rfl, _, hD2, ?_, grow nD S2, ?_, ?_⟩
                    · rw [List.length_map, List.length_append, List.length_take, sizeLine_eq]
                      omega
                    · rw [upd_ne pD]
                      exact hp2
                    · rw [upd_same, List.take_add_one, hnm]
                      simp
                  · rintro Hz ⟨S2, hp2, hD2⟩
                    refine ⟨S2, ?_⟩
                    rw [hD2, List.length_map, List.take_length, flat_pre hei]
                · rintro Hx ⟨S, hD⟩
                  refine q1 D Hx S nD ?_
                  rw [hD, hl2, List.take_length]
/-- names_of(d), d an order of at most n levels -/
theorem ok_names {f : Addr} {fd : FuncData} (F : Fun K "names_of" "names_of" sNames f fd) (b : L2.Binds K fd ["order"] []) (g : mg "names_of" = some (.ref f)) : ∀ n : Nat, FnOk P w K mg base CX0 (1 + n) f fd ["order"] (spNames n)
  | 0 => by
    have z := names_body (P := P) (w := w) (base := base) (k := 0) (sp := fun _ _ _ _ => False) F b g fn_none 0 fun m e => by cases e
    exact z
  | n + 1 => by
    have G := ok_names F b g n
    have z := names_body F b g G (n + 1) fun m e l6 x d H R hd ho hR => by
      obtain rfl : n = m := Nat.succ.inj e
      exact ⟨x, d, rfl, by omega, hd, ho, hR⟩
    rw [show 1 + (n + 1) = 1 + n + 1 by omega]
    exact z
end
end K2
set_option maxRecDepth 100000
set_option maxHeartbeats 4000000
namespace K2
open PySem PySem.Spec PyProof.Rows L2
def orderOk (d : PyData) : Bool := orderB 6 d && (decide (((namesN 6 d).length : Int) ≤ 400) && decide ((S2.cnt (namesN 6 d) (namesN 6 d).length : Int) = ((namesN 6 d).length : Int)))
def pArr (ds : List PyData) : Bool := orderOk (at0 ds 1)
def countOf (d : PyData) : Int := intOf (at0 (tupItems d) 1)
def letterOf (d : PyData) : PyData := at0 (tupItems d) 0
def countsB (d : PyData) : Bool := tupOf 1 6 d && (tupItems d).all countB && (decide (((tupItems d).map countOf).sum ≤ 400) && ascB ((tupItems d).map letterOf))
def pWord (ds : List PyData) : Bool := countsB (at0 ds 1)
abbrev sIsOrder : Stmt := top 34
abbrev sArr : Stmt := top 46
abbrev sCounts : Stmt := top 44
abbrev sWord : Stmt := top 43
/-- [e(x) for x in a tuple], the values known -/
theorem lc_vals {K : PySem.W.Frag} {H : Hp} {a : Addr} {xs : List V} {g : TG} {te : TE} {vs : List Nat} {σ : L2.St} {D : Addr} {Qd : Hp → Prop} (out : Nat → V) (ha : H a = some (.tup xs)) (hz : xs.length ≤ 1000000) (nD : H D = none)
    (hs : ∀ (i : Nat) (x : V) (Hx : Hp), xs[i]? = some x → Same H Hx → ∀ R : VK, (∀ H', Same Hx H' → R (out i) H') → g x (wipe σ vs) Hx fun σ2 H2 => wipe σ2 vs = wipe σ vs ∧ te σ2 H2 R)
    (mono : ∀ (x : V) (Hx : Hp) (A B : L2.St → Hp → Prop), (∀ σ2 H2, A σ2 H2 → B σ2 H2) → g x (wipe σ vs) Hx A → g x (wipe σ vs) Hx B)
    (hd : ∀ Hx, Same H Hx → Hx D = some (.lst ((List.range xs.length).map out)) → Qd Hx) :
    ∃ W : Nat → Nat → Hp → Prop, (∃ m, W 0 m (upd H D (.lst []))) ∧ ∀ i m H, W i m H →
      ((Itt K a).stop i H ∧ Qd H) ∨ ((Itt K a).go i H ∧ ∃ Nx : Hp → Prop, (∀ H', Nx H' → ∃ m', m' < m ∧ W (i + 1) m' H') ∧ ∀ x H', (Itt K a).yld i H x H' → g x (wipe σ vs) H' fun σ2 H2 => wipe σ2 vs = wipe σ vs ∧ tYes σ2 H2 fun b H3 =>
        if b = true then te σ2 H3 fun y H4 => ∃ acc, H4 D = some (.lst acc) ∧ acc.length < sizeLine ∧ Nx (upd H4 D (.lst (acc ++ [y]))) else Nx H3) := by
  refine lc_tup (K := K) (a := a) (xs := xs) (fun j Hx => Same H Hx ∧ Hx D = some (.lst ((List.range j).map out))) ⟨same_new nD, upd_same⟩ (fun j Hx _ ⟨S, _⟩ => SqT.of (S _ _ ha)) ?_ fun Hx ⟨S, hD⟩ => hd Hx S hD
  rintro i x Hx hi ⟨S, hD⟩
  refine mono x Hx _ _ (fun σ2 H2 h => ⟨h.1, ?_⟩) (hs i x Hx hi S (fun y H4 => ∃ acc, H4 D = some (.lst acc) ∧ acc.length < sizeLine ∧ Same H (upd H4 D (.lst (acc ++ [y]))) ∧ upd H4 D (.lst (acc ++ [y])) D = some (.lst ((List.range (i + 1)).map out))) fun H' S' => ?_)
  · dsimp only [tYes]
    first
      | exact if_t rfl h.2
      | exact h.2
  · have hi' : i < xs.length := (List.getElem?_eq_some_iff.mp hi).1
    refine ⟨_, S' _ _ hD, ?_, grow nD (S.trans S'), ?_⟩
    · rw [List.length_map, List.length_range, sizeLine_eq]
      omega
    · rw [upd_same, List.range_succ, List.map_append]
      rfl
theorem range_map {α : Type} (ds : List PyData) (f : PyData → α) (g : Nat → α) (h : ∀ i d, ds[i]? = some d → g i = f d) : (List.range ds.length).map g = ds.map f := by
  apply List.ext_getElem?
  intro i
  rw [List.getElem?_map, List.getElem?_map]
  by_cases hi : i < ds.length
  · rw [List.getElem?_range hi, List.getElem?_eq_getElem hi]
    show some (g i) = some (f ds[i])
    rw [h i ds[i] (List.getElem?_eq_getElem hi)]
  · rw [List.getElem?_eq_none (by rw [List.length_range]; omega), List.getElem?_eq_none (by omega)]
    rfl
section
variable {P : Program} {w : World} {K : PySem.W.Frag} {mg : Str → Option Value} {base : Heap}
theorem scIsOrder : FnScope ["value", "names"] ["value"] (defScope sIsOrder) := ⟨rfl, rfl, rfl, by decide +kernel, rfl, by decide +kernel, by decide +kernel⟩
theorem scArr : FnScope ["space"] ["space"] (defScope sArr) := ⟨rfl, rfl, rfl, by decide +kernel, rfl, by decide +kernel, by decide +kernel⟩
theorem scCounts : FnScope ["counts", "pair"] ["counts"] (defScope sCounts) := ⟨rfl, rfl, rfl, by decide +kernel, rfl, by decide +kernel, by decide +kernel⟩
theorem scWord : FnScope ["space"] ["space"] (defScope sWord) := ⟨rfl, rfl, rfl, by decide +kernel, rfl, by decide +kernel, by decide +kernel⟩
theorem dec_int (i j : Int) : decide (V.int i = V.int j) = decide (i = j) := by
  by_cases h : i = j
  · rw [h, decide_eq_true rfl, decide_eq_true rfl]
  · rw [decide_eq_false h]
    exact decide_eq_false fun z => h (by injection z)
theorem ok_order {f fO fN : Addr} {fd fdO fdN : FuncData} (F : Fun K "is_order" "is_order" sIsOrder f fd) (Y : Pre P w K mg base) (O : DefOk K mg "has_order_form" sOrd ["value", "depth"] fO fdO) (N : DefOk K mg "names_of" sNames ["order"] fN fdN) : FnOk P w K mg base CX0 9 f fd ["value"] (spP orderOk) := by
  obtain ⟨t, z⟩ := Y.z.deepest
  obtain ⟨t2, z2⟩ := Y.z.places
  have GO : FnOk P w K mg base CX0 8 fO fdO ["value", "depth"] (spOrd 6) := ok_ord O.F Y O.b O.g 6
  have GN : FnOk P w K mg base CX0 7 fN fdN ["order"] (spNames 6) := ok_names N.F N.b N.g 6
  refine F.ok scIsOrder (fun vs H Q E h => ?_) (fun cdv A outer s H vs Q E hr h => ?_)
  · obtain ⟨v, d, rfl, _⟩ := h
    rfl
  · obtain ⟨v, d, rfl, hd, q⟩ := h
    have hr7 : Room 7 _ := hr.mono (by decide)
    refine ⟨_, pss_cons (ps_if (pt_not (pt_val (pe_call GO hr rfl O.g O.F.kp O.b .nil pass0 (pa_cons (pv 0) (pa_cons (pe_glob (v := .int 6) rfl z ⟨_, rfl⟩) pa_nil))))) (pss_one (ps_ret pe_bl)) pss_nil)
      (pss_cons (ps_set (i := 1) scIsOrder.nd rfl (Or.inl rfl) (pe_call GN hr7 rfl N.g N.F.kp N.b .nil pass0 (pa_cons (pv 0) pa_nil)))
      (pss_one (ps_ret (pe_and (pe_cmpR op_le (pe_callB call_len_seq (by rfl) Y.nm.len PySem.boot_len (pa_cons (pv 1) pa_nil)) (pe_glob (v := .int 400) rfl z2 ⟨_, rfl⟩) (nomark _))
        (pe_one (pe_cmpR op_eq (pe_cnt rfl rfl Y.nm.len rfl Y.nm.set (pv 1)) (pe_callB call_len_seq (by rfl) Y.nm.len PySem.boot_len (pa_cons (pv 1) pa_nil)) (nomark _))))))), ?_⟩
    refine ⟨_, rfl, v, d, rfl, hd, fun H1 S1 => ⟨_, rfl, ?_⟩⟩
    unfold orderOk at q
    cases h : orderB 6 d with
    | false =>
      rw [h] at q
      exact if_t rfl (q H1 S1)
    | true =>
      rw [h] at q
      refine if_f rfl ⟨_, rfl, v, d, rfl, Nat.le_refl _, hd.same S1, h, fun p H2 S2 np hp => ?_⟩
      have T2 := S1.trans S2
      have q2 := q H2 T2
      generalize namesN 6 d = zs at hp q2
      have hlen : ((zs.map V.str).length : Int) = (zs.length : Int) := by rw [List.length_map]
      refine ⟨_, rfl, p, zs.map V.str, rfl, .inl (SqL.of hp), _, _, rfl, rfl, _, rfl, ?_⟩
      rw [hlen]
      by_cases h4 : (zs.length : Int) ≤ 400
      · rw [decide_eq_true h4] at q2 ⊢
        refine if_t rfl ⟨_, rfl, p, zs, rfl, SqL.of hp, by omega, _, rfl, p, zs.map V.str, rfl, .inl (SqL.of hp), rfl, ?_⟩
        rw [hlen, dec_int]
        exact q2
      · rw [decide_eq_false h4] at q2 ⊢
        exact if_f rfl q2
theorem ok_arr {f fO : Addr} {fd fdO : FuncData} (F : Fun K "is_arrangement" "is_arrangement" sArr f fd) (O : DefOk K mg "is_order" sIsOrder ["value"] fO fdO) (G : FnOk P w K mg base CX0 9 fO fdO ["value"] (spP orderOk)) : FnOk P w K mg base CX0 10 f fd ["space"] (spT 2 pArr) := by
  refine F.ok scArr (fun vs H Q E h => ?_) (fun cdv A outer s H vs Q E hr h => ?_)
  · obtain ⟨a, xs, ds, rfl, _⟩ := h
    rfl
  · obtain ⟨a, xs, ds, rfl, ha, hx, hl, q⟩ := h
    obtain ⟨x1, g1, td⟩ := hx.at (j := 1) (List.getElem?_eq_getElem (by omega))
    refine ⟨_, pss_one (ps_ret (pe_call G hr rfl O.g O.F.kp O.b .nil pass0 (pa_cons (pe_ix ix_tup (pv 0) pe_int (fun _ _ => rfl)) pa_nil))), ?_⟩
    refine ⟨_, rfl, a, _, _, _, rfl, rfl, SqT.of ha, atI_nat (j := 1) g1, x1, _, rfl, td, fun H' S => ?_⟩
    have q' := q H' S
    unfold pArr at q'
    rw [at_of (List.getElem?_eq_getElem (by omega))] at q'
    exact q'
/-- what countB says -/
theorem count_cases {d : PyData} (h : countB d = true) : ∃ d0 i, d = .tuple [d0, .int i] ∧ nameB d0 = true ∧ 1 ≤ i ∧ i ≤ 400 := by
  unfold countB at h
  rw [Bool.and_eq_true, Bool.and_eq_true] at h
  obtain ⟨ds, rfl, l1, l2⟩ := tupOf_len h.1
  match ds, (show ds.length = 2 by omega), h with
  | [d0, d1], _, h =>
    obtain ⟨i, e, i1, i2⟩ := btw_int (show btw 1 400 d1 = true from h.2.2)
    subst e
    exact ⟨d0, i, rfl, h.2.1, i1, i2⟩
theorem name_str {d : PyData} (h : nameB d = true) : ∃ s, d = .str s ∧ s.length ≤ 6 := by
  cases d with
  | str s =>
    have h' : (decide (1 ≤ (s.length : Int)) && decide ((s.length : Int) ≤ 6) && s.cps.toList.all azB) = true := h
    rw [Bool.and_eq_true, Bool.and_eq_true] at h'
    have z := of_decide_eq_true h'.1.2
    exact ⟨s, rfl, by omega⟩
  | _ => cases h
theorem datAll_strs {H : Hp} : ∀ {ds : List PyData}, (∀ d ∈ ds, ∃ s, d = .str s ∧ s.length ≤ 6) → DatAll H (ds.map fun d => V.str (strOf d)) ds
  | [], _ => .nil
  | d :: ds, h => by
    obtain ⟨s, rfl, hs⟩ := h d (by simp)
    exact .cons (.str s (by omega)) (datAll_strs fun e he => h e (by simp [he]))
theorem ok_counts {f fC : Addr} {fd fdC : FuncData} (F : Fun K "are_counts" "are_counts" sCounts f fd) (Y : Pre P w K mg base) (C : DefOk K mg "is_count" sIsCount ["pair"] fC fdC) (GC : FnOk P w K mg base CX0 3 fC fdC ["pair"] (spP countB)) : FnOk P w K mg base CX0 4 f fd ["counts"] (spP countsB) := by
  obtain ⟨t, z⟩ := Y.z.letters
  obtain ⟨t2, z2⟩ := Y.z.places
  refine F.ok scCounts (fun vs H Q E h => ?_) (fun cdv A outer s H vs Q E hr h => ?_)
  · obtain ⟨v, d, rfl, _⟩ := h
    rfl
  · obtain ⟨v, d, rfl, hd, q⟩ := h
    have hr1 : Room 1 _ := hr.mono (by decide)
    refine ⟨_, pss_cons (ps_if (PW.pt (pw_or (pt_not (pt_val (pe_call Y.GT hr1 rfl Y.T.g Y.T.F.kp Y.T.b .nil pass0 (pa_cons (pv 0) (pa_cons pe_int (pa_cons (pe_glob (v := .int 6) rfl z ⟨_, rfl⟩) pa_nil))))))
          (pw_or1 (pt_not (pt_val (pe_callB (cr_all rfl) (by rfl) Y.nm.all boot_all (pa_cons (pe_lc (own := [("pair", 1)]) (g := gName 1) (tt := tYes) rfl scCounts.nd (pi_tup (pv 0)) (blkOk_by (N := ["counts", "pair"]) (sc := defScope sCounts) (by decide +kernel))
            (fun _ _ _ _ _ => pg_name (i := 1) scCounts.nd rfl (Or.inl rfl)) (fun _ _ _ _ _ => pts_nil) (fun _ _ _ _ _ => pe_call GC hr rfl C.g C.F.kp C.b .nil pass0 (pa_cons (pv 1) pa_nil))) pa_nil))))))) (pss_one (ps_ret pe_bl)) pss_nil)
      (pss_cons (ps_if (pt_cmpR op_gt (pe_callB (cr_sum rfl) (by rfl) Y.nm.sum PyProof.Rows.boot_sum (pa_cons (pe_lc (own := [("pair", 1)]) (g := gName 1) (tt := tYes) (te := tOp (rIxT K) (tVar 1) (tC (.int 1))) rfl scCounts.nd (pi_tup (pv 0)) (blkOk_by (N := ["counts", "pair"]) (sc := defScope sCounts) (by decide +kernel))
            (fun _ _ _ _ _ => pg_name (i := 1) scCounts.nd rfl (Or.inl rfl)) (fun _ _ _ _ _ => pts_nil) (fun _ _ _ _ _ => pe_ix ix_tup (pv 1) pe_int (fun _ _ => rfl))) pa_nil)) (pe_glob (v := .int 400) rfl z2 ⟨_, rfl⟩) (nomark _)) (pss_one (ps_ret pe_bl)) pss_nil)
      (pss_one (ps_ret (pe_call Y.GA hr1 rfl Y.A.g Y.A.F.kp Y.A.b .nil pass0 (pa_cons (pe_lc (own := [("pair", 1)]) (g := gName 1) (tt := tYes) (te := tOp (rIxT K) (tVar 1) (tC (.int 0))) rfl scCounts.nd (pi_tup (pv 0)) (blkOk_by (N := ["counts", "pair"]) (sc := defScope sCounts) (by decide +kernel))
            (fun _ _ _ _ _ => pg_name (i := 1) scCounts.nd rfl (Or.inl rfl)) (fun _ _ _ _ _ => pts_nil) (fun _ _ _ _ _ => pe_ix ix_tup (pv 1) pe_int (fun _ _ => rfl))) pa_nil))))), ?_⟩
    refine ⟨_, rfl, v, d, 1, 6, rfl, hd, fun H1 S1 => ⟨_, rfl, ?_⟩⟩
    unfold countsB at q
    cases h : tupOf 1 6 d with
    | false =>
      rw [h] at q
      exact if_t rfl (if_t rfl (q H1 S1))
    | true =>
      rw [h] at q
      obtain ⟨ds, rfl, l1, l6⟩ := tupOf_len h
      cases hd with
      | @tup a xs _ ha hx =>
        have hl := hx.len
        refine if_f rfl ⟨_, rfl, a, rfl, ⟨_, SqT.of (S1 _ _ ha)⟩, fun D nD => lc_all (K := K) (a := a) (xs := xs) (ds := ds) countB (S1 _ _ ha) (hx.same S1) (by omega) nD (fun i x d Hx hi hdi td S R hR => ⟨rfl, _, rfl, x, d, rfl, td, hR⟩) mono_name fun Hx S hD => ?_⟩
        have T2 := S1.trans S
        have q2 : ∀ H', Same H H' → Q (.bl (true && ds.all countB && (decide ((ds.map countOf).sum ≤ 400) && ascB (ds.map letterOf)))) H' := q
        refine ⟨D, ds.map countB, rfl, SqL.of hD, _, rfl, ?_⟩
        have eA : (ds.map countB).all id = ds.all countB := by
          rw [List.all_map]
          rfl
        rw [eA]
        cases h2 : ds.all countB with
        | false =>
          rw [h2] at q2
          exact if_t rfl (q2 Hx T2)
        | true =>
          rw [h2] at q2
          have hall := List.all_eq_true.mp h2
          have q3 : ∀ H', Same H H' → Q (.bl (decide ((ds.map countOf).sum ≤ 400) && ascB (ds.map letterOf))) H' := q2
          -- each item is a pair of a text and an int
          have item : ∀ (i : Nat) (x : V) (Hy : Hp), xs[i]? = some x → Same H Hy → ∃ (b : Addr) (d : PyData) (s : Str) (n : Int), x = .ref b ∧ ds[i]? = some d ∧ d = .tuple [.str s, .int n] ∧ s.length ≤ 6 ∧ Hy b = some (.tup [.str s, .int n]) := by
            intro i x Hy hi S'
            obtain ⟨d, hdi, td⟩ := hx.get hi
            obtain ⟨d0, n, rfl, hn, _, _⟩ := count_cases (hall d (List.mem_of_getElem? hdi))
            obtain ⟨s, rfl, hs⟩ := name_str hn
            cases td with
            | @tup b ys _ hb hy =>
              cases hy with
              | cons e0 t0 =>
                cases t0 with
                | cons e1 t1 =>
                  cases t1
                  cases e0
                  cases e1
                  exact ⟨b, _, s, n, rfl, hdi, rfl, hs, S' _ _ hb⟩
          refine if_f rfl ⟨_, rfl, a, rfl, ⟨_, SqT.of (T2 _ _ ha)⟩, fun D2 nD2 => lc_vals (K := K) (a := a) (xs := xs) (fun i => V.int (countOf (ds.getD i .none))) (T2 _ _ ha) (by omega) nD2 (fun i x Hy hi S' R hR => ?_) mono_name fun Hy S' hD2 => ?_⟩
          · obtain ⟨b, d, s, n, rfl, hdi, rfl, _, hb⟩ := item i x Hy hi (T2.trans S')
            have g0 : countOf (ds.getD i .none) = n := by rw [List.getD_eq_getElem?_getD, hdi]; rfl
            refine ⟨rfl, _, rfl, b, _, _, _, rfl, rfl, SqT.of hb, atI_nat (j := 1) rfl, ?_⟩
            have z := hR Hy (fun _ _ e => e)
            rw [g0] at z
            exact z
          · have T3 := T2.trans S'
            have eL : (List.range xs.length).map (fun i => V.int (countOf (ds.getD i .none))) = (ds.map countOf).map V.int := by
              rw [hl, List.map_map]
              exact range_map ds _ _ fun i d hdi => by rw [List.getD_eq_getElem?_getD, hdi]; rfl
            rw [eL] at hD2
            refine ⟨D2, ds.map countOf, rfl, SqL.of hD2, _, _, rfl, rfl, _, rfl, ?_⟩
            by_cases h4 : (ds.map countOf).sum ≤ 400
            · rw [decide_eq_true h4] at q3
              refine if_f (decide_eq_false (by omega)) ⟨_, rfl, a, rfl, ⟨_, SqT.of (T3 _ _ ha)⟩, fun D3 nD3 => lc_vals (K := K) (a := a) (xs := xs) (fun i => V.str (strOf (letterOf (ds.getD i .none)))) (T3 _ _ ha) (by omega) nD3 (fun i x Hz hi S2 R hR => ?_) mono_name fun Hz S2 hD3 => ?_⟩
              · obtain ⟨b, d, s, n, rfl, hdi, rfl, _, hb⟩ := item i x Hz hi (T3.trans S2)
                have g0 : strOf (letterOf (ds.getD i .none)) = s := by rw [List.getD_eq_getElem?_getD, hdi]; rfl
                refine ⟨rfl, _, rfl, b, _, _, _, rfl, rfl, SqT.of hb, atI_nat (j := 0) rfl, ?_⟩
                have z := hR Hz (fun _ _ e => e)
                rw [g0] at z
                exact z
              · have T4 := T3.trans S2
                have hstrs : ∀ d ∈ ds.map letterOf, ∃ s, d = .str s ∧ s.length ≤ 6 := by
                  intro d hd
                  obtain ⟨e, he, rfl⟩ := List.mem_map.mp hd
                  obtain ⟨d0, n, rfl, hn, _, _⟩ := count_cases (hall e he)
                  exact name_str hn
                have eS : (List.range xs.length).map (fun i => V.str (strOf (letterOf (ds.getD i .none)))) = (ds.map letterOf).map fun d => V.str (strOf d) := by
                  rw [hl, List.map_map]
                  exact range_map ds _ _ fun i d hdi => by rw [List.getD_eq_getElem?_getD, hdi]; rfl
                rw [eS] at hD3
                exact asc_lst hD3 (datAll_strs hstrs) (by rw [List.length_map, List.length_map]; omega) (asc_strs fun d hd => let ⟨s, e, _⟩ := hstrs d hd; ⟨s, e⟩) fun H5 S5 => q3 H5 (T4.trans S5)
            · rw [decide_eq_false h4] at q3
              exact if_t (decide_eq_true (by omega)) (q3 Hy T3)
theorem ok_word {f fC : Addr} {fd fdC : FuncData} (F : Fun K "is_word" "is_word" sWord f fd) (C : DefOk K mg "are_counts" sCounts ["counts"] fC fdC) (G : FnOk P w K mg base CX0 4 fC fdC ["counts"] (spP countsB)) : FnOk P w K mg base CX0 5 f fd ["space"] (spT 2 pWord) := by
  refine F.ok scWord (fun vs H Q E h => ?_) (fun cdv A outer s H vs Q E hr h => ?_)
  · obtain ⟨a, xs, ds, rfl, _⟩ := h
    rfl
  · obtain ⟨a, xs, ds, rfl, ha, hx, hl, q⟩ := h
    obtain ⟨x1, g1, td⟩ := hx.at (j := 1) (List.getElem?_eq_getElem (by omega))
    refine ⟨_, pss_one (ps_ret (pe_call G hr rfl C.g C.F.kp C.b .nil pass0 (pa_cons (pe_ix ix_tup (pv 0) pe_int (fun _ _ => rfl)) pa_nil))), ?_⟩
    refine ⟨_, rfl, a, _, _, _, rfl, rfl, SqT.of ha, atI_nat (j := 1) g1, x1, _, rfl, td, fun H' S => ?_⟩
    have q' := q H' S
    unfold pWord at q'
    rw [at_of (List.getElem?_eq_getElem (by omega))] at q'
    exact q'
end
end K2
set_option maxRecDepth 100000
set_option maxHeartbeats 4000000
namespace K2
open PySem PySem.Spec PyProof.Rows L2
def startOf (d : PyData) : PyData := .tuple [at0 (tupItems d) 0, at0 (tupItems d) 1]
def lettersOf (d : PyData) : List Str := (tupItems d).map fun m => strOf (at0 (tupItems m) 1)
def movesB (d : PyData) : Bool := tupOf 0 48 d && (tupItems d).all moveB && (ascB ((tupItems d).map startOf) && decide ((S2.cnt (lettersOf d) (lettersOf d).length : Int) ≤ 6))
def autoB (d : PyData) : Bool := tupOf 2 2 d && (movesB (at0 (tupItems d) 0) && statesB (at0 (tupItems d) 1))
def pString (ds : List PyData) : Bool := btw 0 60 (at0 ds 2) && autoB (at0 ds 1)
abbrev sMoves : Stmt := top 27
abbrev sAuto : Stmt := top 26
abbrev sString : Stmt := top 52
theorem move_cases {d : PyData} (h : moveB d = true) : ∃ (s : Int) (l : Str) (r : Int), d = .tuple [.int s, .str l, .int r] ∧ 0 ≤ s ∧ s ≤ 7 ∧ 0 ≤ r ∧ r ≤ 7 ∧ nameB (.str l) = true ∧ l.length ≤ 6 := by
  unfold moveB at h
  rw [Bool.and_eq_true, Bool.and_eq_true, Bool.and_eq_true] at h
  obtain ⟨ds, rfl, l1, l2⟩ := tupOf_len h.1
  match ds, (show ds.length = 3 by omega), h with
  | [d0, d1, d2], _, h =>
    obtain ⟨s, e0, s0, s7⟩ := btw_int (show btw 0 7 d0 = true from h.2.1)
    obtain ⟨r, e2, r0, r7⟩ := btw_int (show btw 0 7 d2 = true from h.2.2.2)
    have hn : nameB d1 = true := h.2.2.1
    obtain ⟨l, e1, hl⟩ := name_str hn
    subst e0 e1 e2
    exact ⟨s, l, r, rfl, s0, s7, r0, r7, hn, hl⟩
theorem datAll_of {H : Hp} : ∀ {ts : List V} {es : List PyData}, ts.length = es.length → (∀ (k : Nat) (y : V), ts[k]? = some y → ∃ d : PyData, es[k]? = some d ∧ Dat H y d) → DatAll H ts es
  | [], [], _, _ => .nil
  | y :: ts, e :: es, hl, h => by
    obtain ⟨d, hd, td⟩ := h 0 y rfl
    have hd' : e = d := Option.some.inj hd
    subst hd'
    exact .cons td (datAll_of (by simpa using hl) fun k z hz => h (k + 1) z hz)
theorem asc_starts {ds : List PyData} (h : ∀ d ∈ ds, moveB d = true) : AscOk (ds.map startOf) := fun i hi => by
  rw [List.length_map] at hi
  have g : ∀ j, j < ds.length → ∃ s l, (ds.map startOf).getD j .none = .tuple [.int s, .str l] := fun j hj => by
    obtain ⟨s, l, r, e, _⟩ := move_cases (h ds[j] (List.getElem_mem hj))
    refine ⟨s, l, ?_⟩
    rw [List.getD_eq_getElem?_getD, List.getElem?_map, List.getElem?_eq_getElem hj, e]
    rfl
  obtain ⟨s1, l1, e1⟩ := g i (by omega)
  obtain ⟨s2, l2, e2⟩ := g (i + 1) hi
  rw [e1, e2]
  exact ⟨by simp [PySem.W.alike, PySem.W.alikeAll], by simp, by simp [PyData.depth, PyData.depthAll]⟩
section
variable {P : Program} {w : World} {K : PySem.W.Frag} {mg : Str → Option Value} {base : Heap}
theorem scMoves : FnScope ["moves", "letters", "starts", "move"] ["moves"] (defScope sMoves) := ⟨rfl, rfl, rfl, by decide +kernel, rfl, by decide +kernel, by decide +kernel⟩
theorem scAuto : FnScope ["value", "moves", "accepting"] ["value"] (defScope sAuto) := ⟨rfl, rfl, rfl, by decide +kernel, rfl, by decide +kernel, by decide +kernel⟩
theorem scString : FnScope ["space", "automaton", "n"] ["space"] (defScope sString) := ⟨rfl, rfl, rfl, by decide +kernel, rfl, by decide +kernel, by decide +kernel⟩
theorem ok_moves {f fM : Addr} {fd fdM : FuncData} (F : Fun K "are_moves" "are_moves" sMoves f fd) (Y : Pre P w K mg base) (M : DefOk K mg "is_move" sIsMove ["move"] fM fdM) (GM : FnOk P w K mg base CX0 4 fM fdM ["move"] (spP moveB)) : FnOk P w K mg base CX0 5 f fd ["moves"] (spP movesB) := by
  obtain ⟨t, z⟩ := Y.z.moves
  obtain ⟨t2, z2⟩ := Y.z.letters
  refine F.ok scMoves (fun vs H Q E h => ?_) (fun cdv A outer s H vs Q E hr h => ?_)
  · obtain ⟨v, d, rfl, _⟩ := h
    rfl
  · obtain ⟨v, d, rfl, hd, q⟩ := h
    have hr1 : Room 1 _ := hr.mono (by decide)
    refine ⟨_, pss_cons (ps_if (PW.pt (pw_or (pt_not (pt_val (pe_call Y.GT hr1 rfl Y.T.g Y.T.F.kp Y.T.b .nil pass0 (pa_cons (pv 0) (pa_cons pe_int (pa_cons (pe_glob (v := .int 48) rfl z ⟨_, rfl⟩) pa_nil))))))
          (pw_or1 (pt_not (pt_val (pe_callB (cr_all rfl) (by rfl) Y.nm.all boot_all (pa_cons (pe_lc (own := [("move", 3)]) (g := gName 3) (tt := tYes) rfl scMoves.nd (pi_tup (pv 0)) (blkOk_by (N := ["moves", "letters", "starts", "move"]) (sc := defScope sMoves) (by decide +kernel))
            (fun _ _ _ _ _ => pg_name (i := 3) scMoves.nd rfl (Or.inl rfl)) (fun _ _ _ _ _ => pts_nil) (fun _ _ _ _ _ => pe_call GM hr rfl M.g M.F.kp M.b .nil pass0 (pa_cons (pv 3) pa_nil))) pa_nil))))))) (pss_one (ps_ret pe_bl)) pss_nil)
      (pss_cons (ps_setLc (i := 1) (own := [("move", 3)]) (g := gName 3) (tt := tYes) (te := tOp (rIxT K) (tVar 3) (tC (.int 1))) rfl scMoves.nd rfl rfl (sw_true rfl rfl rfl (by decide +kernel)) (pi_tup (pv 0)) (blkOk_by (N := ["moves", "letters", "starts", "move"]) (sc := defScope sMoves) (by decide +kernel))
            (fun _ _ _ _ _ => pg_name (i := 3) scMoves.nd rfl (Or.inl rfl)) (fun _ _ _ _ _ => pts_nil) (fun _ _ _ _ _ => pe_ix ix_tup (pv 3) pe_int (fun _ _ => rfl)))
      (pss_cons (ps_setLc (i := 2) (own := [("move", 3)]) (g := gName 3) (tt := tYes) (te := tTup (tCons (tOp (rIxT K) (tVar 3) (tC (.int 0))) (tCons (tOp (rIxT K) (tVar 3) (tC (.int 1))) tNil))) rfl scMoves.nd rfl rfl (sw_true rfl rfl rfl (by decide +kernel)) (pi_tup (pv 0)) (blkOk_by (N := ["moves", "letters", "starts", "move"]) (sc := defScope sMoves) (by decide +kernel))
            (fun _ _ _ _ _ => pg_name (i := 3) scMoves.nd rfl (Or.inl rfl)) (fun _ _ _ _ _ => pts_nil) (fun _ _ _ _ _ => pe_tup (pa_cons (pe_ix ix_tup (pv 3) pe_int (fun _ _ => rfl)) (pa_cons (pe_ix ix_tup (pv 3) pe_int (fun _ _ => rfl)) pa_nil))))
      (pss_one (ps_ret (pe_and (pe_call Y.GA hr1 rfl Y.A.g Y.A.F.kp Y.A.b .nil pass0 (pa_cons (pv 2) pa_nil)) (pe_one (pe_cmpR op_le (pe_cnt rfl rfl Y.nm.len rfl Y.nm.set (pv 1)) (pe_glob (v := .int 6) rfl z2 ⟨_, rfl⟩) (nomark _)))))))), ?_⟩
    refine ⟨_, rfl, v, d, 0, 48, rfl, hd, fun H1 S1 => ⟨_, rfl, ?_⟩⟩
    unfold movesB at q
    cases h : tupOf 0 48 d with
    | false =>
      rw [h] at q
      exact if_t rfl (if_t rfl (q H1 S1))
    | true =>
      rw [h] at q
      obtain ⟨ds, rfl, l1, l6⟩ := tupOf_len h
      cases hd with
      | @tup a xs _ ha hx =>
        have hl := hx.len
        refine if_f rfl ⟨_, rfl, a, rfl, ⟨_, SqT.of (S1 _ _ ha)⟩, fun D nD => lc_all (K := K) (a := a) (xs := xs) (ds := ds) moveB (S1 _ _ ha) (hx.same S1) (by omega) nD (fun i x d Hx hi hdi td S R hR => ⟨rfl, _, rfl, x, d, rfl, td, hR⟩) mono_name fun Hx S hD => ?_⟩
        have T2 := S1.trans S
        have q2 : ∀ H', Same H H' → Q (.bl (true && ds.all moveB && (ascB (ds.map startOf) && decide ((S2.cnt (lettersOf (.tuple ds)) (lettersOf (.tuple ds)).length : Int) ≤ 6)))) H' := q
        refine ⟨D, ds.map moveB, rfl, SqL.of hD, _, rfl, ?_⟩
        have eA : (ds.map moveB).all id = ds.all moveB := by
          rw [List.all_map]
          rfl
        rw [eA]
        cases h2 : ds.all moveB with
        | false =>
          rw [h2] at q2
          exact if_t rfl (q2 Hx T2)
        | true =>
          rw [h2] at q2
          have hall := List.all_eq_true.mp h2
          have q3 : ∀ H', Same H H' → Q (.bl (ascB (ds.map startOf) && decide ((S2.cnt (lettersOf (.tuple ds)) (lettersOf (.tuple ds)).length : Int) ≤ 6))) H' := q2
          have item : ∀ (i : Nat) (x : V) (Hy : Hp), xs[i]? = some x → Same H Hy → ∃ (b : Addr) (s : Int) (l : Str) (r : Int), x = .ref b ∧ ds[i]? = some (.tuple [.int s, .str l, .int r]) ∧ l.length ≤ 6 ∧ Hy b = some (.tup [.int s, .str l, .int r]) := by
            intro i x Hy hi S'
            obtain ⟨d, hdi, td⟩ := hx.get hi
            obtain ⟨s, l, r, rfl, _, _, _, _, _, hll⟩ := move_cases (hall d (List.mem_of_getElem? hdi))
            cases td with
            | @tup b ys _ hb hy =>
              cases hy with
              | cons e0 t0 =>
                cases t0 with
                | cons e1 t1 =>
                  cases t1 with
                  | cons e2 t2 =>
                    cases t2
                    cases e0
                    cases e1
                    cases e2
                    exact ⟨b, s, l, r, rfl, hdi, hll, S' _ _ hb⟩
          refine if_f rfl ⟨_, rfl, a, rfl, ⟨_, SqT.of (T2 _ _ ha)⟩, fun D2 nD2 => lc_vals (K := K) (a := a) (xs := xs) (fun i => V.str (strOf (at0 (tupItems (ds.getD i .none)) 1))) (T2 _ _ ha) (by omega) nD2 (fun i x Hy hi S' R hR => ?_) mono_name fun Hy S' hD2 => ?_⟩
          · obtain ⟨b, s, l, r, rfl, hdi, _, hb⟩ := item i x Hy hi (T2.trans S')
            have g0 : strOf (at0 (tupItems (ds.getD i .none)) 1) = l := by rw [List.getD_eq_getElem?_getD, hdi]; rfl
            refine ⟨rfl, _, rfl, b, _, _, _, rfl, rfl, SqT.of hb, atI_nat (j := 1) rfl, ?_⟩
            have z := hR Hy (fun _ _ e => e)
            rw [g0] at z
            exact z
          · have T3 := T2.trans S'
            have eL : (List.range xs.length).map (fun i => V.str (strOf (at0 (tupItems (ds.getD i .none)) 1))) = (lettersOf (.tuple ds)).map V.str := by
              rw [hl]
              show _ = (ds.map fun m => strOf (at0 (tupItems m) 1)).map V.str
              rw [List.map_map]
              exact range_map ds _ _ fun i d hdi => by rw [List.getD_eq_getElem?_getD, hdi]; rfl
            rw [eL] at hD2
            have hll : (lettersOf (.tuple ds)).length = ds.length := List.length_map _
            refine ⟨_, rfl, a, rfl, ⟨_, SqT.of (T3 _ _ ha)⟩, fun D3 nD3 => lc_tup (K := K) (a := a) (xs := xs) (fun j Hz => Same Hy Hz ∧ ∃ ts : List V, Hz D3 = some (.lst ts) ∧ ts.length = j ∧ ∀ (k : Nat) (y : V), ts[k]? = some y → ∃ (T : Addr) (s : Int) (l : Str) (r : Int), y = .ref T ∧ T ≠ D3 ∧ l.length ≤ 6 ∧ ds[k]? = some (.tuple [.int s, .str l, .int r]) ∧ Hz T = some (.tup [.int s, .str l]))
              ⟨same_new nD3, [], upd_same, rfl, fun k y e => by cases e⟩ (fun j Hz _ ⟨S, _⟩ => SqT.of (S _ _ (T3 _ _ ha))) ?_ ?_⟩
            · rintro i x Hz hi ⟨S2, ts, hD3, htl, hts⟩
              obtain ⟨b, s, l, r, rfl, hdi, hll6, hb⟩ := item i x Hz hi (T3.trans S2)
              have hi' : i < xs.length := (List.getElem?_eq_some_iff.mp hi).1
              refine ⟨rfl, _, rfl, b, _, _, _, rfl, rfl, SqT.of hb, atI_nat (j := 0) rfl, _, rfl, b, _, _, _, rfl, rfl, SqT.of hb, atI_nat (j := 1) rfl, (by show 2 ≤ sizeLine; decide), fun U nU => ?_⟩
              have SU := same_new (o := HO.tup [.int s, .str l]) nU
              have UD : U ≠ D3 := fun e => by
                rw [e, hD3] at nU
                cases nU
              refine ⟨ts, SU _ _ hD3, by rw [sizeLine_eq]; omega, grow nD3 (S2.trans SU), _, upd_same, by rw [List.length_append, htl]; rfl, fun k y hk => ?_⟩
              by_cases hkl : k < ts.length
              · rw [List.getElem?_append_left hkl] at hk
                obtain ⟨T', s', l', r', h1, h2, h3, h4, h5⟩ := hts k y hk
                exact ⟨T', s', l', r', h1, h2, h3, h4, by rw [upd_ne h2]; exact SU _ _ h5⟩
              · have ek : k = ts.length := by
                  have w := (List.getElem?_eq_some_iff.mp hk).1
                  rw [List.length_append] at w
                  have : ([V.ref U] : List V).length = 1 := rfl
                  omega
                subst ek
                rw [List.getElem?_append_right (Nat.le_refl _), Nat.sub_self] at hk
                have hy : V.ref U = y := Option.some.inj hk
                exact ⟨U, s, l, r, hy.symm, UD, hll6, by rw [htl]; exact hdi, by rw [upd_ne UD, upd_same]⟩
            · rintro Hz ⟨S2, ts, hD3, htl, hts⟩
              have T4 := T3.trans S2
              have dat : DatAll Hz ts (ds.map startOf) := datAll_of (by rw [htl, hl, List.length_map]) fun k y hk => by
                obtain ⟨T', s', l', r', rfl, _, h3, h4, h5⟩ := hts k y hk
                refine ⟨startOf (.tuple [.int s', .str l', .int r']), by rw [List.getElem?_map, h4]; rfl, ?_⟩
                exact .tup h5 (.cons (.int s') (.cons (.str l' (by omega)) .nil))
              refine ⟨_, rfl, asc_lst hD3 dat (by omega) (asc_starts hall) fun H5 S5 => ⟨_, rfl, ?_⟩⟩
              have q5 := q3 H5 (T4.trans S5)
              cases h5 : ascB (ds.map startOf) with
              | false =>
                rw [h5] at q5
                exact if_f rfl q5
              | true =>
                rw [h5] at q5
                exact if_t rfl ⟨_, rfl, D2, lettersOf (.tuple ds), rfl, SqL.of (S5 _ _ (S2 _ _ hD2)), by omega, _, _, rfl, rfl, q5⟩
theorem ok_auto {f fM fS : Addr} {fd fdM fdS : FuncData} (F : Fun K "is_automaton" "is_automaton" sAuto f fd) (Y : Pre P w K mg base) (M : DefOk K mg "are_moves" sMoves ["moves"] fM fdM) (GM : FnOk P w K mg base CX0 5 fM fdM ["moves"] (spP movesB))
    (S : DefOk K mg "are_states" sAreStates ["value"] fS fdS) (GS : FnOk P w K mg base CX0 4 fS fdS ["value"] (spP statesB)) : FnOk P w K mg base CX0 6 f fd ["value"] (spP autoB) := by
  refine F.ok scAuto (fun vs H Q E h => ?_) (fun cdv A outer s H vs Q E hr h => ?_)
  · obtain ⟨v, d, rfl, _⟩ := h
    rfl
  · obtain ⟨v, d, rfl, hd, q⟩ := h
    have hr1 : Room 1 _ := hr.mono (by decide)
    have hr4 : Room 4 _ := hr.mono (by decide)
    refine ⟨_, pss_cons (ps_if (pt_not (pt_val (pe_call Y.GT hr1 rfl Y.T.g Y.T.F.kp Y.T.b .nil pass0 (pa_cons (pv 0) (pa_cons pe_int (pa_cons pe_int pa_nil)))))) (pss_one (ps_ret pe_bl)) pss_nil)
      (pss_cons (ps_asg (pv 0) (pg_tup rfl (pgs_cons (pg_name (i := 1) scAuto.nd rfl (Or.inl rfl)) (pgs_cons (pg_name (i := 2) scAuto.nd rfl (Or.inl rfl)) pgs_nil))))
      (pss_one (ps_ret (pe_and (pe_call GM hr rfl M.g M.F.kp M.b .nil pass0 (pa_cons (pv 1) pa_nil)) (pe_one (pe_call GS hr4 rfl S.g S.F.kp S.b .nil pass0 (pa_cons (pv 2) pa_nil))))))), ?_⟩
    refine ⟨_, rfl, v, d, 2, 2, rfl, hd, fun H1 S1 => ⟨_, rfl, ?_⟩⟩
    unfold autoB at q
    cases h : tupOf 2 2 d with
    | false =>
      rw [h] at q
      exact if_t rfl (q H1 S1)
    | true =>
      rw [h] at q
      obtain ⟨ds, rfl, l1, l2⟩ := tupOf_len h
      have hl : ds.length = 2 := by omega
      cases hd with
      | @tup a xs _ ha hx =>
       match ds, hl, hx with
       | [d0, d1], _, .cons (v := x0) c0 (.cons (v := x1) c1 .nil) =>
        refine if_f rfl ⟨_, rfl, a, _, rfl, SqT.of (S1 _ _ ha), rfl, _, _, rfl, _, _, rfl, rfl, ?_⟩
        refine ⟨_, rfl, x0, d0, rfl, c0.same S1, fun H2 S2 => ⟨_, rfl, ?_⟩⟩
        have T2 := S1.trans S2
        have q2 : ∀ H', Same H H' → Q (.bl (true && (movesB d0 && statesB d1))) H' := q
        cases h2 : movesB d0 with
        | false =>
          rw [h2] at q2
          exact if_f rfl (q2 H2 T2)
        | true =>
          rw [h2] at q2
          exact if_t rfl ⟨_, rfl, x1, d1, rfl, c1.same T2, fun H3 S3 => q2 H3 (T2.trans S3)⟩
theorem ok_string {f fA : Addr} {fd fdA : FuncData} (F : Fun K "is_string" "is_string" sString f fd) (Y : Pre P w K mg base) (A' : DefOk K mg "is_automaton" sAuto ["value"] fA fdA) (GA : FnOk P w K mg base CX0 6 fA fdA ["value"] (spP autoB)) : FnOk P w K mg base CX0 7 f fd ["space"] (spT 3 pString) := by
  obtain ⟨t, z⟩ := Y.z.steps
  refine F.ok scString (fun vs H Q E h => ?_) (fun cdv A outer s H vs Q E hr h => ?_)
  · obtain ⟨a, xs, ds, rfl, _⟩ := h
    rfl
  · obtain ⟨a, xs, ds, rfl, ha, hx, hl, q⟩ := h
    have hr2 : Room 2 _ := hr.mono (by decide)
    match ds, hl, hx with
    | [d0, d1, d2], _, .cons (v := x0) t0 (.cons (v := x1) t1 (.cons (v := x2) t2 .nil)) =>
      refine ⟨_, pss_cons (ps_asg (pe_slice sl_tupA (pv 0) (po_some pe_int) po_none) (pg_tup rfl (pgs_cons (pg_name (i := 1) scString.nd rfl (Or.inl rfl)) (pgs_cons (pg_name (i := 2) scString.nd rfl (Or.inl rfl)) pgs_nil))))
        (pss_one (ps_ret (pe_and (pe_call Y.GB hr2 rfl Y.B.g Y.B.F.kp Y.B.b .nil pass0 (pa_cons (pv 2) (pa_cons pe_int (pa_cons (pe_glob (v := .int 60) rfl z ⟨_, rfl⟩) pa_nil))))
          (pe_one (pe_call GA hr rfl A'.g A'.F.kp A'.b .nil pass0 (pa_cons (pv 1) pa_nil)))))), ?_⟩
      refine ⟨_, rfl, 1, rfl, ?_⟩
      dsimp only [tNoPart]
      refine slK_of 1 ha fun b Hb Sb hb => ?_
      refine ⟨b, [x1, x2], rfl, SqT.of hb, rfl, _, _, rfl, _, _, rfl, rfl, ?_⟩
      refine ⟨_, rfl, x2, d2, 0, 60, rfl, t2.same Sb, fun H' S => ⟨_, rfl, ?_⟩⟩
      have T2 := Sb.trans S
      have q2 : ∀ H', Same H H' → Q (.bl (btw 0 60 d2 && autoB d1)) H' := q
      cases h : btw 0 60 d2 with
      | false =>
        rw [h] at q2
        exact if_f rfl (q2 H' T2)
      | true =>
        rw [h] at q2
        exact if_t rfl ⟨_, rfl, x1, d1, rfl, t1.same T2, fun H3 S3 => q2 H3 (T2.trans S3)⟩
end
end K2
set_option maxRecDepth 100000
set_option maxHeartbeats 4000000
namespace L2
open PySem PySem.Spec PyProof.Rows
section
variable {X : Cx} {d : Addr} {es : Array DictEntry} {n : Nat}
/-- d[key], d a written dict of the module -/
def rIxKd (K : PySem.W.Frag) (d : Addr) : R2 := fun x y H Q => ∃ (z : Str) (u0 : Value) (v0 : V), x = .ref d ∧ y = .str z ∧ PySem.W.nsIn K d z = some (some u0) ∧ RelV v0 u0 ∧ Q v0 H
theorem ix_kd (D : KDict X.K X.w d es n) : IxR X (rIxKd X.K d) := by
  intro value slice pins s σ H x y v u Q I rx ry h hs
  have h2 := op_item_kd D pins s σ H x y v u Q I rx ry h
  obtain ⟨z, u0, v0, rfl, _⟩ := h
  cases rx
  exact tail_any (kd_type D I) PySem.F.slot_dict_getitem.lookup h2 hs
def rNotInKd (K : PySem.W.Frag) (d : Addr) : R2 := fun x y H Q => ∃ (z : Str) (r : Option Value), x = .str z ∧ y = .ref d ∧ PySem.W.nsIn K d z = some r ∧ Q (.bl (!r.isSome)) H
theorem op_notInKd (D : KDict X.K X.w d es n) : OpR X (compareOp .NotIn) (rNotInKd X.K d) := op_notIn_kd D
end
end L2
namespace K2
open PySem PySem.Spec PyProof.Rows L2
/-- one kind of space: its length, its check -/
structure Kind where
  len : Nat
  f : Addr
  p : List PyData → Bool
def kindP (T : Str → Option Kind) : PyData → Bool
  | .tuple (.str z :: ds) => match T z with
    | some c => decide (ds.length + 1 = c.len) && c.p (.str z :: ds)
    | none => false
  | _ => false
abbrev sPart : Stmt := top 41
section
variable {P : Program} {w : World} {K : PySem.W.Frag} {mg : Str → Option Value} {base : Heap}
theorem scPart : FnScope ["value", "kind", "check"] ["value"] (defScope sPart) := ⟨rfl, rfl, rfl, by decide +kernel, rfl, by decide +kernel, by decide +kernel⟩
/-- what is known of the two dicts: S tells the promise of the def at an address -/
structure Kinds (P : Program) (w : World) (K : PySem.W.Frag) (mg : Str → Option Value) (base : Heap) (T : Str → Option Kind) (dL dC : Addr) (S : Addr → Option Sp) : Prop where
  gL : mg "LENGTHS" = some (.ref dL)
  gC : mg "CHECKS" = some (.ref dC)
  kL : ∃ es n, KDict K w dL es n
  kC : ∃ es n, KDict K w dC es n
  L0 : ∀ z, T z = none → PySem.W.nsIn K dL z = some none
  L1 : ∀ z c, T z = some c → ∃ t, PySem.W.nsIn K dL z = some (some (.int c.len t))
  C1 : ∀ z c, T z = some c → PySem.W.nsIn K dC z = some (some (.ref c.f))
  held : ∀ f sp, S f = some sp → Held P w K mg base 10 f sp
  at_ : ∀ z c, T z = some c → ∃ sp, S c.f = some sp ∧ ∀ (H : Hp) (a : Addr) (xs : List V) (ds : List PyData) (Q : VK), H a = some (.tup xs) → DatAll H xs ds → ds.length = c.len → ds.head? = some (.str z) → (∀ H', Same H H' → Q (.bl (c.p ds)) H') → sp [.ref a] H Q E0
theorem ok_part {f : Addr} {fd : FuncData} {T : Str → Option Kind} {dL dC : Addr} {S : Addr → Option Sp} (F : Fun K "is_part" "is_part" sPart f fd) (Y : Pre P w K mg base) (Z : Kinds P w K mg base T dL dC S) : FnOk P w K mg base CX0 11 f fd ["value"] (spP (kindP T)) := by
  obtain ⟨esL, nL, DL⟩ := Z.kL
  obtain ⟨esC, nC, DC⟩ := Z.kC
  refine F.ok scPart (fun vs H Q E h => ?_) (fun cdv A outer s H vs Q E hr h => ?_)
  · obtain ⟨v, d, rfl, _⟩ := h
    rfl
  · obtain ⟨v, d, rfl, hd, q⟩ := h
    have q0 := q H fun _ _ e => e
    refine ⟨_, pss_cons (ps_if (PW.pt (pw_or (pt_not (pt_val (pe_callB call_isi (by rfl) Y.nm.isinstance boot_isinstance (pa_cons (pv 0) (pa_cons (pe_bltn (v := .ty "tuple") rfl Y.nm.tuple (by decide +kernel) rfl) pa_nil)))))
          (pw_or1 (pt_cmpR op_eq (pe_callB call_len_seq (by rfl) Y.nm.len PySem.boot_len (pa_cons (pv 0) pa_nil)) pe_int (nomark _))))) (pss_one (ps_ret pe_bl)) pss_nil)
      (pss_cons (ps_set (i := 1) scPart.nd rfl (Or.inl rfl) (pe_ix ix_tup (pv 0) pe_int (fun _ _ => rfl)))
      (pss_cons (ps_if (PW.pt (pw_or (pt_not (pt_val (pe_callB call_isi (by rfl) Y.nm.isinstance boot_isinstance (pa_cons (pv 1) (pa_cons (pe_bltn (v := .ty "str") rfl Y.nm.str (by decide +kernel) rfl) pa_nil)))))
          (pw_or (pt_cmpR (op_notInKd (X := _) DL) (pv 1) (pe_glob (v := .ref dL) rfl Z.gL rfl) rfl)
          (pw_or1 (pt_cmpR op_ne (pe_callB call_len_seq (by rfl) Y.nm.len PySem.boot_len (pa_cons (pv 0) pa_nil)) (pe_ix (ix_kd (X := _) DL) (pe_glob (v := .ref dL) rfl Z.gL rfl) (pv 1) (fun _ _ => rfl)) (nomark _)))))) (pss_one (ps_ret pe_bl)) pss_nil)
      (pss_cons (ps_set (i := 2) scPart.nd rfl (Or.inl rfl) (pe_ix (ix_kd (X := _) DC) (pe_glob (v := .ref dC) rfl Z.gC rfl) (pv 1) (fun _ _ => rfl)))
      (pss_one (ps_ret (pe_callA (i := 2) (S := S) Z.held hr rfl (Or.inl rfl) (pa_cons (pv 0) pa_nil))))))), ?_⟩
    refine ⟨_, rfl, v, .ty "tuple", _, _, _, rfl, .ty _, hd.ty, kit_tuple _ d, _, rfl, ?_⟩
    cases d with
    | tuple ds =>
      cases hd with
      | @tup a xs _ ha hx =>
        have hl := hx.len
        refine if_f rfl ⟨_, rfl, a, xs, rfl, .inr (SqT.of ha), rfl, _, rfl, ?_⟩
        cases hx with
        | nil => exact if_t rfl q0
        | @cons x0 xs' d0 ds' c0 cs =>
          have ne : decide (V.int (((x0 :: xs').length : Nat) : Int) = V.int 0) = false := decide_eq_false fun e => by
            injection e with e
            rw [List.length_cons] at e
            omega
          refine if_f ne ⟨_, rfl, a, _, _, x0, rfl, rfl, SqT.of ha, atI_nat (j := 0) rfl, _, rfl, x0, .ty "str", _, _, _, rfl, .ty _, c0.ty, kit_str _ d0, _, rfl, ?_⟩
          cases d0 with
          | str z =>
            cases c0 with
            | str _ hz =>
              have eP : kindP T (.tuple (.str z :: ds')) = match T z with
                | some c => decide (ds'.length + 1 = c.len) && c.p (.str z :: ds')
                | none => false := rfl
              rw [eP] at q q0
              cases hT : T z with
              | none =>
                rw [hT] at q0
                exact if_f rfl ⟨_, rfl, z, none, rfl, rfl, Z.L0 z hT, _, rfl, if_t rfl (if_t rfl q0)⟩
              | some c =>
                rw [hT] at q
                have q1 : ∀ H', Same H H' → Q (.bl (decide (ds'.length + 1 = c.len) && c.p (.str z :: ds'))) H' := q
                obtain ⟨t, gL⟩ := Z.L1 z c hT
                have gC := Z.C1 z c hT
                refine if_f rfl ⟨_, rfl, z, _, rfl, rfl, gL, _, rfl, if_f rfl ⟨_, rfl, a, .str z :: xs', rfl, .inr (SqT.of ha), _, rfl, z, .int c.len t, .int c.len, rfl, rfl, gL, ⟨_, rfl⟩, rfl, _, rfl, ?_⟩⟩
                have el : (V.str z :: xs').length = ds'.length + 1 := hl
                by_cases hlen : ds'.length + 1 = c.len
                · have e1 : decide (V.int (((V.str z :: xs').length : Nat) : Int) = V.int (c.len : Int)) = true := decide_eq_true (by rw [el, hlen])
                  rw [decide_eq_true hlen] at q1
                  rw [e1]
                  refine if_f rfl ⟨_, rfl, z, .ref c.f, .ref c.f, rfl, rfl, gC, rfl, ?_⟩
                  obtain ⟨sp, hS, hsp⟩ := Z.at_ z c hT
                  exact ⟨c.f, sp, rfl, hS, _, rfl, hsp H a (.str z :: xs') (.str z :: ds') _ ha (.cons (.str z hz) cs) hlen rfl q1⟩
                · have e1 : decide (V.int (((V.str z :: xs').length : Nat) : Int) = V.int (c.len : Int)) = false := decide_eq_false fun e => by
                    injection e with e
                    rw [el] at e
                    exact hlen (by omega)
                  rw [decide_eq_false hlen] at q1
                  rw [e1]
                  exact if_t rfl (q1 H fun _ _ e => e)
          | int i => exact if_t rfl (if_t rfl q0)
          | bool b => exact if_t rfl (if_t rfl q0)
          | none => exact if_t rfl (if_t rfl q0)
          | list l => exact if_t rfl (if_t rfl q0)
          | tuple l => exact if_t rfl (if_t rfl q0)
          | dict l => exact if_t rfl (if_t rfl q0)
    | int i => exact if_t rfl (if_t rfl q0)
    | bool b => exact if_t rfl (if_t rfl q0)
    | none => exact if_t rfl (if_t rfl q0)
    | str x => exact if_t rfl (if_t rfl q0)
    | list l => exact if_t rfl (if_t rfl q0)
    | dict kv => exact if_t rfl (if_t rfl q0)
end
end K2
set_option maxRecDepth 100000
set_option maxHeartbeats 4000000
namespace K2
open PySem PySem.Spec PyProof.Rows L2
/-! ### decorated spaces; the kinds by their words; what stands in a space -/
def pDeco (ds : List PyData) : Bool := countsB (at0 ds 1) && tupOf ((tupItems (at0 ds 1)).length : Int) ((tupItems (at0 ds 1)).length : Int) (at0 ds 2)
def kinds : List (Str × Nat × (List PyData → Bool)) := [("subset", 3, pSubset), ("word", 2, pWord), ("arrangement", 2, pArr), ("walk", 6, pWalk), ("cycle", 2, pCycle), ("matching", 2, pMatching), ("permutation", 3, pPerm), ("tree", 2, pTree), ("string", 3, pString),
  ("product", 2, pRow), ("choice", 2, pRow), ("power", 3, pPower), ("decorated", 3, pDeco)]
/-- a part, whatever the nested spaces in it are -/
def partB : PyData → Bool
  | .tuple (.str z :: ds) => match kinds.lookup z with
    | some c => decide (ds.length + 1 = c.1) && c.2 (.str z :: ds)
    | none => false
  | _ => false
def nestedD (d : PyData) : List PyData :=
  if eqStr "product" (at0 (tupItems d) 0) = true then tupItems (at0 (tupItems d) 1) else if eqStr "choice" (at0 (tupItems d) 0) = true then tupItems (at0 (tupItems d) 1)
  else if eqStr "power" (at0 (tupItems d) 0) = true then [at0 (tupItems d) 2] else if eqStr "decorated" (at0 (tupItems d) 0) = true then tupItems (at0 (tupItems d) 2) else []
abbrev sDeco : Stmt := top 55
abbrev sNested : Stmt := top 40
abbrev sWell : Stmt := top 39
def spNested : Sp := fun vs H Q _ => ∃ (v : V) (d : PyData) (G : Hp), vs = [v] ∧ Same G H ∧ Dat G v d ∧ partB d = true ∧ ∀ (p : Addr) (ys : List V) (H' : Hp), Same H H' → H' p = some (.tup ys) → DatAll G ys (nestedD d) → Q (.ref p) H'
/-- the shape of a part by its word -/
theorem part_cases {d : PyData} (h : partB d = true) : ∃ (z : Str) (ds : List PyData), d = .tuple (.str z :: ds) ∧ (z = "product" → ∃ es, ds = [.tuple es] ∧ es.length ≤ 6) ∧ (z = "choice" → ∃ es, ds = [.tuple es] ∧ es.length ≤ 6) ∧ (z = "power" → ∃ n e, ds = [n, e]) ∧ (z = "decorated" → ∃ c es, ds = [c, .tuple es] ∧ es.length ≤ 6) := by
  match d, h with
  | .tuple (.str z :: ds), h =>
    have h' : (match kinds.lookup z with
      | some c => decide (ds.length + 1 = c.1) && c.2 (.str z :: ds)
      | none => false) = true := h
    refine ⟨z, ds, rfl, fun e => ?_, fun e => ?_, fun e => ?_, fun e => ?_⟩
    · subst e
      have e2 : kinds.lookup ("product" : Str) = some (2, pRow) := by rfl
      rw [e2, Bool.and_eq_true] at h'
      match ds, of_decide_eq_true h'.1, h'.2 with
      | [d1], _, h2 =>
        obtain ⟨es, e, _, h6⟩ := tupOf_len (show tupOf 1 6 d1 = true from h2)
        exact ⟨es, by rw [e], by omega⟩
    · subst e
      have e2 : kinds.lookup ("choice" : Str) = some (2, pRow) := by rfl
      rw [e2, Bool.and_eq_true] at h'
      match ds, of_decide_eq_true h'.1, h'.2 with
      | [d1], _, h2 =>
        obtain ⟨es, e, _, h6⟩ := tupOf_len (show tupOf 1 6 d1 = true from h2)
        exact ⟨es, by rw [e], by omega⟩
    · subst e
      have e2 : kinds.lookup ("power" : Str) = some (3, pPower) := by rfl
      rw [e2, Bool.and_eq_true] at h'
      match ds, of_decide_eq_true h'.1 with
      | [d1, d2], _ => exact ⟨d1, d2, rfl⟩
    · subst e
      have e2 : kinds.lookup ("decorated" : Str) = some (3, pDeco) := by rfl
      rw [e2, Bool.and_eq_true] at h'
      match ds, of_decide_eq_true h'.1, h'.2 with
      | [d1, d2], _, h2 =>
        have h3 : (countsB d1 && tupOf ((tupItems d1).length : Int) ((tupItems d1).length : Int) d2) = true := h2
        rw [Bool.and_eq_true] at h3
        obtain ⟨es, e, _, hn⟩ := tupOf_len h3.2
        have hc := h3.1
        unfold countsB at hc
        rw [Bool.and_eq_true, Bool.and_eq_true] at hc
        obtain ⟨cs, ec, _, h6⟩ := tupOf_len hc.1.1
        have el : (tupItems d1).length = cs.length := by rw [ec]; rfl
        exact ⟨d1, es, by rw [e], by omega⟩
section
variable {P : Program} {w : World} {K : PySem.W.Frag} {mg : Str → Option Value} {base : Heap}
theorem scDeco : FnScope ["space", "counts", "spaces"] ["space"] (defScope sDeco) := ⟨rfl, rfl, rfl, by decide +kernel, rfl, by decide +kernel, by decide +kernel⟩
theorem scNested : FnScope ["space", "kind"] ["space"] (defScope sNested) := ⟨rfl, rfl, rfl, by decide +kernel, rfl, by decide +kernel, by decide +kernel⟩
theorem ok_deco {f fC : Addr} {fd fdC : FuncData} (F : Fun K "is_decorated" "is_decorated" sDeco f fd) (Y : Pre P w K mg base) (C : DefOk K mg "are_counts" sCounts ["counts"] fC fdC) (G : FnOk P w K mg base CX0 4 fC fdC ["counts"] (spP countsB)) : FnOk P w K mg base CX0 5 f fd ["space"] (spT 3 pDeco) := by
  refine F.ok scDeco (fun vs H Q E h => ?_) (fun cdv A outer s H vs Q E hr h => ?_)
  · obtain ⟨a, xs, ds, rfl, _⟩ := h
    rfl
  · obtain ⟨a, xs, ds, rfl, ha, hx, hl, q⟩ := h
    have hr1 : Room 1 _ := hr.mono (by decide)
    match ds, hl, hx with
    | [d0, d1, d2], _, .cons (v := x0) t0 (.cons (v := x1) t1 (.cons (v := x2) t2 .nil)) =>
      refine ⟨_, pss_cons (ps_asg (pe_slice sl_tupA (pv 0) (po_some pe_int) po_none) (pg_tup rfl (pgs_cons (pg_name (i := 1) scDeco.nd rfl (Or.inl rfl)) (pgs_cons (pg_name (i := 2) scDeco.nd rfl (Or.inl rfl)) pgs_nil))))
        (pss_one (ps_ret (pe_and (pe_call G hr rfl C.g C.F.kp C.b .nil pass0 (pa_cons (pv 1) pa_nil))
          (pe_one (pe_call Y.GT hr1 rfl Y.T.g Y.T.F.kp Y.T.b .nil pass0 (pa_cons (pv 2) (pa_cons (pe_callB call_len_seq (by rfl) Y.nm.len PySem.boot_len (pa_cons (pv 1) pa_nil)) (pa_cons (pe_callB call_len_seq (by rfl) Y.nm.len PySem.boot_len (pa_cons (pv 1) pa_nil)) pa_nil)))))))), ?_⟩
      refine ⟨_, rfl, 1, rfl, ?_⟩
      dsimp only [tNoPart]
      refine slK_of 1 ha fun b Hb Sb hb => ?_
      refine ⟨b, [x1, x2], rfl, SqT.of hb, rfl, _, _, rfl, _, _, rfl, rfl, ?_⟩
      refine ⟨_, rfl, x1, d1, rfl, t1.same Sb, fun H' S => ⟨_, rfl, ?_⟩⟩
      have T2 := Sb.trans S
      have q2 : ∀ H', Same H H' → Q (.bl (countsB d1 && tupOf ((tupItems d1).length : Int) ((tupItems d1).length : Int) d2)) H' := q
      cases h : countsB d1 with
      | false =>
        rw [h] at q2
        exact if_f rfl (q2 H' T2)
      | true =>
        rw [h] at q2
        have h1 := h
        unfold countsB at h1
        rw [Bool.and_eq_true, Bool.and_eq_true] at h1
        obtain ⟨es, rfl, _⟩ := tupOf_len h1.1.1
        cases t1 with
        | @tup a1 ys _ ha1 hy =>
          have el := hy.len
          refine if_t rfl ⟨_, rfl, _, rfl, a1, ys, rfl, .inr (SqT.of (T2 _ _ ha1)), _, rfl, a1, ys, rfl, .inr (SqT.of (T2 _ _ ha1)), x2, d2, _, _, rfl, t2.same T2, fun H3 S3 => ?_⟩
          have q3 : Q (.bl (tupOf (es.length : Int) (es.length : Int) d2)) H3 := q2 H3 (T2.trans S3)
          rw [el]
          exact q3
theorem ok_nested {f : Addr} {fd : FuncData} (F : Fun K "nested_spaces" "nested_spaces" sNested f fd) : FnOk P w K mg base CX0 1 f fd ["space"] spNested := by
  refine F.ok scNested (fun vs H Q E h => ?_) (fun cdv A outer s H vs Q E hr h => ?_)
  · obtain ⟨v, d, G, rfl, _⟩ := h
    rfl
  · obtain ⟨v, d, G, rfl, S0, hd, hp, q⟩ := h
    have hu0 := hr.units0
    have hu1 := hu_of hr
    refine ⟨_, pss_cons (ps_set (i := 1) scNested.nd rfl (Or.inl rfl) (pe_ix ix_tup (pv 0) pe_int (fun _ _ => rfl)))
      (pss_cons (ps_if (pt_cmpR (op_inStrs hu1) (pv 1) (pe_tup (pa_cons pe_str (pa_cons pe_str pa_nil))) rfl) (pss_one (ps_ret (pe_ix ix_tup (pv 0) pe_int (fun _ _ => rfl)))) pss_nil)
      (pss_cons (ps_if (pt_cmpR (op_eqStr hu0) (pv 1) pe_str (nomark _)) (pss_one (ps_ret (pe_tup (pa_cons (pe_ix ix_tup (pv 0) pe_int (fun _ _ => rfl)) pa_nil)))) pss_nil)
      (pss_cons (ps_if (pt_cmpR (op_eqStr hu0) (pv 1) pe_str (nomark _)) (pss_one (ps_ret (pe_ix ix_tup (pv 0) pe_int (fun _ _ => rfl)))) pss_nil)
      (pss_one (ps_ret (pe_tup pa_nil)))))), ?_⟩
    obtain ⟨z, ds, rfl, k1, k2, k3, k4⟩ := part_cases hp
    cases hd with
    | @tup a xs _ ha hx =>
      cases hx with
      | @cons x0 xs' _ _ c0 cs =>
        cases c0 with
        | str _ hz =>
          refine ⟨_, rfl, a, _, _, _, rfl, rfl, SqT.of (S0 _ _ ha), atI_nat (j := 0) rfl, _, rfl, (by show 2 ≤ sizeLine; decide), fun p np => ?_⟩
          have Sp := same_new (o := HO.tup [.str "product", .str "choice"]) np
          have hpp : upd H p (.tup [.str "product", .str "choice"]) p = some (.tup [.str "product", .str "choice"]) := upd_same
          generalize upd H p (.tup [.str "product", .str "choice"]) = H1 at Sp hpp ⊢
          refine ⟨.str z, p, ["product", "choice"], .str z hz, rfl, hpp, _, rfl, ?_⟩
          have eAny : (["product", "choice"] : List Str).any (fun y => eqStr y (.str z)) = ((z == "product") || (z == "choice")) := by
            rw [List.any_cons, List.any_cons, List.any_nil, Bool.or_false]
            rfl
          show (if (["product", "choice"] : List Str).any (fun y => eqStr y (.str z)) = true then _ else _)
          rw [eAny]
          have q1 : ∀ (p : Addr) (ys : List V) (H' : Hp), Same H H' → H' p = some (.tup ys) → DatAll G ys (if (z == "product") = true then tupItems (at0 (.str z :: ds) 1) else if (z == "choice") = true then tupItems (at0 (.str z :: ds) 1)
              else if (z == "power") = true then [at0 (.str z :: ds) 2] else if (z == "decorated") = true then tupItems (at0 (.str z :: ds) 2) else []) → Q (.ref p) H' := q
          cases b1 : (z == "product") with
          | true =>
            rw [b1] at q1
            obtain ⟨es, rfl, _⟩ := k1 (beq_iff_eq.mp b1)
            cases cs with
            | cons c1 c2 =>
              cases c2
              cases c1 with
              | @tup a1 ys _ ha1 hy =>
                exact if_t rfl ⟨_, rfl, a, _, _, _, rfl, rfl, SqT.of (Sp _ _ (S0 _ _ ha)), atI_nat (j := 1) rfl, q1 a1 ys H1 Sp (Sp _ _ (S0 _ _ ha1)) hy⟩
          | false =>
            rw [b1] at q1
            cases b2 : (z == "choice") with
            | true =>
              rw [b2] at q1
              obtain ⟨es, rfl, _⟩ := k2 (beq_iff_eq.mp b2)
              cases cs with
              | cons c1 c2 =>
                cases c2
                cases c1 with
                | @tup a1 ys _ ha1 hy =>
                  exact if_t rfl ⟨_, rfl, a, _, _, _, rfl, rfl, SqT.of (Sp _ _ (S0 _ _ ha)), atI_nat (j := 1) rfl, q1 a1 ys H1 Sp (Sp _ _ (S0 _ _ ha1)) hy⟩
            | false =>
              rw [b2] at q1
              refine if_f rfl ⟨_, rfl, .str z, "power", .str z hz, rfl, _, rfl, ?_⟩
              show (if (z == "power") = true then _ else _)
              cases b3 : (z == "power") with
              | true =>
                rw [b3] at q1
                obtain ⟨n, e, rfl⟩ := k3 (beq_iff_eq.mp b3)
                cases cs with
                | @cons y1 _ _ _ c1 c2 =>
                  cases c2 with
                  | @cons y2 _ _ _ c3 c4 =>
                    cases c4
                    refine if_t rfl ⟨_, rfl, a, _, _, _, rfl, rfl, SqT.of (Sp _ _ (S0 _ _ ha)), atI_nat (j := 2) rfl, (by show 1 ≤ sizeLine; decide), fun p2 np2 => ?_⟩
                    have S2 := Sp.trans (same_new (o := HO.tup [y2]) np2)
                    exact q1 p2 [y2] _ S2 upd_same (.cons c3 .nil)
              | false =>
                rw [b3] at q1
                refine if_f rfl ⟨_, rfl, .str z, "decorated", .str z hz, rfl, _, rfl, ?_⟩
                show (if (z == "decorated") = true then _ else _)
                cases b4 : (z == "decorated") with
                | true =>
                  rw [b4] at q1
                  obtain ⟨c, es, rfl, _⟩ := k4 (beq_iff_eq.mp b4)
                  cases cs with
                  | @cons y1 _ _ _ c1 c2 =>
                    cases c2 with
                    | @cons y2 _ _ _ c3 c4 =>
                      cases c4
                      cases c3 with
                      | @tup a1 ys _ ha1 hy =>
                        exact if_t rfl ⟨_, rfl, a, _, _, _, rfl, rfl, SqT.of (Sp _ _ (S0 _ _ ha)), atI_nat (j := 2) rfl, q1 a1 ys H1 Sp (Sp _ _ (S0 _ _ ha1)) hy⟩
                | false =>
                  rw [b4] at q1
                  refine if_f rfl ⟨(by show 0 ≤ sizeLine; decide), fun p2 np2 => ?_⟩
                  exact q1 p2 [] _ (Sp.trans (same_new np2)) upd_same .nil
end
end K2
set_option maxRecDepth 100000
set_option maxHeartbeats 8000000
namespace K2
open PySem PySem.Spec PyProof.Rows L2
theorem nested_len {d : PyData} (h : partB d = true) : (nestedD d).length ≤ 6 := by
  obtain ⟨z, ds, rfl, k1, k2, k3, k4⟩ := part_cases h
  show (if (z == "product") = true then tupItems (at0 (.str z :: ds) 1) else if (z == "choice") = true then tupItems (at0 (.str z :: ds) 1)
    else if (z == "power") = true then [at0 (.str z :: ds) 2] else if (z == "decorated") = true then tupItems (at0 (.str z :: ds) 2) else []).length ≤ 6
  split
  · rename_i e
    obtain ⟨es, rfl, h6⟩ := k1 (beq_iff_eq.mp e)
    exact h6
  · split
    · rename_i e
      obtain ⟨es, rfl, h6⟩ := k2 (beq_iff_eq.mp e)
      exact h6
    · split
      · show 1 ≤ 6
        decide
      · split
        · rename_i e
          obtain ⟨c, es, rfl, h6⟩ := k4 (beq_iff_eq.mp e)
          exact h6
        · show 0 ≤ 6
          decide
/-- level by level -/
def wfB : Nat → Nat → List PyData → Bool
  | 0, _, l => l.isEmpty
  | k + 1, p, l => if p + l.length > 40 then false else if l.all partB = false then false else wfB k (p + l.length) (l.flatMap nestedD)
def isWf (d : PyData) : Bool := wfB 6 0 [d]
/-- [p(x) for x in a list] -/
theorem lc_allL {K : PySem.W.Frag} {H : Hp} {a : Addr} {xs : List V} {ds : List PyData} {g : TG} {te : TE} {vs : List Nat} {σ : L2.St} {D : Addr} {Qd : Hp → Prop} (p : PyData → Bool) (ha : H a = some (.lst xs)) (hx : DatAll H xs ds) (hz : xs.length ≤ 1000000) (nD : H D = none)
    (hs : ∀ (i : Nat) (x : V) (d : PyData) (Hx : Hp), xs[i]? = some x → ds[i]? = some d → Dat Hx x d → Same H Hx → ∀ R : VK, (∀ H', Same Hx H' → R (.bl (p d)) H') → g x (wipe σ vs) Hx fun σ2 H2 => wipe σ2 vs = wipe σ vs ∧ te σ2 H2 R)
    (mono : ∀ (x : V) (Hx : Hp) (A B : L2.St → Hp → Prop), (∀ σ2 H2, A σ2 H2 → B σ2 H2) → g x (wipe σ vs) Hx A → g x (wipe σ vs) Hx B)
    (hd : ∀ Hx, Same H Hx → Hx D = some (.lst ((ds.map p).map V.bl)) → Qd Hx) :
    ∃ W : Nat → Nat → Hp → Prop, (∃ m, W 0 m (upd H D (.lst []))) ∧ ∀ i m H, W i m H →
      ((Itl K a).stop i H ∧ Qd H) ∨ ((Itl K a).go i H ∧ ∃ Nx : Hp → Prop, (∀ H', Nx H' → ∃ m', m' < m ∧ W (i + 1) m' H') ∧ ∀ x H', (Itl K a).yld i H x H' → g x (wipe σ vs) H' fun σ2 H2 => wipe σ2 vs = wipe σ vs ∧ tYes σ2 H2 fun b H3 =>
        if b = true then te σ2 H3 fun y H4 => ∃ acc, H4 D = some (.lst acc) ∧ acc.length < sizeLine ∧ Nx (upd H4 D (.lst (acc ++ [y]))) else Nx H3) := by
  refine lc_list (K := K) (a := a) (xs := xs) (fun j Hx => Same H Hx ∧ Hx D = some (.lst (((ds.take j).map p).map V.bl))) ⟨same_new nD, upd_same⟩ (fun j Hx _ ⟨S, _⟩ => SqL.of (S _ _ ha)) ?_ ?_
  · rintro i x Hx hi ⟨S, hD⟩
    obtain ⟨d, hdi, td⟩ := hx.get hi
    refine mono x Hx _ _ (fun σ2 H2 h => ⟨h.1, ?_⟩) (hs i x d Hx hi hdi (td.same S) S (fun y H4 => ∃ acc, H4 D = some (.lst acc) ∧ acc.length < sizeLine ∧ Same H (upd H4 D (.lst (acc ++ [y]))) ∧ upd H4 D (.lst (acc ++ [y])) D = some (.lst (((ds.take (i + 1)).map p).map V.bl))) fun H' S' => ?_)
    · dsimp only [tYes]
      first
        | exact if_t rfl h.2
        | exact h.2
    · have hi' : i < xs.length := (List.getElem?_eq_some_iff.mp hi).1
      refine ⟨_, S' _ _ hD, ?_, grow nD (S.trans S'), ?_⟩
      · rw [List.length_map, List.length_map, List.length_take, sizeLine_eq]
        omega
      · rw [upd_same, List.take_add_one, hdi]
        simp
  · rintro Hx ⟨S, hD⟩
    refine hd Hx S ?_
    rw [hD, hx.len, List.take_of_length_le (Nat.le_refl _)]
theorem flatD_len {m : Nat} {f : PyData → List PyData} : ∀ {l : List PyData}, (∀ d ∈ l, (f d).length ≤ m) → (l.flatMap f).length ≤ l.length * m
  | [], _ => by simp
  | a :: l, h => by
    have h1 := h a (by simp)
    have h2 := flatD_len (l := l) fun d hd => h d (by simp [hd])
    rw [List.flatMap_cons, List.length_append, List.length_cons, Nat.succ_mul]
    omega
theorem datAll_append {H : Hp} : ∀ {xs ys : List V} {ds es : List PyData}, DatAll H xs ds → DatAll H ys es → DatAll H (xs ++ ys) (ds ++ es)
  | _, _, _, _, .nil, t => t
  | _, _, _, _, .cons h t, u => .cons h (datAll_append t u)
section
variable {P : Program} {w : World} {K : PySem.W.Frag} {mg : Str → Option Value} {base : Heap}
theorem scWell : FnScope ["value", "level", "parts", "_", "part", "inner"] ["value"] (defScope sWell) := ⟨rfl, rfl, rfl, by decide +kernel, rfl, by decide +kernel, by decide +kernel⟩
theorem ok_well {f fP fN : Addr} {fd fdP fdN : FuncData} (F : Fun K "is_well_formed" "is_well_formed" sWell f fd) (Y : Pre P w K mg base) (Pt : DefOk K mg "is_part" sPart ["value"] fP fdP) (GP : FnOk P w K mg base CX0 11 fP fdP ["value"] (spP partB))
    (N : DefOk K mg "nested_spaces" sNested ["space"] fN fdN) (GN : FnOk P w K mg base CX0 1 fN fdN ["space"] spNested) : FnOk P w K mg base CX0 12 f fd ["value"] (spP isWf) := by
  obtain ⟨t, z⟩ := Y.z.deepest
  obtain ⟨t2, z2⟩ := Y.z.parts
  refine F.ok scWell (fun vs H Q E h => ?_) (fun cdv A outer s H vs Q E hr h => ?_)
  · obtain ⟨v, d, rfl, _⟩ := h
    rfl
  · obtain ⟨v, d, rfl, hd, q⟩ := h
    have hr1 : Room 1 _ := hr.mono (by decide)
    refine ⟨_, pss_cons (ps_set (i := 1) scWell.nd rfl (Or.inl rfl) (pe_lst (pa_cons (pv 0) pa_nil)))
      (pss_cons (ps_set (i := 2) scWell.nd rfl (Or.inl rfl) pe_int)
      (pss_cons (ps_for PassesOwn.never rfl (pi_range1 rfl Y.nm.range (pa_cons (pe_glob (v := .int 6) rfl z ⟨_, rfl⟩) pa_nil)) (pg_name (i := 3) scWell.nd rfl (Or.inl rfl))
        (pss_cons (ps_set (i := 2) scWell.nd rfl (Or.inl rfl) (pe_op op_add (pv 2) (pe_callB call_len_seq (by rfl) Y.nm.len PySem.boot_len (pa_cons (pv 1) pa_nil))))
        (pss_cons (ps_if (PW.pt (pw_or (pt_cmpR op_gt (pv 2) (pe_glob (v := .int 40) rfl z2 ⟨_, rfl⟩) (nomark _)) (pw_or1 (pt_not (pt_val (pe_callB (cr_all rfl) (by rfl) Y.nm.all boot_all (pa_cons (pe_lc (own := [("part", 4)]) (g := gName 4) (tt := tYes) rfl scWell.nd (pi_list (pv 1)) (blkOk_by (N := ["value", "level", "parts", "_", "part", "inner"]) (sc := defScope sWell) (by decide +kernel))
            (fun _ _ _ _ _ => pg_name (i := 4) scWell.nd rfl (Or.inl rfl)) (fun _ _ _ _ _ => pts_nil) (fun _ _ _ _ _ => pe_call GP hr rfl Pt.g Pt.F.kp Pt.b .nil pass0 (pa_cons (pv 4) pa_nil))) pa_nil))))))) (pss_one (ps_ret pe_bl)) pss_nil)
        (pss_one (ps_setLc2 (i := 1) (own := [("part", 4), ("inner", 5)]) (vs1 := [5]) (g := gName 4) (tt := tYes) (wi1 := iTup K (tCall spNested [] E0 (tCons (tVar 4) tNil))) (g1 := gName 5) (tt1 := tYes) rfl scWell.nd rfl rfl (sw_true rfl rfl rfl (by decide +kernel)) (pi_list (pv 1)) (blkOk_by (N := ["value", "level", "parts", "_", "part", "inner"]) (sc := defScope sWell) (by decide +kernel)) (by decide)
            (fun _ _ _ _ _ => pg_name (i := 4) scWell.nd rfl (Or.inl rfl)) (fun _ _ _ _ _ => pts_nil) (fun _ _ _ _ _ => pi_tup (pe_call GN hr1 rfl N.g N.F.kp N.b .nil pass0 (pa_cons (pv 4) pa_nil)))
            (fun _ _ _ _ _ => pg_name (i := 5) scWell.nd rfl (Or.inl rfl)) (fun _ _ _ _ _ => pts_nil) (fun _ _ _ _ _ => pv 5))))))
      (pss_one (ps_ret (pe_cmpR op_eq (pe_callB call_len_seq (by rfl) Y.nm.len PySem.boot_len (pa_cons (pv 1) pa_nil)) pe_int (nomark _)))))), ?_⟩
    refine ⟨_, rfl, (by show 1 ≤ sizeLine; decide), fun l0 n0 => ?_⟩
    have S0 := same_new (o := HO.lst [v]) n0
    have e0 : upd H l0 (.lst [v]) l0 = some (.lst [v]) := upd_same
    generalize upd H l0 (.lst [v]) = H0 at S0 e0 ⊢
    refine ⟨6, rfl, by decide, by decide, for_range (n := 6) (fun i σ Hx => ∃ (lv : Addr) (c : Int) (x3 : Option V) (p : Nat) (xs : List V) (l : List PyData), σ = [some v, some (.ref lv), some (.int c), x3, none, none] ∧ c = (p : Int) ∧ p ≤ 40 ∧ xs.length ≤ 240 ∧ Hx lv = some (.lst xs) ∧ DatAll H xs l ∧ Same H Hx ∧ wfB (6 - i) p l = isWf d)
      ⟨l0, 0, none, 0, [v], [d], rfl, rfl, by decide, (by show 1 ≤ 240; decide), e0, .cons hd .nil, S0, rfl⟩ ?_ ?_⟩
    · rintro i σ H1 hi ⟨lv, c, x3, p, xs, l, rfl, rfl, hp40, hx240, hlv, hx, S1, hw⟩
      have hxl := hx.len
      obtain ⟨k, hk⟩ : ∃ k, 6 - i = k + 1 := ⟨5 - i, by omega⟩
      have hk' : 6 - (i + 1) = k := by omega
      rw [hk, wfB] at hw
      refine ⟨_, rfl, _, rfl, lv, xs, rfl, .inl (SqL.of hlv), _, _, rfl, rfl, ?_⟩
      refine ⟨_, rfl, _, _, rfl, rfl, _, rfl, ?_⟩
      by_cases h40 : p + l.length > 40
      · rw [if_pos h40] at hw
        have q1 := q H1 S1
        rw [← hw] at q1
        exact if_t (decide_eq_true (by omega)) (if_t rfl q1)
      · rw [if_neg h40] at hw
        refine if_f (decide_eq_false (by omega)) ⟨_, rfl, lv, rfl, ⟨_, SqL.of hlv⟩, fun D nD => lc_allL (K := K) (a := lv) (xs := xs) (ds := l) partB hlv (hx.same S1) (by omega) nD (fun i x d Hx hi hdi td S R hR => ⟨rfl, _, rfl, x, d, rfl, td, hR⟩) mono_name fun H2 S2 hD => ?_⟩
        refine ⟨D, l.map partB, rfl, SqL.of hD, _, rfl, ?_⟩
        have eA : (l.map partB).all id = l.all partB := by
          rw [List.all_map]
          rfl
        rw [eA]
        have T2 := S1.trans S2
        cases hall : l.all partB with
        | false =>
          rw [if_pos hall] at hw
          have q1 := q H2 T2
          rw [← hw] at q1
          exact if_t rfl q1
        | true =>
          rw [if_neg (by rw [hall]; decide)] at hw
          have hparts := List.all_eq_true.mp hall
          have hlv2 := S2 _ _ hlv
          have f6 := flatD_len (f := nestedD) (l := l) fun e he => nested_len (hparts e he)
          refine if_f rfl ⟨_, rfl, lv, rfl, ⟨_, SqL.of hlv2⟩, fun E2 nE => in_it (walk_list (K := K) (a := lv) (xs := xs)) (fun i Hx => Same H2 Hx ∧ ∃ ys : List V, Hx E2 = some (.lst ys) ∧ DatAll H ys ((l.take i).flatMap nestedD))
            ⟨same_new nE, [], upd_same, by rw [List.take_zero]; exact .nil⟩ (fun i Hx _ ⟨S, _⟩ => SqL.of (S _ _ hlv2)) ?_ ?_⟩
          · rintro j x Hx Hy hj ⟨S3, ys, hE, hys⟩ ⟨rfl, hxj⟩
            obtain ⟨e, hej, te⟩ := hx.get hxj
            have T3 := T2.trans S3
            refine ⟨rfl, _, rfl, x, e, H, rfl, T3, te, hparts e (List.mem_of_getElem? hej), fun pp zs H4 S4 hpp hzs => ?_⟩
            have hE4 := S4 _ _ hE
            have pE : pp ≠ E2 := fun z => by
              rw [z, hE4] at hpp
              cases hpp
            have ft : (l.take (j + 1)).flatMap nestedD = (l.take j).flatMap nestedD ++ nestedD e := by
              rw [List.take_add_one, hej]
              simp
            have le : ((l.take (j + 1)).flatMap nestedD).length ≤ (l.flatMap nestedD).length := by
              have zz : l.flatMap nestedD = (l.take (j + 1)).flatMap nestedD ++ (l.drop (j + 1)).flatMap nestedD := by rw [← List.flatMap_append, List.take_append_drop]
              rw [zz, List.length_append]
              omega
            rw [ft, List.length_append] at le
            have lys := hys.len
            have lzs := hzs.len
            refine ⟨pp, rfl, ⟨_, SqT.of hpp⟩, in_it (walk_tup (K := K) (a := pp) (xs := zs)) (fun m Hz => Same H2 Hz ∧ Hz pp = some (.tup zs) ∧ Hz E2 = some (.lst (ys ++ zs.take m)))
              ⟨S3.trans S4, hpp, by rw [List.take_zero, List.append_nil]; exact hE4⟩ (fun m Hz _ ⟨_, h, _⟩ => SqT.of h) ?_ ?_⟩
            · rintro m y Hz Hz' hm ⟨S5, hp5, hE5⟩ ⟨rfl, hy⟩
              refine ⟨rfl, _, rfl, _, hE5, ?_, grow nE S5, ?_, ?_⟩
              · rw [List.length_append, List.length_take, sizeLine_eq]
                omega
              · rw [upd_ne pE]
                exact hp5
              · rw [upd_same, List.take_add_one, hy]
                simp
            · rintro Hz ⟨S5, hp5, hE5⟩
              refine ⟨S5, ys ++ zs, by rw [hE5, List.take_length], ?_⟩
              rw [ft]
              exact datAll_append hys hzs
          · rintro Hx ⟨S3, ys, hE, hys⟩
            rw [hxl, List.take_length] at hys
            have lys := hys.len
            refine ⟨E2, _, _, p + l.length, ys, l.flatMap nestedD, rfl, ?_, by omega, by omega, hE, hys, T2.trans S3, by rw [hk']; exact hw⟩
            rw [hxl]
            omega
    · rintro σ H1 ⟨lv, c, x3, p, xs, l, rfl, rfl, _, _, hlv, hx, S1, hw⟩
      refine ⟨_, rfl, lv, xs, rfl, .inl (SqL.of hlv), rfl, ?_⟩
      have q1 := q H1 S1
      rw [← hw] at q1
      have e1 : decide (V.int ((xs.length : Nat) : Int) = V.int 0) = l.isEmpty := by
        rw [dec_int, hx.len]
        cases l with
        | nil => rfl
        | cons a r =>
          refine decide_eq_false fun e => ?_
          rw [List.length_cons] at e
          omega
      rw [e1]
      exact q1
end
end K2
set_option maxRecDepth 100000
set_option maxHeartbeats 4000000
namespace K2
open PySem PySem.Spec PyProof.Rows L2
/-! ### powers, by squares: a base up to 400, an exponent up to 4,000 -/
abbrev sRaise : Stmt := top 3
theorem pow_small {b k : Nat} (hb : b ≤ 400) (h : k ≤ 4096) : ((b : Int) ^ k).natAbs < 2 ^ 36865 := by
  have e : ((b : Int) ^ k).natAbs = b ^ k := by rw [Int.natAbs_pow]; rfl
  rw [e]
  have h1 : b ^ k ≤ 512 ^ k := Nat.pow_le_pow_left (by omega) k
  have h2 : 512 ^ k = 2 ^ (9 * k) := by rw [Nat.pow_mul]
  have h3 : 2 ^ (9 * k) < 2 ^ 36865 := Nat.pow_lt_pow_right (by decide) (by omega)
  exact Nat.lt_of_le_of_lt h1 (by rw [h2]; exact h3)
def spRaise : Sp := fun vs H Q _ => ∃ b e : Nat, vs = [.int b, .int e] ∧ b ≤ 400 ∧ e ≤ 4000 ∧ Q (.int ((b ^ e : Nat) : Int)) H
section
variable {P : Program} {w : World} {K : PySem.W.Frag} {mg : Str → Option Value} {base : Heap}
theorem scRaise : FnScope ["base", "exponent", "result", "square", "rest"] ["base", "exponent"] (defScope sRaise) := ⟨rfl, rfl, rfl, by decide +kernel, rfl, by decide +kernel, by decide +kernel⟩
theorem ok_raise {f : Addr} {fd : FuncData} (F : Fun K "raise_to" "raise_to" sRaise f fd) : FnOk P w K mg base CX0 1 f fd ["base", "exponent"] spRaise := by
  refine F.ok scRaise (fun vs H Q E h => ?_) (fun cdv A outer s H vs Q E hr h => ?_)
  · obtain ⟨b, e, rfl, _⟩ := h
    rfl
  · obtain ⟨b, e, rfl, hb, he, q⟩ := h
    refine ⟨_, pss_cons (ps_set (i := 2) scRaise.nd rfl (Or.inl rfl) pe_int)
      (pss_cons (ps_set (i := 3) scRaise.nd rfl (Or.inl rfl) (pv 0))
      (pss_cons (ps_set (i := 4) scRaise.nd rfl (Or.inl rfl) (pv 1))
      (pss_cons (ps_while PassesOwn.never (pt_cmpR op_gt (pv 4) pe_int (nomark _))
        (pss_cons (ps_if (pt_cmpR op_eq (pe_op op_odd (pv 4) pe_int) pe_int (nomark _)) (pss_one (ps_set (i := 2) scRaise.nd rfl (Or.inl rfl) (pe_op op_mulW (pv 2) (pv 3)))) pss_nil)
        (pss_cons (ps_set (i := 3) scRaise.nd rfl (Or.inl rfl) (pe_op op_mulW (pv 3) (pv 3)))
        (pss_one (ps_set (i := 4) scRaise.nd rfl (Or.inl rfl) (pe_op op_fdiv (pv 4) pe_int))))))
      (pss_one (ps_ret (pv 2)))))), ?_⟩
    have start : [some (V.int b), some (V.int e), some (V.int 1), some (V.int b), some (V.int e)] = [some (V.int b), some (V.int e), some (V.int ((b : Int) ^ (e % 2 ^ 0))), some (V.int ((b : Int) ^ 2 ^ 0)), some (V.int ((e / 2 ^ 0 : Nat) : Int))] := by
      rw [Nat.pow_zero, Nat.mod_one, Nat.div_one, Int.pow_zero, Int.pow_succ, Int.pow_zero, Int.one_mul]
    refine ⟨_, rfl, _, rfl, while_by (fun σ Hx => ∃ i : Nat, i ≤ 12 ∧ Hx = H ∧ σ = [some (.int b), some (.int e), some (.int ((b : Int) ^ (e % 2 ^ i))), some (.int ((b : Int) ^ 2 ^ i)), some (.int ((e / 2 ^ i : Nat) : Int))])
      (fun σ _ => match σ with | [_, _, _, _, some (.int n)] => n.toNat | _ => 0) ⟨0, by decide, rfl, start⟩ ?_ ?_⟩
    · rintro σ Hx ⟨i, hi, rfl, rfl⟩
      refine ⟨_, rfl, _, _, rfl, rfl, _, rfl, ?_⟩
      by_cases pos : 0 < e / 2 ^ i
      · have hpw : 0 < 2 ^ i := Nat.pow_pos (by decide)
        have a4 : 2 ^ i ≤ e := by
          rcases Nat.lt_or_ge e (2 ^ i) with z | z
          · rw [Nat.div_eq_of_lt z] at pos
            omega
          · exact z
        have i12 : i < 12 := by
          rcases Nat.lt_or_ge i 12 with z | z
          · exact z
          · have y : 2 ^ 12 ≤ 2 ^ i := Nat.pow_le_pow_right (by decide) z
            omega
        have a5 : e % 2 ^ i ≤ 4000 := Nat.le_trans (Nat.mod_le _ _) he
        have am : e % 2 ^ (i + 1) = e % 2 ^ i + 2 ^ i * (e / 2 ^ i % 2) := Nat.mod_pow_succ
        have a3 : e / 2 ^ i / 2 = e / 2 ^ (i + 1) := by rw [Nat.div_div_eq_div_mul, Nat.pow_succ]
        have e2 : ((b : Int) ^ 2 ^ i * (b : Int) ^ 2 ^ i) = (b : Int) ^ 2 ^ (i + 1) := by rw [← Int.pow_add, Nat.pow_succ, Nat.mul_two]
        have e3 : ((e / 2 ^ i : Nat) : Int) / 2 = ((e / 2 ^ (i + 1) : Nat) : Int) := by
          rw [← a3]
          rfl
        have sq : CMulW ((b : Int) ^ 2 ^ i) ((b : Int) ^ 2 ^ i) := wide_mul (pow_small hb (by omega)) (pow_small hb (by omega)) (by decide) (by decide) (by decide)
        have mu : ∀ x : Int, x = ((e / 2 ^ (i + 1) : Nat) : Int) → x.toNat < ((e / 2 ^ i : Nat) : Int).toNat := fun x hx => by
          rw [hx, ← a3, Int.toNat_natCast, Int.toNat_natCast]
          omega
        refine if_t (decide_eq_true (by omega)) ⟨_, rfl, e / 2 ^ i, rfl, rfl, rfl, _, rfl, ?_⟩
        by_cases odd : e / 2 ^ i % 2 = 1
        · have e1 : ((b : Int) ^ (e % 2 ^ i) * (b : Int) ^ 2 ^ i) = (b : Int) ^ (e % 2 ^ (i + 1)) := by rw [← Int.pow_add, am, odd, Nat.mul_one]
          refine if_t (decide_eq_true (by rw [odd]; rfl)) ⟨_, rfl, _, rfl, _, _, rfl, rfl, wide_mul (pow_small hb (by omega)) (pow_small hb (by omega)) (by decide) (by decide) (by decide), ?_⟩
          refine ⟨_, rfl, _, rfl, _, _, rfl, rfl, sq, _, rfl, _, _, rfl, rfl, ⟨by decide, by decide⟩, ⟨i + 1, by omega, rfl, ?_⟩, mu _ e3⟩
          show [some (V.int b), some (V.int e), some (V.int ((b : Int) ^ (e % 2 ^ i) * (b : Int) ^ 2 ^ i)), some (V.int ((b : Int) ^ 2 ^ i * (b : Int) ^ 2 ^ i)), some (V.int (((e / 2 ^ i : Nat) : Int) / 2))] = _
          rw [e1, e2, e3]
        · have even : e / 2 ^ i % 2 = 0 := by omega
          have e1 : e % 2 ^ (i + 1) = e % 2 ^ i := by rw [am, even, Nat.mul_zero, Nat.add_zero]
          refine if_f (decide_eq_false fun z => odd ?_) ?_
          · injection z with z
            omega
          refine ⟨_, rfl, _, rfl, _, _, rfl, rfl, sq, _, rfl, _, _, rfl, rfl, ⟨by decide, by decide⟩, ⟨i + 1, by omega, rfl, ?_⟩, mu _ e3⟩
          show [some (V.int b), some (V.int e), some (V.int ((b : Int) ^ (e % 2 ^ i))), some (V.int ((b : Int) ^ 2 ^ i * (b : Int) ^ 2 ^ i)), some (V.int (((e / 2 ^ i : Nat) : Int) / 2))] = _
          rw [e1, e2, e3]
      · have z0 : e / 2 ^ i = 0 := Nat.le_zero.mp (Nat.not_lt.mp pos)
        have small : e % 2 ^ i = e := by
          rcases Nat.lt_or_ge e (2 ^ i) with z | z
          · exact Nat.mod_eq_of_lt z
          · exact absurd (Nat.div_pos z (Nat.pow_pos (by decide))) pos
        refine if_f (decide_eq_false (by rw [z0]; decide)) ⟨_, rfl, ?_⟩
        rw [small]
        have ee : ((b ^ e : Nat) : Int) = (b : Int) ^ e := Int.natCast_pow b e
        rw [ee] at q
        exact q
    · rintro σ Hx Q1 Q2 h ⟨v, hv, i, j, e1, e2, k, ek, hq⟩
      exact ⟨v, hv, i, j, e1, e2, k, ek, h _ _ hq⟩
end
end K2
set_option maxRecDepth 100000
set_option maxHeartbeats 4000000
namespace L2
open PySem PySem.Spec PyProof.Rows
section
variable {X : Cx}
/-- comb(a, b) -/
def rComb : List V → Hp → VK → Prop := fun xs H Q => ∃ a b : Nat, xs = [.int a, .int b] ∧ a ≤ 18000 ∧ Q (.int (PySem.W.mcComb a b)) H
theorem cr_comb : CallR X (.builtin "math.comb") rComb := by
  intro pins s σ H xs us Q I r h
  obtain ⟨a, b, rfl, ha, q⟩ := h
  obtain ⟨u1, u2, rfl, ⟨t1, rfl⟩, ⟨t2, rfl⟩⟩ := vals2 r
  exact call_function_meets PySem.W.MGF.kind_comb PySem.W.MGF.plain_comb PySem.W.MGF.entry_comb (PySem.W.MGF.args_comb _ _) (PySem.W.mc_gives_comb t1 t2 (by omega) (by omega) (by omega) (.inr (by omega))).meets ⟨.int (PySem.W.mcComb a b), H, I.tok _, ⟨_, rfl⟩, q⟩
/-- factorial(n) -/
def rFact : List V → Hp → VK → Prop := fun xs H Q => ∃ n : Nat, xs = [.int n] ∧ n ≤ 400 ∧ Q (.int (Builtin.Math.factorialNat n : Nat)) H
theorem fact_le : ∀ n : Nat, n ≤ 400 → Builtin.Math.factorialNat n ≤ 2 ^ (9 * n)
  | 0, _ => by decide
  | n + 1, h => by
    rw [PySem.W.mc_fac_succ]
    have z := fact_le n (by omega)
    have e : 2 ^ (9 * (n + 1)) = 2 ^ (9 * n) * 512 := by rw [Nat.mul_succ, Nat.pow_add]
    rw [e]
    exact Nat.mul_le_mul z (by omega)
theorem cr_fact : CallR X (.builtin "math.factorial") rFact := by
  intro pins s σ H xs us Q I r h
  obtain ⟨n, rfl, hn, q⟩ := h
  obtain ⟨u, rfl, ⟨t, rfl⟩⟩ := vals1 r
  have hs : (((Builtin.Math.factorialNat ((n : Nat) : Int).toNat : Nat) : Int)).natAbs.log2 < bitsLine := by
    rw [Int.toNat_natCast, Int.natAbs_natCast]
    have z : Builtin.Math.factorialNat n < 2 ^ 3601 := Nat.lt_of_le_of_lt (fact_le n hn) (Nat.pow_lt_pow_right (by decide) (by omega))
    have y : (Builtin.Math.factorialNat n).log2 < 3601 := PySem.Flt.log2_lt_of (by decide) z
    exact Nat.lt_of_lt_of_le y (by decide)
  refine PySem.W.mg_factorial (by show ¬ (n : Int) > 2 ^ 63 - 1; omega) (by omega) (by show ¬ (n : Int) > 20000; omega) hs ⟨.int (Builtin.Math.factorialNat n : Nat), H, I.tok _, ⟨_, by rw [Int.toNat_natCast]⟩, q⟩
end
end L2
namespace K2
open PySem PySem.Spec PyProof.Rows L2
/-! ### sizes of leaves without tables -/
/-- the size of a leaf that is well formed -/
def spSize (m : Nat) (p : List PyData → Bool) (sz : List PyData → Int) : Sp := fun vs H Q _ => ∃ (a : Addr) (xs : List V) (ds : List PyData), vs = [.ref a] ∧ H a = some (.tup xs) ∧ DatAll H xs ds ∧ ds.length = m ∧ p ds = true ∧ ∀ H', Same H H' → Q (.int (sz ds)) H'
abbrev sSubSize : Stmt := top 62
abbrev sCycSize : Stmt := top 67
abbrev sTreeSize : Stmt := top 70
def zSubset (ds : List PyData) : Int := PySem.W.mcComb (intOf (at0 ds 1)) (intOf (at0 ds 2))
def zCycle (ds : List PyData) : Int := (Builtin.Math.factorialNat (intOf (at0 ds 1) - 1).toNat : Nat)
def zTree (ds : List PyData) : Int := (((intOf (at0 ds 1)).toNat ^ ((intOf (at0 ds 1)).toNat - 2) : Nat) : Int)
section
variable {P : Program} {w : World} {K : PySem.W.Frag} {mg : Str → Option Value} {base : Heap}
theorem scSubSize : FnScope ["space", "n", "k"] ["space"] (defScope sSubSize) := ⟨rfl, rfl, rfl, by decide +kernel, rfl, by decide +kernel, by decide +kernel⟩
theorem scCycSize : FnScope ["space"] ["space"] (defScope sCycSize) := ⟨rfl, rfl, rfl, by decide +kernel, rfl, by decide +kernel, by decide +kernel⟩
theorem scTreeSize : FnScope ["space", "n"] ["space"] (defScope sTreeSize) := ⟨rfl, rfl, rfl, by decide +kernel, rfl, by decide +kernel, by decide +kernel⟩
theorem ok_subsize {f : Addr} {fd : FuncData} (F : Fun K "subset_size" "subset_size" sSubSize f fd) (c : mg "comb" = some (.builtin "math.comb")) : FnOk P w K mg base CX0 1 f fd ["space"] (spSize 3 pSubset zSubset) := by
  refine F.ok scSubSize (fun vs H Q E h => ?_) (fun cdv A outer s H vs Q E hr h => ?_)
  · obtain ⟨a, xs, ds, rfl, _⟩ := h
    rfl
  · obtain ⟨a, xs, ds, rfl, ha, hx, hl, hp, q⟩ := h
    match ds, hl, hx with
    | [d0, d1, d2], _, .cons (v := x0) t0 (.cons (v := x1) t1 (.cons (v := x2) t2 .nil)) =>
      have hp' : (btw 0 400 d1 && btw 0 (intOf d1) d2) = true := hp
      rw [Bool.and_eq_true] at hp'
      obtain ⟨n, rfl, n0, n4⟩ := btw_int hp'.1
      obtain ⟨k, rfl, k0, kn⟩ := btw_int hp'.2
      obtain rfl := dat_int t1
      obtain rfl := dat_int t2
      obtain ⟨n', rfl⟩ : ∃ m : Nat, n = m := ⟨n.toNat, by omega⟩
      obtain ⟨k', rfl⟩ : ∃ m : Nat, k = m := ⟨k.toNat, by omega⟩
      refine ⟨_, pss_cons (ps_asg (pe_slice sl_tupA (pv 0) (po_some pe_int) po_none) (pg_tup rfl (pgs_cons (pg_name (i := 1) scSubSize.nd rfl (Or.inl rfl)) (pgs_cons (pg_name (i := 2) scSubSize.nd rfl (Or.inl rfl)) pgs_nil))))
        (pss_one (ps_ret (pe_callBfun cr_comb rfl c (pa_cons (pv 1) (pa_cons (pv 2) pa_nil))))), ?_⟩
      refine ⟨_, rfl, 1, rfl, ?_⟩
      dsimp only [tNoPart]
      refine slK_of 1 ha fun b Hb Sb hb => ?_
      exact ⟨b, [.int n', .int k'], rfl, SqT.of hb, rfl, _, _, rfl, _, _, rfl, rfl, _, rfl, _, rfl, n', k', rfl, by omega, q Hb Sb⟩
theorem ok_cycsize {f : Addr} {fd : FuncData} (F : Fun K "cycle_size" "cycle_size" sCycSize f fd) (c : mg "factorial" = some (.builtin "math.factorial")) : FnOk P w K mg base CX0 1 f fd ["space"] (spSize 2 pCycle zCycle) := by
  refine F.ok scCycSize (fun vs H Q E h => ?_) (fun cdv A outer s H vs Q E hr h => ?_)
  · obtain ⟨a, xs, ds, rfl, _⟩ := h
    rfl
  · obtain ⟨a, xs, ds, rfl, ha, hx, hl, hp, q⟩ := h
    match ds, hl, hx with
    | [d0, d1], _, .cons (v := x0) t0 (.cons (v := x1) t1 .nil) =>
      obtain ⟨n, rfl, n0, n4⟩ := btw_int (show btw 1 400 d1 = true from hp)
      obtain rfl := dat_int t1
      obtain ⟨n', hn'⟩ : ∃ m : Nat, n - 1 = m := ⟨(n - 1).toNat, by omega⟩
      refine ⟨_, pss_one (ps_ret (pe_callBfun cr_fact rfl c (pa_cons (pe_op op_sub (pe_ix ix_tup (pv 0) pe_int (fun _ _ => rfl)) pe_int) pa_nil))), ?_⟩
      have q0 := q H fun _ _ e => e
      have ez : zCycle [d0, .int n] = (Builtin.Math.factorialNat n' : Nat) := by
        show ((Builtin.Math.factorialNat (n - 1).toNat : Nat) : Int) = _
        rw [hn', Int.toNat_natCast]
      rw [ez] at q0
      exact ⟨_, rfl, a, _, _, _, rfl, rfl, SqT.of ha, atI_nat (j := 1) rfl, _, _, rfl, rfl, n', (by show [V.int (n - 1)] = _; rw [hn']), by omega, q0⟩
theorem ok_treesize {f fR : Addr} {fd fdR : FuncData} (F : Fun K "tree_size" "tree_size" sTreeSize f fd) (m : mg "max" = none) (R : DefOk K mg "raise_to" sRaise ["base", "exponent"] fR fdR) : FnOk P w K mg base CX0 2 f fd ["space"] (spSize 2 pTree zTree) := by
  have GR : FnOk P w K mg base CX0 1 fR fdR ["base", "exponent"] spRaise := ok_raise R.F
  refine F.ok scTreeSize (fun vs H Q E h => ?_) (fun cdv A outer s H vs Q E hr h => ?_)
  · obtain ⟨a, xs, ds, rfl, _⟩ := h
    rfl
  · obtain ⟨a, xs, ds, rfl, ha, hx, hl, hp, q⟩ := h
    match ds, hl, hx with
    | [d0, d1], _, .cons (v := x0) t0 (.cons (v := x1) t1 .nil) =>
      obtain ⟨n, rfl, n0, n4⟩ := btw_int (show btw 1 400 d1 = true from hp)
      obtain rfl := dat_int t1
      obtain ⟨n', rfl⟩ : ∃ m : Nat, n = m := ⟨n.toNat, by omega⟩
      refine ⟨_, pss_cons (ps_set (i := 1) scTreeSize.nd rfl (Or.inl rfl) (pe_ix ix_tup (pv 0) pe_int (fun _ _ => rfl)))
        (pss_one (ps_ret (pe_call GR hr rfl R.g R.F.kp R.b .nil pass0 (pa_cons (pv 1) (pa_cons (pe_callB (call_max2 rfl) (by rfl) m (by decide +kernel) (pa_cons (pe_op op_sub (pv 1) pe_int) (pa_cons pe_int pa_nil))) pa_nil))))), ?_⟩
      have q0 := q H fun _ _ e => e
      have e1 : (if (0 : Int) > (n' : Int) - 2 then 0 else (n' : Int) - 2) = ((n' - 2 : Nat) : Int) := by
        split <;> omega
      have ez : zTree [d0, .int n'] = ((n' ^ (n' - 2) : Nat) : Int) := rfl
      rw [ez] at q0
      refine ⟨_, rfl, a, _, _, _, rfl, rfl, SqT.of ha, atI_nat (j := 1) rfl, _, rfl, _, rfl, _, _, rfl, rfl, _, _, rfl, n', n' - 2, ?_, by omega, by omega, q0⟩
      show [V.int (n' : Int), V.int (if (0 : Int) > (n' : Int) - 2 then 0 else (n' : Int) - 2)] = _
      rw [e1]
end
end K2
set_option maxRecDepth 100000
set_option maxHeartbeats 4000000
namespace K2
open PySem PySem.Spec PyProof.Rows L2
/-! ### multinomial: total and ways so far -/
def multN : Nat → Int → List Nat → Int
  | _, w, [] => w
  | t, w, c :: r => multN (t + c) (w * PySem.W.mcComb ((t + c : Nat) : Int) (c : Int)) r
theorem fp_le {n : Nat} : ∀ k : Nat, k ≤ n → Builtin.Math.fallingProduct (n : Int) k ≤ ((n ^ k : Nat) : Int)
  | 0, _ => by
    rw [PySem.W.mc_fp_zero]
    exact Int.le_refl _
  | k + 1, h => by
    have z := fp_le (n := n) k (by omega)
    have p := PySem.W.mc_fp_pos (n := (n : Int)) k (by omega)
    rw [PySem.W.mc_fp_succ, Nat.pow_succ, Int.natCast_mul]
    exact Int.mul_le_mul z (by omega) (by omega) (by omega)
theorem comb_le {a b : Nat} (hb : b ≤ a) : 1 ≤ PySem.W.mcComb (a : Int) (b : Int) ∧ PySem.W.mcComb (a : Int) (b : Int) ≤ ((a ^ b : Nat) : Int) := by
  refine ⟨PySem.W.mcComb_pos (by omega) (by omega), ?_⟩
  rcases Nat.eq_zero_or_pos a with h0 | h0
  · have hb0 : b = 0 := by omega
    subst h0 hb0
    have e : PySem.W.mcComb ((0 : Nat) : Int) ((0 : Nat) : Int) = 1 := PySem.W.mcComb_ends (a := 0) (b := 0) (by decide) (by decide) (.inl rfl)
    rw [e]
    decide
  · rw [PySem.W.mcComb_at (a := (a : Int)) (b := (b : Int)) (by omega) (by omega) rfl]
    obtain ⟨m, hm⟩ : ∃ m : Nat, min (b : Int) ((a : Int) - (b : Int)) = m := ⟨(min (b : Int) ((a : Int) - (b : Int))).toNat, by omega⟩
    rw [hm, Int.toNat_natCast]
    have h1 := PySem.W.mc_fp_pos (n := (a : Int)) m (by omega)
    have h2 := Int.ediv_le_self (a := Builtin.Math.fallingProduct (a : Int) m) (Builtin.Math.fallingProduct (m : Int) m) (by omega)
    have h3 := fp_le (n := a) m (by omega)
    have h4 : a ^ m ≤ a ^ b := Nat.pow_le_pow_right h0 (by omega)
    omega
def spMulti : Sp := fun vs H Q _ => ∃ (a : Addr) (ns : List Nat), vs = [.ref a] ∧ H a = some (.lst (ns.map fun n : Nat => V.int (n : Int))) ∧ ns.sum ≤ 400 ∧ (1 ≤ multN 0 1 ns → multN 0 1 ns ≤ ((400 ^ 400 : Nat) : Int) → Q (.int (multN 0 1 ns)) H)
abbrev sMulti : Stmt := top 4
section
variable {P : Program} {w : World} {K : PySem.W.Frag} {mg : Str → Option Value} {base : Heap}
theorem scMulti : FnScope ["counts", "ways", "total", "count"] ["counts"] (defScope sMulti) := ⟨rfl, rfl, rfl, by decide +kernel, rfl, by decide +kernel, by decide +kernel⟩
theorem ok_multi {f : Addr} {fd : FuncData} (F : Fun K "multinomial" "multinomial" sMulti f fd) (c : mg "comb" = some (.builtin "math.comb")) : FnOk P w K mg base CX0 1 f fd ["counts"] spMulti := by
  refine F.ok scMulti (fun vs H Q E h => ?_) (fun cdv A outer s H vs Q E hr h => ?_)
  · obtain ⟨a, ns, rfl, _⟩ := h
    rfl
  · obtain ⟨a, ns, rfl, ha, hs, q⟩ := h
    refine ⟨_, pss_cons (ps_set (i := 1) scMulti.nd rfl (Or.inl rfl) pe_int)
      (pss_cons (ps_set (i := 2) scMulti.nd rfl (Or.inl rfl) pe_int)
      (pss_cons (ps_for PassesOwn.never rfl (pi_list (pv 0)) (pg_name (i := 3) scMulti.nd rfl (Or.inl rfl))
        (pss_cons (ps_set (i := 2) scMulti.nd rfl (Or.inl rfl) (pe_op op_add (pv 2) (pv 3)))
        (pss_one (ps_set (i := 1) scMulti.nd rfl (Or.inl rfl) (pe_op op_mulW (pv 1) (pe_callBfun cr_comb rfl c (pa_cons (pv 2) (pa_cons (pv 3) pa_nil))))))))
      (pss_one (ps_ret (pv 1))))), ?_⟩
    refine ⟨_, rfl, a, rfl, ⟨_, SqL.of ha⟩, for_list (K := K) (a := a) (xs := ns.map fun n : Nat => V.int (n : Int)) (fun i σ Hx => ∃ (x3 : Option V) (t : Nat) (z : Int), σ = [some (.ref a), some (.int z), some (.int (t : Int)), x3] ∧ Hx = H ∧ t = (ns.take i).sum ∧ 1 ≤ z ∧ z ≤ ((400 ^ t : Nat) : Int) ∧ multN t z (ns.drop i) = multN 0 1 ns)
      ⟨none, 0, 1, rfl, rfl, rfl, by decide, by decide, rfl⟩ (fun i σ Hx _ ⟨_, _, _, _, e, _⟩ => by rw [e]; exact SqL.of ha) ?_ ?_⟩
    · rintro i y σ Hx hi ⟨x3, t, z, rfl, rfl, ht, z1, z2, hm⟩
      rw [List.getElem?_map] at hi
      obtain ⟨n, hn, rfl⟩ : ∃ n, ns[i]? = some n ∧ y = V.int (n : Int) := by
        cases h : ns[i]? with
        | none =>
          rw [h] at hi
          cases hi
        | some n =>
          rw [h] at hi
          exact ⟨n, rfl, (Option.some.inj hi).symm⟩
      have hil : i < ns.length := (List.getElem?_eq_some_iff.mp hn).1
      have et : (ns.take (i + 1)).sum = t + n := by
        rw [List.take_add_one, hn, List.sum_append, ht]
        simp
      have le : t + n ≤ 400 := by
        have e : ns.sum = (ns.take (i + 1)).sum + (ns.drop (i + 1)).sum := by rw [← List.sum_append, List.take_append_drop]
        omega
      have ed : ns.drop i = n :: ns.drop (i + 1) := by
        rw [List.drop_eq_getElem_cons hil]
        congr 1
        exact (List.getElem?_eq_some_iff.mp hn).2
      rw [ed, multN] at hm
      obtain ⟨c1, c2⟩ := comb_le (a := t + n) (b := n) (by omega)
      have c3 : (t + n) ^ n ≤ 400 ^ n := Nat.pow_le_pow_left le n
      have big : ∀ k : Nat, k ≤ 400 → (400 ^ k : Nat) < 2 ^ 3601 := fun k hk => by
        have a1 : 400 ^ k ≤ 512 ^ k := Nat.pow_le_pow_left (by decide) k
        have a2 : 512 ^ k = 2 ^ (9 * k) := by rw [Nat.pow_mul]
        have a3 : 2 ^ (9 * k) < 2 ^ 3601 := Nat.pow_lt_pow_right (by decide) (by omega)
        exact Nat.lt_of_le_of_lt a1 (by rw [a2]; exact a3)
      have b1 : z.natAbs < 2 ^ 3601 := Nat.lt_of_le_of_lt (by omega) (big t (by omega))
      have b2 : (PySem.W.mcComb ((t + n : Nat) : Int) (n : Int)).natAbs < 2 ^ 3601 := Nat.lt_of_le_of_lt (by omega) (big n (by omega))
      refine ⟨_, rfl, _, rfl, _, _, rfl, rfl, _, rfl, _, rfl, _, rfl, t + n, n, rfl, by omega, _, _, rfl, rfl, wide_mul b1 b2 (by decide) (by decide) (by decide), ?_⟩
      refine ⟨_, t + n, z * PySem.W.mcComb ((t + n : Nat) : Int) (n : Int), rfl, rfl, et.symm, ?_, ?_, hm⟩
      · have m1 := Int.mul_le_mul z1 c1 (by decide) (by omega)
        omega
      · have m2 := Int.mul_le_mul z2 (Int.le_trans c2 (Int.ofNat_le.mpr c3)) (by omega) (by omega)
        rw [Nat.pow_add, Int.natCast_mul]
        exact m2
    · rintro σ Hx ⟨x3, t, z, rfl, rfl, ht, z1, z2, hm⟩
      rw [List.length_map, List.drop_length, multN] at hm
      rw [List.length_map, List.take_length] at ht
      subst hm
      have up : (400 ^ t : Nat) ≤ 400 ^ 400 := Nat.pow_le_pow_right (by decide) (by omega)
      exact ⟨_, rfl, q z1 (Int.le_trans z2 (Int.ofNat_le.mpr up))⟩
end
end K2
set_option maxRecDepth 100000
set_option maxHeartbeats 4000000
namespace K2
open PySem PySem.Spec PyProof.Rows L2
/-! ### the size of a word; of a matching's and a permutation's neighbours later -/
def countsN (d : PyData) : List Nat := (tupItems d).map fun e => (countOf e).toNat
def zWord (ds : List PyData) : Int := multN 0 1 (countsN (at0 ds 1))
abbrev sWordSize : Stmt := top 63
/-- the counts of a word or a decorated space -/
def spWordSize : Sp := fun vs H Q _ => ∃ (a : Addr) (xs : List V) (ds : List PyData), vs = [.ref a] ∧ H a = some (.tup xs) ∧ DatAll H xs ds ∧ 2 ≤ ds.length ∧ countsB (at0 ds 1) = true ∧ ∀ H', Same H H' → 1 ≤ zWord ds → zWord ds ≤ ((400 ^ 400 : Nat) : Int) → Q (.int (zWord ds)) H'
theorem sum_nat : ∀ {ds : List PyData}, (∀ d ∈ ds, countB d = true) → ((ds.map fun e => (countOf e).toNat).sum : Int) = (ds.map countOf).sum
  | [], _ => rfl
  | d :: ds, h => by
    have z := sum_nat (ds := ds) fun e he => h e (by simp [he])
    obtain ⟨d0, n, rfl, _, n1, _⟩ := count_cases (h d (by simp))
    have e : countOf (.tuple [d0, .int n]) = n := rfl
    rw [List.map_cons, List.map_cons, List.sum_cons, List.sum_cons, e]
    omega
section
variable {P : Program} {w : World} {K : PySem.W.Frag} {mg : Str → Option Value} {base : Heap}
theorem scWordSize : FnScope ["space", "pair"] ["space"] (defScope sWordSize) := ⟨rfl, rfl, rfl, by decide +kernel, rfl, by decide +kernel, by decide +kernel⟩
theorem ok_wordsize {f fM : Addr} {fd fdM : FuncData} (F : Fun K "word_size" "word_size" sWordSize f fd) (M : DefOk K mg "multinomial" sMulti ["counts"] fM fdM) (c : mg "comb" = some (.builtin "math.comb")) : FnOk P w K mg base CX0 2 f fd ["space"] spWordSize := by
  have GM : FnOk P w K mg base CX0 1 fM fdM ["counts"] spMulti := ok_multi M.F c
  refine F.ok scWordSize (fun vs H Q E h => ?_) (fun cdv A outer s H vs Q E hr h => ?_)
  · obtain ⟨a, xs, ds, rfl, _⟩ := h
    rfl
  · obtain ⟨a, xs, ds, rfl, ha, hx, hl, hc, q⟩ := h
    refine ⟨_, pss_one (ps_ret (pe_call GM hr rfl M.g M.F.kp M.b .nil pass0 (pa_cons (pe_lc (own := [("pair", 1)]) (g := gName 1) (tt := tYes) (te := tOp (rIxT K) (tVar 1) (tC (.int 1))) rfl scWordSize.nd (pi_tup (pe_ix ix_tup (pv 0) pe_int (fun _ _ => rfl))) (blkOk_by (N := ["space", "pair"]) (sc := defScope sWordSize) (by decide +kernel))
            (fun _ _ _ _ _ => pg_name (i := 1) scWordSize.nd rfl (Or.inl rfl)) (fun _ _ _ _ _ => pts_nil) (fun _ _ _ _ _ => pe_ix ix_tup (pv 1) pe_int (fun _ _ => rfl))) pa_nil))), ?_⟩
    obtain ⟨x1, g1, td⟩ := hx.at (j := 1) (List.getElem?_eq_getElem (by omega))
    have e1 : at0 ds 1 = ds[1] := at_of (List.getElem?_eq_getElem (by omega))
    have hc1 : countsB ds[1] = true := by rw [← e1]; exact hc
    have hc2 := hc1
    unfold countsB at hc2
    rw [Bool.and_eq_true, Bool.and_eq_true, Bool.and_eq_true] at hc2
    obtain ⟨es, ees, _, h6⟩ := tupOf_len hc2.1.1
    rw [ees] at td hc2
    have hall := List.all_eq_true.mp (show es.all countB = true from hc2.1.2)
    have hsum : (es.map countOf).sum ≤ 400 := of_decide_eq_true hc2.2.1
    have eN : countsN (at0 ds 1) = es.map fun e => (countOf e).toNat := by
      rw [e1, ees]
      rfl
    cases td with
    | @tup b ys _ hb hy =>
      have hyl := hy.len
      refine ⟨_, rfl, a, _, _, _, rfl, rfl, SqT.of ha, atI_nat (j := 1) g1, b, rfl, ⟨_, SqT.of hb⟩, fun D nD => lc_vals (K := K) (a := b) (xs := ys) (fun i => V.int (countOf (es.getD i .none))) hb (by omega) nD (fun i x Hx hi S R hR => ?_) mono_name fun Hx S hD => ?_⟩
      · obtain ⟨d, hdi, tdd⟩ := hy.get hi
        obtain ⟨d0, n, rfl, hn, n1, _⟩ := count_cases (hall d (List.mem_of_getElem? hdi))
        have g0 : countOf (es.getD i .none) = n := by rw [List.getD_eq_getElem?_getD, hdi]; rfl
        cases tdd with
        | @tup b2 zs _ hb2 hz =>
          cases hz with
          | cons z0 t0 =>
            cases t0 with
            | cons z1 t1 =>
              cases t1
              cases z1
              refine ⟨rfl, _, rfl, b2, _, _, _, rfl, rfl, SqT.of (S _ _ hb2), atI_nat (j := 1) rfl, ?_⟩
              have z := hR Hx fun _ _ e => e
              rw [g0] at z
              exact z
      · have eL : (List.range ys.length).map (fun i => V.int (countOf (es.getD i .none))) = (es.map fun e => (countOf e).toNat).map fun n : Nat => V.int (n : Int) := by
          rw [hyl, List.map_map]
          refine range_map es _ _ fun i d hdi => ?_
          obtain ⟨d0, n, rfl, _, n1, _⟩ := count_cases (hall d (List.mem_of_getElem? hdi))
          have g0 : es.getD i .none = .tuple [d0, .int n] := by rw [List.getD_eq_getElem?_getD, hdi]; rfl
          show V.int (countOf (es.getD i .none)) = V.int (((countOf (.tuple [d0, .int n])).toNat : Nat) : Int)
          rw [g0]
          have e : countOf (.tuple [d0, .int n]) = n := rfl
          rw [e]
          congr 1
          omega
        rw [eL] at hD
        have sm := sum_nat hall
        refine ⟨D, es.map fun e => (countOf e).toNat, rfl, hD, by omega, fun z1 z2 => ?_⟩
        have q' := q Hx S
        unfold zWord at q'
        rw [eN] at q'
        exact q' z1 z2
end
end K2
set_option maxRecDepth 100000
set_option maxHeartbeats 4000000
namespace K2
open PySem PySem.Spec PyProof.Rows L2
/-! ### permutations by the positions that are held -/
def sgn : Nat → Int
  | 0 => 1
  | h + 1 => -sgn h
def permN (n m : Nat) : Nat → Int
  | 0 => 0
  | h + 1 => permN n m h + sgn h * PySem.W.mcComb (m : Int) (h : Int) * ((Builtin.Math.factorialNat (n - h) : Nat) : Int)
def zPerm (ds : List PyData) : Int := permN (intOf (at0 ds 1)).toNat (tupItems (at0 ds 2)).length ((tupItems (at0 ds 2)).length + 1)
abbrev sPermSize : Stmt := top 69
abbrev sMoved : Stmt := top 5
/-- count_moved(n, m) -/
def spMoved : Sp := fun vs H Q _ => ∃ n m : Nat, vs = [.int n, .int m] ∧ m ≤ n ∧ n ≤ 60 ∧ Q (.int (permN n m (m + 1))) H
theorem sgn_abs : ∀ h, (sgn h).natAbs = 1
  | 0 => rfl
  | h + 1 => by
    show (-sgn h).natAbs = 1
    rw [Int.natAbs_neg, sgn_abs h]
theorem perm_term {n m h : Nat} (hm : h ≤ m) (h60 : m ≤ 60) (hn : n ≤ 60) : (PySem.W.mcComb (m : Int) (h : Int)).natAbs < 2 ^ 361 ∧ (((Builtin.Math.factorialNat (n - h) : Nat) : Int)).natAbs < 2 ^ 541 := by
  obtain ⟨c1, c2⟩ := comb_le hm
  have a1 : m ^ h ≤ 64 ^ h := Nat.pow_le_pow_left (by omega) h
  have a2 : 64 ^ h = 2 ^ (6 * h) := by rw [Nat.pow_mul]
  have a3 : 2 ^ (6 * h) < 2 ^ 361 := Nat.pow_lt_pow_right (by decide) (by omega)
  have b1 := fact_le (n - h) (by omega)
  have b2 : 2 ^ (9 * (n - h)) < 2 ^ 541 := Nat.pow_lt_pow_right (by decide) (by omega)
  refine ⟨Nat.lt_of_le_of_lt (show _ ≤ m ^ h by omega) (Nat.lt_of_le_of_lt a1 (by rw [a2]; exact a3)), ?_⟩
  rw [Int.natAbs_natCast]
  exact Nat.lt_of_le_of_lt b1 b2
theorem perm_abs {n m : Nat} (h60 : m ≤ 60) (hn : n ≤ 60) : ∀ h, h ≤ m + 1 → (permN n m h).natAbs ≤ h * 2 ^ 904
  | 0, _ => Nat.zero_le _
  | h + 1, hh => by
    have z := perm_abs h60 hn h (by omega)
    obtain ⟨t1, t2⟩ := perm_term (n := n) (m := m) (h := h) (by omega) h60 hn
    have s1 : (sgn h * PySem.W.mcComb (m : Int) (h : Int)).natAbs < 2 ^ (2 + 361) := wide_lt (by rw [sgn_abs]; decide) t1
    have s2 : (sgn h * PySem.W.mcComb (m : Int) (h : Int) * ((Builtin.Math.factorialNat (n - h) : Nat) : Int)).natAbs < 2 ^ (2 + 361 + 541) := wide_lt s1 t2
    have s3 : (permN n m (h + 1)).natAbs ≤ (permN n m h).natAbs + (sgn h * PySem.W.mcComb (m : Int) (h : Int) * ((Builtin.Math.factorialNat (n - h) : Nat) : Int)).natAbs := Int.natAbs_add_le _ _
    rw [Nat.succ_mul]
    have s4 : 2 ^ (2 + 361 + 541) = 2 ^ 904 := rfl
    rw [s4] at s2
    exact Nat.le_trans s3 (Nat.add_le_add z (Nat.le_of_lt s2))
section
variable {P : Program} {w : World} {K : PySem.W.Frag} {mg : Str → Option Value} {base : Heap}
theorem scPermSize : FnScope ["space", "n", "moved"] ["space"] (defScope sPermSize) := ⟨rfl, rfl, rfl, by decide +kernel, rfl, by decide +kernel, by decide +kernel⟩
theorem scMoved : FnScope ["n", "moved", "total", "sign", "kept"] ["n", "moved"] (defScope sMoved) := ⟨rfl, rfl, rfl, by decide +kernel, rfl, by decide +kernel, by decide +kernel⟩
theorem ok_moved {f : Addr} {fd : FuncData} (F : Fun K "count_moved" "count_moved" sMoved f fd) (T : Nm mg) (c : mg "comb" = some (.builtin "math.comb")) (c2 : mg "factorial" = some (.builtin "math.factorial")) : FnOk P w K mg base CX0 1 f fd ["n", "moved"] spMoved := by
  refine F.ok scMoved (fun vs H Q E h => ?_) (fun cdv A outer s H vs Q E hr h => ?_)
  · obtain ⟨n, m, rfl, _⟩ := h
    rfl
  · obtain ⟨n', m', rfl, len', n60, q⟩ := h
    refine ⟨_, pss_cons (ps_set (i := 2) scMoved.nd rfl (Or.inl rfl) pe_int)
      (pss_cons (ps_set (i := 3) scMoved.nd rfl (Or.inl rfl) pe_int)
      (pss_cons (ps_for PassesOwn.never rfl (pi_range1 rfl T.range (pa_cons (pe_op op_add (pv 1) pe_int) pa_nil)) (pg_name (i := 4) scMoved.nd rfl (Or.inl rfl))
        (pss_cons (ps_set (i := 2) scMoved.nd rfl (Or.inl rfl) (pe_op op_add (pv 2) (pe_op op_mulW (pe_op op_mulW (pv 3) (pe_callBfun cr_comb rfl c (pa_cons (pv 1) (pa_cons (pv 4) pa_nil))))
            (pe_callBfun cr_fact rfl c2 (pa_cons (pe_op op_sub (pv 0) (pv 4)) pa_nil)))))
        (pss_one (ps_set (i := 3) scMoved.nd rfl (Or.inl rfl) (pe_un un_neg (pv 3))))))
      (pss_one (ps_ret (pv 2))))), ?_⟩
    refine ⟨_, rfl, _, _, rfl, rfl, (m' : Int) + 1, rfl, by omega, by omega, ?_⟩
    rw [show ((m' : Int) + 1).toNat = m' + 1 by omega]
    refine for_range (n := m' + 1) (fun i σ Hx => ∃ x5 : Option V, σ = [some (.int n'), some (.int m'), some (.int (permN n' m' i)), some (.int (sgn i)), x5] ∧ Hx = H) ⟨none, rfl, rfl⟩ ?_ ?_
    · rintro i σ Hx hi ⟨x5, rfl, rfl⟩
      obtain ⟨c1, c3⟩ := perm_term (n := n') (m := m') (h := i) (by omega) (by omega) (by omega)
      have w1 : CMulW (sgn i) (PySem.W.mcComb (m' : Int) (i : Int)) := wide_mul (a := 2) (by rw [sgn_abs]; decide) c1 (by decide) (by decide) (by decide)
      have s1 : (sgn i * PySem.W.mcComb (m' : Int) (i : Int)).natAbs < 2 ^ (2 + 361) := wide_lt (by rw [sgn_abs]; decide) c1
      have w2 : CMulW (sgn i * PySem.W.mcComb (m' : Int) (i : Int)) ((Builtin.Math.factorialNat (n' - i) : Nat) : Int) := wide_mul s1 c3 (by decide) (by decide) (by decide)
      refine ⟨_, rfl, _, rfl, _, rfl, _, rfl, m', i, ?_, by omega, _, _, rfl, rfl, w1, _, rfl, _, rfl, _, _, rfl, rfl, n' - i, ?_, by omega, _, _, rfl, rfl, w2, _, _, rfl, rfl, ?_⟩
      · show [V.int (m' : Int), V.int (0 + (i : Int))] = _
        rw [Int.zero_add]
      · show [V.int ((n' : Int) - (0 + (i : Int)))] = _
        rw [show (n' : Int) - (0 + (i : Int)) = ((n' - i : Nat) : Int) by omega]
      · exact ⟨_, rfl, _, rfl, _, rfl, rfl⟩
    · rintro σ Hx ⟨x5, rfl, rfl⟩
      exact ⟨_, rfl, q⟩
theorem ok_permsize {f fM : Addr} {fd fdM : FuncData} (F : Fun K "permutation_size" "permutation_size" sPermSize f fd) (T : Nm mg) (M : DefOk K mg "count_moved" sMoved ["n", "moved"] fM fdM) (c : mg "comb" = some (.builtin "math.comb")) (c2 : mg "factorial" = some (.builtin "math.factorial")) : FnOk P w K mg base CX0 2 f fd ["space"] (spSize 3 pPerm zPerm) := by
  have GM : FnOk P w K mg base CX0 1 fM fdM ["n", "moved"] spMoved := ok_moved M.F T c c2
  refine F.ok scPermSize (fun vs H Q E h => ?_) (fun cdv A outer s H vs Q E hr h => ?_)
  · obtain ⟨a, xs, ds, rfl, _⟩ := h
    rfl
  · obtain ⟨a, xs, ds, rfl, ha, hx, hl, hp, q⟩ := h
    match ds, hl, hx with
    | [d0, d1, d2], _, .cons (v := x0) t0 (.cons (v := x1) t1 (.cons (v := x2) t2 .nil)) =>
      have hp' : (btw 0 60 d1 && tupOf 0 (intOf d1) d2 && ((tupItems d2).all (btw 0 (intOf d1 - 1)) && ascB (tupItems d2))) = true := hp
      rw [Bool.and_eq_true, Bool.and_eq_true] at hp'
      obtain ⟨n, rfl, n0, n60⟩ := btw_int hp'.1.1
      obtain ⟨es, rfl, _, len⟩ := tupOf_len hp'.1.2
      obtain rfl := dat_int t1
      obtain ⟨n', rfl⟩ : ∃ m : Nat, n = m := ⟨n.toNat, by omega⟩
      have len' : es.length ≤ n' := by
        have z : (es.length : Int) ≤ (n' : Int) := len
        omega
      cases t2 with
      | @tup b ys _ hb hy =>
        have hyl := hy.len
        refine ⟨_, pss_cons (ps_asg (pe_slice sl_tupA (pv 0) (po_some pe_int) po_none) (pg_tup rfl (pgs_cons (pg_name (i := 1) scPermSize.nd rfl (Or.inl rfl)) (pgs_cons (pg_name (i := 2) scPermSize.nd rfl (Or.inl rfl)) pgs_nil))))
          (pss_one (ps_ret (pe_call GM hr rfl M.g M.F.kp M.b .nil pass0 (pa_cons (pv 1) (pa_cons (pe_callB call_len_seq (by rfl) T.len PySem.boot_len (pa_cons (pv 2) pa_nil)) pa_nil))))), ?_⟩
        refine ⟨_, rfl, 1, rfl, ?_⟩
        dsimp only [tNoPart]
        refine slK_of 1 ha fun b1 Hb Sb hb1 => ?_
        refine ⟨b1, [.int n', .ref b], rfl, SqT.of hb1, rfl, _, _, rfl, _, _, rfl, rfl, ?_⟩
        have hbb := Sb _ _ hb
        refine ⟨_, rfl, _, rfl, b, ys, rfl, .inr (SqT.of hbb), n', es.length, ?_, len', by omega, q Hb Sb⟩
        show [V.int (n' : Int), V.int (ys.length : Int)] = _
        rw [hyl]
end
end K2
set_option maxRecDepth 100000
set_option maxHeartbeats 4000000
namespace K2
open PySem PySem.Spec PyProof.Rows L2
/-! ### products without a bound -/
abbrev sMul : Stmt := top 2
def vints (ns : List Nat) : List V := ns.map fun n : Nat => V.int (n : Int)
def prodN : List Nat → Nat
  | [] => 1
  | n :: r => n * prodN r
theorem prod_take {ns : List Nat} : ∀ {i : Nat} {n : Nat}, ns[i]? = some n → prodN (ns.take (i + 1)) = prodN (ns.take i) * n := by
  induction ns with
  | nil => intro i n h; simp at h
  | cons a l ih =>
    intro i n h
    cases i with
    | zero =>
      have e : a = n := by simpa using h
      subst e
      simp [prodN]
    | succ i =>
      have z := ih (i := i) (n := n) (by simpa using h)
      rw [List.take_succ_cons, List.take_succ_cons, prodN, prodN, z, Nat.mul_assoc]
theorem prod_pos {ns : List Nat} (h : ∀ n ∈ ns, 1 ≤ n) : 1 ≤ prodN ns := by
  induction ns with
  | nil => exact Nat.le_refl 1
  | cons a l ih =>
    have z := ih fun n hn => h n (by simp [hn])
    have y := h a (by simp)
    rw [prodN]
    exact Nat.mul_le_mul y z
theorem prod_le {ns : List Nat} (h : ∀ n ∈ ns, 1 ≤ n) (i : Nat) : prodN (ns.take i) ≤ prodN ns := by
  induction ns generalizing i with
  | nil => simp
  | cons a l ih =>
    have hl : ∀ n ∈ l, 1 ≤ n := fun n hn => h n (by simp [hn])
    have y := h a (by simp)
    cases i with
    | zero =>
      show 1 ≤ prodN (a :: l)
      exact prod_pos h
    | succ i =>
      rw [List.take_succ_cons, prodN, prodN]
      exact Nat.mul_le_mul_left a (ih hl i)
theorem in_zero : ∀ ns : List Nat, inV (.int 0) (vints ns) = ns.any (· == 0)
  | [] => rfl
  | n :: l => by
    have z := in_zero l
    show (eqV (.int (n : Int)) (.int 0) || inV (.int 0) (vints l)) = ((n == 0) || l.any (· == 0))
    rw [z]
    congr 1
    show ((n : Int) == 0) = (n == 0)
    cases n with
    | zero => rfl
    | succ n => rfl
theorem flat_ints : ∀ ns : List Nat, (vints ns).all flatV = true
  | [] => rfl
  | n :: l => by
    show (true && (vints l).all flatV) = true
    rw [flat_ints l]
    rfl
/-- multiply(list, None): the product, if it is not too great -/
def spMul : Sp := fun vs H Q _ => ∃ (a : Addr) (ns : List Nat), vs = [.ref a, .non] ∧ H a = some (.lst (vints ns)) ∧ ((∀ n ∈ ns, 1 ≤ n) → prodN ns < 2 ^ 400000) ∧ (∀ n ∈ ns, n < 2 ^ 400000) ∧ ((0 ∈ ns → Q (.int 0) H) ∧ ((∀ n ∈ ns, 1 ≤ n) → Q (.int (prodN ns : Nat)) H))
section
variable {P : Program} {w : World} {K : PySem.W.Frag} {mg : Str → Option Value} {base : Heap}
theorem scMul : FnScope ["factors", "bound", "result", "factor"] ["factors", "bound"] (defScope sMul) := ⟨rfl, rfl, rfl, by decide +kernel, rfl, by decide +kernel, by decide +kernel⟩
theorem ok_mul {f : Addr} {fd : FuncData} (F : FunD K "multiply" "multiply" (defArgs sMul) (defBody sMul) (defScope sMul) [.non] [] f fd) : FnOk P w K mg base CX0 1 f fd ["factors", "bound"] spMul := by
  refine F.ok scMul (fun vs H Q E h => ?_) (fun cdv A outer s H vs Q E hr h => ?_)
  · obtain ⟨a, ns, rfl, _⟩ := h
    rfl
  · obtain ⟨a, ns, rfl, ha, hb, hs, q0, q1⟩ := h
    refine ⟨_, PSs.nox (pss_cons (ps_if (pt_cmpR op_in_seq pe_int (pv 0) rfl) (pss_one (ps_ret pe_int)) pss_nil)
      (pss_cons (ps_set (i := 2) scMul.nd rfl (Or.inl rfl) pe_int)
      (pss_cons (ps_for PassesOwn.never rfl (pi_list (pv 0)) (pg_name (i := 3) scMul.nd rfl (Or.inl rfl))
        (pss_cons (ps_if (PW.pt (pw_and (pt_cmpR op_notN (pv 1) pe_non (nomark _)) (pw_and1 (pt_cmpR op_ge (pv 2) (pv 1) (nomark _))))) (pss_one (ps_ret (pv 2))) pss_nil)
        (pss_one (ps_set (i := 2) scMul.nd rfl (Or.inl rfl) (pe_op op_mulW (pv 2) (pv 3))))))
      (pss_one (ps_ret (pv 2)))))), ?_⟩
    refine ⟨_, rfl, a, vints ns, rfl, .inl (SqL.of ha), rfl, flat_ints ns, _, rfl, ?_⟩
    show (if inV (.int 0) (vints ns) = true then _ else _)
    rw [in_zero]
    by_cases hz : 0 ∈ ns
    · have e : ns.any (· == 0) = true := List.any_eq_true.mpr ⟨0, hz, rfl⟩
      exact if_t e (q0 hz)
    · have e : ns.any (· == 0) = false := by
        cases h : ns.any (· == 0) with
        | false => rfl
        | true =>
          obtain ⟨x, hx, ex⟩ := List.any_eq_true.mp h
          exact absurd (by rw [← beq_iff_eq.mp ex]; exact hx) hz
      have pos : ∀ n ∈ ns, 1 ≤ n := fun n hn => Nat.pos_of_ne_zero fun z => hz (by rw [← z]; exact hn)
      refine if_f e ⟨_, rfl, a, rfl, ⟨_, SqL.of ha⟩, for_list (K := K) (a := a) (xs := vints ns) (fun i σ Hx => ∃ x3 : Option V, σ = [some (.ref a), some .non, some (.int (prodN (ns.take i) : Nat)), x3] ∧ Hx = H) ⟨none, rfl, rfl⟩ (fun i σ Hx _ ⟨_, _, e⟩ => by rw [e]; exact SqL.of ha) ?_ ?_⟩
      · rintro i y σ Hx hi ⟨x3, rfl, rfl⟩
        have hi' : (ns.map fun n : Nat => V.int (n : Int))[i]? = some y := hi
        rw [List.getElem?_map] at hi'
        obtain ⟨n, hn, rfl⟩ : ∃ n, ns[i]? = some n ∧ y = V.int (n : Int) := by
          cases h : ns[i]? with
          | none =>
            rw [h] at hi'
            cases hi'
          | some n =>
            rw [h] at hi'
            exact ⟨n, rfl, (Option.some.inj hi').symm⟩
        have b1 : ((prodN (ns.take i) : Nat) : Int).natAbs < 2 ^ 400000 := by
          rw [Int.natAbs_natCast]
          exact Nat.lt_of_le_of_lt (prod_le pos i) (hb pos)
        have b2 : ((n : Nat) : Int).natAbs < 2 ^ 400000 := by
          rw [Int.natAbs_natCast]
          exact hs n (List.mem_of_getElem? hn)
        refine ⟨_, rfl, rfl, _, rfl, if_f rfl (if_f rfl ⟨_, rfl, _, rfl, _, _, rfl, rfl, wide_mul b1 b2 (by decide) (by decide) (by decide), some (.int (n : Int)), ?_, rfl⟩)⟩
        show [some (V.ref a), some .non, some (V.int (((prodN (ns.take i) : Nat) : Int) * (n : Int))), some (V.int (n : Int))] = _
        rw [prod_take hn, Int.natCast_mul]
      · rintro σ Hx ⟨x3, rfl, rfl⟩
        have q2 := q1 pos
        have el : ns.take (vints ns).length = ns := List.take_of_length_le (by unfold vints; rw [List.length_map]; exact Nat.le_refl _)
        rw [el]
        exact ⟨_, rfl, q2⟩
end
end K2
set_option maxRecDepth 100000
set_option maxHeartbeats 4000000
namespace L2
open PySem PySem.Spec PyProof.Rows
section
variable {X : Cx}
/-- the ints i, i + c, .. -/
def rgC (i c : Int) (n : Nat) : List V := (List.range n).map fun k => V.int (i + (k : Nat) * c)
theorem rgC_length (i c : Int) (n : Nat) : (rgC i c n).length = n := by unfold rgC; rw [List.length_map, List.length_range]
theorem vals_rgC {i c : Int} {n : Nat} {acc : Array Value} (h : ItemsOf (fun k v => ∃ t, v = .int (i + k * c) t) acc n) : Vals (rgC i c n) acc.toList := by
  have e : acc.toList.length = n := by rw [Array.length_toList]; exact h.1
  unfold rgC
  rw [← e]
  refine vals_of_get acc.toList _ fun j u hj => ?_
  obtain ⟨t, rfl⟩ := h.2 j u (by rw [← hj, Array.getElem?_toList])
  exact ⟨t, rfl⟩
def tLstRg3 (ta : TA) : TE := fun σ H Q => ta σ H fun vs H1 => ∃ (i j c : Int) (n : Nat), vs = [.int i, .int j, .int c] ∧ RgC i j c n ∧ n ≤ 2 ^ 24 ∧ ∀ q, H1 q = none → Q (.ref q) (upd H1 q (.lst (rgC i c n)))
/-- list(range(a, b, c)) -/
theorem pe_listRg3 {a b c : Expr} {ta : TA} {p pos p2 pos2 : Pos} (hc : X.calm = true) (hgl : Gl X "list") (hml : X.mg "list" = none) (hg : Gl X "range") (hm : X.mg "range" = none) (ha : PA X [a, b, c] ta)
    (hs : starEach [a, b, c] X.env = (false, eval a X.env) :: starEach [b, c] X.env := by rfl) (hpl : (backTo pos (starEach [b, c] X.env)).any (·.1) = false := by rfl)
    (na : starEach [.Call (.Name "range" p) [a, b, c] [] pos] X.env = (false, eval (.Call (.Name "range" p) [a, b, c] [] pos) X.env) :: starEach [] X.env := by rfl) :
    PE X (.Call (.Name "list" p2) [.Call (.Name "range" p) [a, b, c] [] pos] [] pos2) (tLstRg3 ta) := by
  refine ⟨fun pins s σ H Q I h => ?_⟩
  have mk : wpAny (model X.prog X.w) X.A (eval (.Call (.Name "range" p) [a, b, c] [] pos) X.env) (fun x s' => ∃ r i j k t u v n H', x = .ref r ∧ IsRange s'.heap r i j k t u v ∧ Inv X pins σ H' s' ∧ RgC i j k n ∧ n ≤ 2 ^ 24 ∧ ∀ q, H' q = none → Q (.ref q) (upd H' q (.lst (rgC i k n)))) X.xe s := by
    refine Call_ (ld_blt I hg hm boot_range (PyProof.Rows.callWith_type1 (thn (ha.run pos pins s σ H _ I h) fun us s1 ⟨vs, H1, I1, r1, q1⟩ => ?_) hs hpl))
    obtain ⟨i, j, k, n, e, rg, hn, q⟩ := q1
    subst e
    cases r1 with
    | cons r rr =>
      cases rr with
      | cons r' rr =>
        cases rr with
        | cons r'' rr =>
          cases rr
          obtain ⟨t, rfl⟩ := r
          obtain ⟨t', rfl⟩ := r'
          obtain ⟨t'', rfl⟩ := r''
          exact call_range_3 rg.1 ⟨_, i, j, k, _, _, _, n, H1, rfl, IsRange.new _ _ _ _ _ _ _, I1.kept fun b u e => Heap.get?_push_of_some _ e, rg, hn, q⟩ (.inl (PyProof.noPylong_small rg.2.1))
  refine Call_ (ld_blt I hgl hml boot_list (PyProof.Rows.callWith_type1 (args_cons (thn mk fun x s1 ⟨r, i, j, k, t, u, v, n, H1, ex, hr, I1, rg, hn, q⟩ => args_nil ?_) na) na))
  subst ex
  refine call_list_range (n := n) (I1.ok.hd hc) hr rg.2.2.1 rg.2.2.2 hn fun h' tk acc c' hk e' hi => ?_
  refine ⟨.ref s1.heap.objs.size, upd H1 s1.heap.objs.size (.lst (rgC i k n)), I1.laid hk (Nat.le_refl _) (show ObjOk X.prog X.w _ _ _ (.lst (rgC i k n)) from ⟨?_, acc.toList, c', vals_rgC hi, ?_⟩), rfl, q _ (I1.hok.fresh (Nat.le_refl _))⟩
  · rw [rgC_length, sizeLine_eq]; omega
  · rw [Array.toArray_toList]; exact e'
end
end L2
namespace K2
open PySem PySem.Spec PyProof.Rows L2
/-! ### the size of a matching -/
def odds (m : Nat) : List Nat := (List.range m).map fun k => 1 + k * 2
def zMatch (ds : List PyData) : Int := (prodN (odds (intOf (at0 ds 1)).toNat) : Nat)
abbrev sMatSize : Stmt := top 68
theorem odds_pos {m : Nat} : ∀ n ∈ odds m, 1 ≤ n := fun n hn => by
  obtain ⟨k, _, rfl⟩ := List.mem_map.mp hn
  omega
theorem odds_lt {m : Nat} (h : m ≤ 200) : ∀ n ∈ odds m, n < 400 := fun n hn => by
  obtain ⟨k, hk, rfl⟩ := List.mem_map.mp hn
  have z := List.mem_range.mp hk
  omega
theorem prodN_le {b : Nat} : ∀ {ns : List Nat}, (∀ n ∈ ns, n ≤ b) → prodN ns ≤ b ^ ns.length
  | [], _ => Nat.le_refl _
  | a :: l, h => by
    have z := prodN_le (ns := l) fun n hn => h n (by simp [hn])
    have y := h a (by simp)
    show a * prodN l ≤ b ^ (l.length + 1)
    rw [Nat.pow_succ, Nat.mul_comm]
    exact Nat.mul_le_mul z y
theorem match_le {m : Nat} (h : m ≤ 200) : prodN (odds m) ≤ 2 ^ 1800 := by
  have z := prodN_le (b := 512) (ns := odds m) fun n hn => by
    have := odds_lt h n hn
    omega
  have l : (odds m).length = m := by unfold odds; rw [List.length_map, List.length_range]
  rw [l] at z
  have e : 512 ^ m = 2 ^ (9 * m) := by rw [Nat.pow_mul]
  rw [e] at z
  exact Nat.le_trans z (Nat.pow_le_pow_right (by decide) (by omega))
theorem size_step2 (a b : Int) : Builtin.Range.rangeSize a b 2 = if a < b then (b - a - 1) / 2 + 1 else 0 := by
  unfold Builtin.Range.rangeSize
  simp only [show (2 : Int) > 0 by decide, if_true]
theorem small_step2 {a b : Int} (ha : -(2 ^ 62) ≤ a) (ha' : a < 2 ^ 62) (hb : -(2 ^ 62) ≤ b) (hb' : b < 2 ^ 62) : Builtin.Range.small a b 2 = true := by
  unfold Builtin.Range.small
  rw [size_step2]
  simp only [Builtin.Range.rangeFitsLong, Bool.and_eq_true, Bool.or_eq_true, decide_eq_true_eq, beq_iff_eq, show (2 : Int) > 0 by decide, if_true]
  split <;> omega
theorem step_two {m : Nat} (h : m ≤ 200) : RgC 1 (2 * (m : Int)) 2 m := by
  refine ⟨by decide, by decide, small_step2 (by omega) (by omega) (by omega) (by omega), ?_⟩
  rw [size_step2]
  split <;> omega
section
variable {P : Program} {w : World} {K : PySem.W.Frag} {mg : Str → Option Value} {base : Heap}
theorem scMatSize : FnScope ["space"] ["space"] (defScope sMatSize) := ⟨rfl, rfl, rfl, by decide +kernel, rfl, by decide +kernel, by decide +kernel⟩
theorem ok_matsize {f fM : Addr} {fd fdM : FuncData} (F : Fun K "matching_size" "matching_size" sMatSize f fd) (T : Nm mg) (ml : mg "list" = none) (mk : PySem.W.keepIn K (.ref fM) = true) (mb : L2.Binds K fdM ["factors", "bound"] [Value.none]) (mgm : mg "multiply" = some (.ref fM)) (GM : FnOk P w K mg base CX0 1 fM fdM ["factors", "bound"] spMul) : FnOk P w K mg base CX0 2 f fd ["space"] (spSize 2 pMatching zMatch) := by
  refine F.ok scMatSize (fun vs H Q E h => ?_) (fun cdv A outer s H vs Q E hr h => ?_)
  · obtain ⟨a, xs, ds, rfl, _⟩ := h
    rfl
  · obtain ⟨a, xs, ds, rfl, ha, hx, hl, hp, q⟩ := h
    match ds, hl, hx with
    | [d0, d1], _, .cons (v := x0) t0 (.cons (v := x1) t1 .nil) =>
      obtain ⟨n, rfl, n0, n2⟩ := btw_int (show btw 0 200 d1 = true from hp)
      obtain rfl := dat_int t1
      obtain ⟨m, rfl⟩ : ∃ m : Nat, n = m := ⟨n.toNat, by omega⟩
      have hm : m ≤ 200 := by omega
      refine ⟨_, pss_one (ps_ret (pe_call GM hr rfl mgm mk mb (Paired.cons (F := RelV) (a := .non) (b := Value.none) rfl .nil) pass0 (pa_cons (pe_listRg3 rfl (by rfl) ml (by rfl) T.range (pa_cons pe_int (pa_cons (pe_op op_mul pe_int (pe_ix ix_tup (pv 0) pe_int (fun _ _ => rfl))) (pa_cons pe_int pa_nil)))) pa_nil))), ?_⟩
      refine ⟨_, rfl, a, _, _, _, rfl, rfl, SqT.of ha, atI_nat (j := 1) rfl, _, _, rfl, rfl, .inl (by decide), 1, 2 * (m : Int), 2, m, rfl, step_two hm, by omega, fun p np => ?_⟩
      have S := same_new (o := HO.lst (rgC 1 2 m)) np
      have e : rgC 1 2 m = vints (odds m) := by
        unfold rgC vints odds
        rw [List.map_map]
        refine List.map_congr_left fun k _ => ?_
        show V.int (1 + (k : Int) * 2) = V.int (((1 + k * 2 : Nat) : Nat) : Int)
        congr 1
      have big : (2 : Nat) ^ 1800 < 2 ^ 400000 := Nat.pow_lt_pow_right (by decide) (by decide)
      refine ⟨p, odds m, rfl, by rw [upd_same, e], fun _ => Nat.lt_of_le_of_lt (match_le hm) big, fun n hn => ?_, fun z => ?_, fun _ => ?_⟩
      · have := odds_lt hm n hn
        exact Nat.lt_of_lt_of_le this (Nat.le_trans (show 400 ≤ 2 ^ 9 by decide) (Nat.pow_le_pow_right (by decide) (by decide)))
      · have := odds_pos 0 z
        omega
      · have q0 := q _ S
        exact q0
end
end K2
set_option maxRecDepth 100000
set_option maxHeartbeats 4000000
namespace K2
open PySem PySem.Spec PyProof.Rows L2
/-! ### numbers of ways, by ints -/
abbrev Ps := List (Int × Nat)
def dkOf (ps : Ps) : List (Key × V) := ps.map fun p => (Sum.inl p.1, V.int (p.2 : Nat))
def getP (ps : Ps) (k : Int) : Nat := ((ps.find? fun p => decide (p.1 = k)).map (·.2)).getD 0
def putP (ps : Ps) (k : Int) (v : Nat) : Ps := if (ps.any fun p => decide (p.1 = k)) = true then ps.map (fun p => if p.1 = k then (p.1, v) else p) else ps ++ [(k, v)]
def tot (ps : Ps) : Nat := (ps.map (·.2)).sum
theorem getP_pos {p : Int × Nat} {r : Ps} {k : Int} (e : p.1 = k) : getP (p :: r) k = p.2 := by simp [getP, List.find?_cons, e]
theorem getP_neg {p : Int × Nat} {r : Ps} {k : Int} (e : ¬ p.1 = k) : getP (p :: r) k = getP r k := by simp [getP, List.find?_cons, e]
theorem val_dk (k : Int) : ∀ ps : Ps, (valV (dkOf ps) (Sum.inl k)).getD (.int 0) = .int (getP ps k : Nat)
  | [] => rfl
  | p :: r => by
    by_cases e : p.1 = k
    · have z : valV (dkOf (p :: r)) (Sum.inl k) = some (V.int (p.2 : Nat)) := valV_pos (by show Sum.inl p.1 = Sum.inl k; rw [e])
      rw [z, getP_pos e]
      rfl
    · have z : valV (dkOf (p :: r)) (Sum.inl k) = valV (dkOf r) (Sum.inl k) := valV_neg fun z => e (Sum.inl.inj z)
      rw [z, getP_neg e]
      exact val_dk k r
theorem any_dk (k : Int) (ps : Ps) : ((dkOf ps).any fun kv => decide (kv.1 = Sum.inl k)) = ps.any fun p => decide (p.1 = k) := by
  unfold dkOf
  rw [List.any_map]
  congr 1
  funext p
  show decide (Sum.inl p.1 = Sum.inl k) = decide (p.1 = k)
  by_cases e : p.1 = k
  · rw [decide_eq_true e, decide_eq_true (by rw [e])]
  · rw [decide_eq_false e, decide_eq_false fun z => e (Sum.inl.inj z)]
theorem put_dk (ps : Ps) (k : Int) (v : Nat) : putK (dkOf ps) (Sum.inl k) (.int (v : Nat)) = dkOf (putP ps k v) := by
  unfold putK putP
  rw [any_dk]
  split
  · unfold dkOf
    rw [List.map_map, List.map_map]
    refine List.map_congr_left fun p _ => ?_
    show (if Sum.inl p.1 = Sum.inl k then (Sum.inl p.1, V.int (v : Nat)) else (Sum.inl p.1, V.int (p.2 : Nat))) = (Sum.inl (if p.1 = k then (p.1, v) else p).1, V.int ((if p.1 = k then (p.1, v) else p).2 : Nat))
    by_cases e : p.1 = k
    · rw [if_pos e, if_pos (by rw [e])]
    · rw [if_neg e, if_neg fun z => e (Sum.inl.inj z)]
  · unfold dkOf
    rw [List.map_append]
    rfl
theorem get_none {k : Int} : ∀ {ps : Ps}, (ps.any fun p => decide (p.1 = k)) = false → getP ps k = 0
  | [], _ => rfl
  | p :: r, h => by
    rw [List.any_cons, Bool.or_eq_false_iff] at h
    rw [getP_neg (of_decide_eq_false h.1)]
    exact get_none h.2
theorem repl_same {k : Int} {v : Nat} {ps : Ps} (h : ∀ p ∈ ps, p.1 ≠ k) : ps.map (fun p => if p.1 = k then (p.1, v) else p) = ps := by
  have e : ps.map (fun p => if p.1 = k then (p.1, v) else p) = ps.map id := List.map_congr_left fun p hp => by rw [if_neg (h p hp)]; rfl
  rw [e, List.map_id]
theorem tot_repl {k : Int} {v : Nat} : ∀ {ps : Ps}, (ps.map (·.1)).Nodup → (ps.any fun p => decide (p.1 = k)) = true → tot (ps.map fun p => if p.1 = k then (p.1, v) else p) + getP ps k = tot ps + v
  | [], _, h => by cases h
  | p :: r, nd, h => by
    rw [List.map_cons, List.nodup_cons] at nd
    by_cases e : p.1 = k
    · rw [getP_pos e, List.map_cons, if_pos e, repl_same fun q hq z => nd.1 (by rw [e, ← z]; exact List.mem_map_of_mem hq)]
      show v + tot r + p.2 = p.2 + tot r + v
      omega
    · rw [List.any_cons, decide_eq_false e, Bool.false_or] at h
      have z := tot_repl (v := v) nd.2 h
      rw [getP_neg e, List.map_cons, if_neg e]
      show p.2 + tot (r.map fun p => if p.1 = k then (p.1, v) else p) + getP r k = p.2 + tot r + v
      omega
theorem tot_put {ps : Ps} {k : Int} {m : Nat} (nd : (ps.map (·.1)).Nodup) : tot (putP ps k (getP ps k + m)) = tot ps + m := by
  unfold putP
  cases h : ps.any fun p => decide (p.1 = k) with
  | true =>
    rw [if_pos rfl]
    have z := tot_repl (v := getP ps k + m) nd h
    omega
  | false =>
    rw [if_neg Bool.false_ne_true, get_none h]
    show (List.map (·.2) (ps ++ [(k, 0 + m)])).sum = _
    rw [List.map_append, List.sum_append]
    show tot ps + (0 + m + 0) = _
    omega
theorem keys_put {ps : Ps} {k : Int} {v : Nat} (nd : (ps.map (·.1)).Nodup) : ((putP ps k v).map (·.1)).Nodup ∧ ∀ p ∈ putP ps k v, p.1 = k ∨ ∃ q ∈ ps, q.1 = p.1 := by
  unfold putP
  cases h : ps.any fun p => decide (p.1 = k) with
  | true =>
    rw [if_pos rfl]
    have e : (ps.map fun p => if p.1 = k then (p.1, v) else p).map (·.1) = ps.map (·.1) := by
      rw [List.map_map]
      refine List.map_congr_left fun p _ => ?_
      show (if p.1 = k then (p.1, v) else p).1 = p.1
      split <;> rfl
    refine ⟨by rw [e]; exact nd, fun p hp => .inr ?_⟩
    obtain ⟨q, hq, e2⟩ := List.mem_map.mp hp
    refine ⟨q, hq, ?_⟩
    rw [← e2]
    split <;> rfl
  | false =>
    rw [if_neg Bool.false_ne_true]
    refine ⟨?_, fun p hp => ?_⟩
    · rw [List.map_append, List.nodup_append]
      refine ⟨nd, by simp, fun a ha b hb z => ?_⟩
      obtain ⟨q, hq, e⟩ := List.mem_map.mp ha
      have e2 : b = k := by simpa using hb
      have y := List.any_eq_false.mp h q hq
      exact y (decide_eq_true (by rw [e, z, e2]))
    · rcases List.mem_append.mp hp with a | a
      · exact .inr ⟨p, a, rfl⟩
      · left
        have e : p = (k, v) := by simpa using a
        rw [e]
theorem getP_le (k : Int) : ∀ ps : Ps, getP ps k ≤ tot ps
  | [] => Nat.zero_le _
  | p :: r => by
    by_cases e : p.1 = k
    · rw [getP_pos e]
      show p.2 ≤ p.2 + tot r
      omega
    · rw [getP_neg e]
      have z := getP_le k r
      show getP r k ≤ p.2 + tot r
      omega
theorem len_sub {α : Type} [DecidableEq α] : ∀ {l m : List α}, l.Nodup → (∀ x ∈ l, x ∈ m) → l.length ≤ m.length
  | [], _, _, _ => Nat.zero_le _
  | a :: l, m, nd, h => by
    rw [List.nodup_cons] at nd
    have ha := h a (by simp)
    have z := len_sub (l := l) (m := m.erase a) nd.2 fun x hx => (List.mem_erase_of_ne (fun e => nd.1 (by rw [← e]; exact hx))).mpr (h x (by simp [hx]))
    rw [List.length_erase_of_mem ha] at z
    have pos : 0 < m.length := List.length_pos_of_mem ha
    rw [List.length_cons]
    omega
/-- distinct keys from lo to hi, values of the sum S -/
structure Ways (lo hi : Int) (S : Nat) (ps : Ps) : Prop where
  nd : (ps.map (·.1)).Nodup
  rg : ∀ p ∈ ps, lo ≤ p.1 ∧ p.1 ≤ hi
  le : tot ps ≤ S
theorem Ways.len {lo hi : Int} {S : Nat} {ps : Ps} (h : Ways lo hi S ps) (h0 : -60 ≤ lo) (h1 : hi ≤ 60) : ps.length ≤ 121 := by
  have z := len_sub (l := ps.map (·.1)) (m := (List.range 121).map fun i => ((i : Nat) : Int) - 60) h.nd fun x hx => by
    obtain ⟨p, hp, rfl⟩ := List.mem_map.mp hx
    have r := h.rg p hp
    exact List.mem_map.mpr ⟨(p.1 + 60).toNat, List.mem_range.mpr (by omega), by omega⟩
  rw [List.length_map, List.length_map, List.length_range] at z
  exact z
theorem Ways.put {lo hi : Int} {S m : Nat} {ps : Ps} {k : Int} (h : Ways lo hi S ps) (h0 : lo ≤ k) (h1 : k ≤ hi) : Ways lo hi (S + m) (putP ps k (getP ps k + m)) := by
  obtain ⟨a, b⟩ := keys_put (k := k) (v := getP ps k + m) h.nd
  refine ⟨a, fun p hp => ?_, ?_⟩
  · rcases b p hp with e | ⟨q, hq, e⟩
    · rw [e]
      exact ⟨h0, h1⟩
    · rw [← e]
      exact h.rg q hq
  · rw [tot_put h.nd]
    have z := h.le
    omega
theorem Ways.mono {lo hi : Int} {S S' : Nat} {ps : Ps} (h : Ways lo hi S ps) (le : S ≤ S') : Ways lo hi S' ps := ⟨h.nd, h.rg, Nat.le_trans h.le le⟩
theorem tot_take {ps : Ps} {i : Nat} {p : Int × Nat} (h : ps[i]? = some p) : tot (ps.take (i + 1)) = tot (ps.take i) + p.2 := by
  unfold tot
  rw [List.take_add_one, h, List.map_append, List.sum_append]
  simp
end K2
set_option maxRecDepth 100000
set_option maxHeartbeats 4000000
namespace K2
open PySem PySem.Spec PyProof.Rows L2
/-! ### the size of a walk is below the bound -/
def big : Int := 10 ^ 4000
theorem big_of {n : Nat} (h : n ≤ 2 ^ 13000) : ((n : Nat) : Int) < big := by
  have z : (2 : Nat) ^ 13000 < 10 ^ 4000 := by decide +kernel
  have y : n < 10 ^ 4000 := Nat.lt_of_le_of_lt h z
  have x : ((n : Nat) : Int) < (((10 ^ 4000 : Nat)) : Int) := Int.ofNat_lt.mpr y
  rw [Int.natCast_pow] at x
  exact x
/-- a number from 0 on, below the bound -/
def spB (m : Nat) (p : List PyData → Bool) : Sp := fun vs H Q _ => ∃ (a : Addr) (xs : List V) (ds : List PyData), vs = [.ref a] ∧ H a = some (.tup xs) ∧ DatAll H xs ds ∧ ds.length = m ∧ p ds = true ∧ ∀ (H' : Hp) (n : Nat), Same H H' → ((n : Nat) : Int) < big → Q (.int (n : Nat)) H'
abbrev sStep : Stmt := top 66
abbrev sWalkSize : Stmt := top 65
def spStep : Sp := fun vs H Q _ => ∃ (d : Addr) (ps : Ps) (lo hi : Int), vs = [.ref d, .int lo, .int hi] ∧ H d = some (.dK (dkOf ps)) ∧ -60 ≤ lo ∧ hi ≤ 60 ∧ ∀ p H' ps', Same H H' → H' p = some (.dK (dkOf ps')) → Ways lo hi (2 * tot ps) ps' → Q (.ref p) H'
section
variable {P : Program} {w : World} {K : PySem.W.Frag} {mg : Str → Option Value} {base : Heap}
theorem scStep : FnScope ["ways", "low", "high", "longer", "height", "many", "reached"] ["ways", "low", "high"] (defScope sStep) := ⟨rfl, rfl, rfl, by decide +kernel, rfl, by decide +kernel, by decide +kernel⟩
theorem scWalkSize : FnScope ["space", "n", "start", "end", "low", "high", "ways", "_"] ["space"] (defScope sWalkSize) := ⟨rfl, rfl, rfl, by decide +kernel, rfl, by decide +kernel, by decide +kernel⟩
theorem ok_step {f : Addr} {fd : FuncData} (F : Fun K "step_on" "step_on" sStep f fd) : FnOk P w K mg base CX0 1 f fd ["ways", "low", "high"] spStep := by
  refine F.ok scStep (fun vs H Q E h => ?_) (fun cdv A outer s H vs Q E hr h => ?_)
  · obtain ⟨d, ps, lo, hi, rfl, _⟩ := h
    rfl
  · obtain ⟨d, ps, lo, hi, rfl, hd, h0, h1, q⟩ := h
    have hu := hu_of hr
    refine ⟨_, pss_cons (ps_set (i := 3) scStep.nd rfl (Or.inl rfl) pe_dnewK)
      (pss_cons (ps_lock (ps_for PassesOwn.never rfl (pi_items (pv 0)) (pg_tup rfl (pgs_cons (pg_name (i := 4) scStep.nd rfl (Or.inl rfl)) (pgs_cons (pg_name (i := 5) scStep.nd rfl (Or.inl rfl)) pgs_nil)))
        (pss_one (ps_for PassesOwn.never rfl (pi_tup (pe_tup (pa_cons (pe_op op_sub (pv 4) pe_int) (pa_cons (pe_op op_add (pv 4) pe_int) pa_nil)))) (pg_name (i := 6) scStep.nd rfl (Or.inl rfl))
          (pss_one (ps_if (pt_chain op_le op_le (pv 1) (pv 6) (pv 2)) (pss_one (ps_dput hu (pv 3) (pv 6) (pe_op op_add (pe_dget2 hu (pv 3) (pv 6) pe_int ⟨rfl, rfl, rfl, rfl⟩) (pv 5)) rfl)) pss_nil))))))
      (pss_one (ps_ret (pv 3)))), ?_⟩
    intro D nD
    have S0 := same_new (o := HO.dK []) nD
    have dD : d ≠ D := ne_of_none hd nD
    have hD0 : upd H D (.dK []) D = some (.dK (dkOf [])) := upd_same
    have hd0 := S0 _ _ hd
    generalize upd H D (.dK []) = H0 at S0 hD0 hd0 ⊢
    refine ⟨d, _, hd0, trivial, fun od => ?_⟩
    have len : (dkOf ps).length = ps.length := by unfold dkOf; rw [List.length_map]
    refine ⟨_, rfl, d, od, dkOf ps, rfl, upd_same, for_it (walk_items (d := d) (o := od) (kvs := dkOf ps)) (fun i σ Hx => ∃ (x4 x5 x6 : Option V) (qs : Ps), σ = [some (.ref d), some (.int lo), some (.int hi), some (.ref D), x4, x5, x6] ∧ Hx d = some (.frz od (.dK (dkOf ps))) ∧ Same H (upd Hx d (.dK (dkOf ps))) ∧ Hx D = some (.dK (dkOf qs)) ∧ Ways lo hi (2 * tot (ps.take i)) qs)
      ⟨none, none, none, [], rfl, upd_same, ?_, by rw [upd_ne (Ne.symm dD)]; exact hD0, ⟨List.nodup_nil, by simp, Nat.zero_le _⟩⟩ (fun i σ Hx _ ⟨_, _, _, _, _, h, _⟩ => h) ?_ ?_⟩
    · intro b o e
      by_cases eb : b = d
      · subst eb
        rw [upd_same, ← hd, e]
      · rw [upd_ne eb, upd_ne eb]
        exact S0 _ _ e
    · rintro i x σ Hx Hy hi' ⟨x4, x5, x6, qs, rfl, hf, S, hD, W⟩ ⟨T, ky, vy, rfl, nT, rfl, e1, e2⟩
      have hip : i < ps.length := by rw [← len]; exact hi'
      have gp : ps[i]? = some ps[i] := List.getElem?_eq_getElem hip
      have gk : (dkOf ps)[i]? = some (Sum.inl ps[i].1, V.int (ps[i].2 : Nat)) := by
        unfold dkOf
        rw [List.getElem?_map, gp]
        rfl
      dsimp only at e1 e2
      rw [gk] at e1 e2
      obtain rfl : V.int ps[i].1 = ky := Option.some.inj e1
      obtain rfl : V.int (ps[i].2 : Nat) = vy := Option.some.inj e2
      have SU := same_new (o := HO.tup [V.int ps[i].1, V.int (ps[i].2 : Nat)]) nT
      have Td : d ≠ T := ne_of_none hf nT
      have hf1 := SU _ _ hf
      have hD1 := SU _ _ hD
      have S1 : Same H (upd (upd Hx T (.tup [V.int ps[i].1, V.int (ps[i].2 : Nat)])) d (.dK (dkOf ps))) := by
        intro b o e
        have z := S b o e
        by_cases eb : b = d
        · subst eb
          rw [upd_same] at z ⊢
          exact z
        · rw [upd_ne eb] at z ⊢
          exact SU _ _ z
      have hTT : upd Hx T (.tup [V.int ps[i].1, V.int (ps[i].2 : Nat)]) T = some (.tup [V.int ps[i].1, V.int (ps[i].2 : Nat)]) := upd_same
      generalize upd Hx T (.tup [V.int ps[i].1, V.int (ps[i].2 : Nat)]) = H2 at hf1 hD1 S1 hTT ⊢
      generalize hpi : ps[i] = pi at *
      obtain ⟨ht, m⟩ := pi
      refine ⟨T, _, rfl, SqT.of hTT, rfl, _, _, rfl, _, _, rfl, rfl, ?_⟩
      refine ⟨_, rfl, _, _, rfl, rfl, _, rfl, _, _, rfl, rfl, (by show 2 ≤ sizeLine; decide), fun U nU => ?_⟩
      have SV := same_new (o := HO.tup [V.int (ht - 1), V.int (ht + 1)]) nU
      have hf2 := SV _ _ hf1
      have hD2 := SV _ _ hD1
      have dU : d ≠ U := ne_of_none hf1 nU
      have S2 : Same H (upd (upd H2 U (.tup [V.int (ht - 1), V.int (ht + 1)])) d (.dK (dkOf ps))) := by
        intro b o e
        have z := S1 b o e
        by_cases eb : b = d
        · subst eb
          rw [upd_same] at z ⊢
          exact z
        · rw [upd_ne eb] at z ⊢
          exact SV _ _ z
      have hUU : upd H2 U (.tup [V.int (ht - 1), V.int (ht + 1)]) U = some (.tup [V.int (ht - 1), V.int (ht + 1)]) := upd_same
      generalize upd H2 U (.tup [V.int (ht - 1), V.int (ht + 1)]) = H3 at hf2 hD2 S2 hUU ⊢
      have UD : U ≠ D := fun z => by
        rw [z, hD2] at hUU
        cases hUU
      refine ⟨U, rfl, ⟨_, SqT.of hUU⟩, for_tup (K := K) (a := U) (xs := [V.int (ht - 1), V.int (ht + 1)]) (fun j σ Hz => ∃ (x6 : Option V) (qs : Ps), σ = [some (.ref d), some (.int lo), some (.int hi), some (.ref D), some (.int ht), some (.int (m : Nat)), x6] ∧ Hz d = some (.frz od (.dK (dkOf ps))) ∧ Same H (upd Hz d (.dK (dkOf ps))) ∧ Hz D = some (.dK (dkOf qs)) ∧ Hz U = some (.tup [V.int (ht - 1), V.int (ht + 1)]) ∧ Ways lo hi (2 * tot (ps.take i) + j * m) qs)
        ⟨x6, qs, rfl, hf2, S2, hD2, hUU, W.mono (by omega)⟩ (fun j σ Hz _ ⟨_, _, _, _, _, _, h, _⟩ => SqT.of h) ?_ ?_⟩
      · rintro j y σ Hz hy ⟨x6, rs, rfl, hf3, S3, hD3, hU3, W3⟩
        obtain ⟨r, rfl⟩ : ∃ r : Int, y = V.int r := by
          match j, hy with
          | 0, hy => exact ⟨_, (Option.some.inj hy).symm⟩
          | 1, hy => exact ⟨_, (Option.some.inj hy).symm⟩
        refine ⟨_, rfl, _, rfl, _, _, rfl, rfl, _, rfl, ?_⟩
        by_cases k1 : lo ≤ r
        · refine if_t (decide_eq_true k1) ⟨_, rfl, _, _, rfl, rfl, _, rfl, ?_⟩
          by_cases k2 : r ≤ hi
          · refine if_t (decide_eq_true k2) ⟨_, rfl, D, rfl, .inl ⟨_, .inl hD3⟩, _, rfl, _, DGet.k (k := Sum.inl r) hD3, _, rfl, _, _, val_dk r rs, rfl, _, rfl, _, rfl, D, _, rfl, DPut.k (k := Sum.inl r) hD3 ?_, ?_⟩
            · have z := W3.len h0 h1
              have e : (dkOf rs).length = rs.length := by unfold dkOf; rw [List.length_map]
              rw [e, sizeLine_eq]
              omega
            · have e : putK (dkOf rs) (Sum.inl r) (V.int ((getP rs r : Nat) + (m : Nat))) = dkOf (putP rs r (getP rs r + m)) := by
                rw [← put_dk]
                congr 1
              rw [e]
              refine ⟨_, _, rfl, by rw [upd_ne dD]; exact hf3, ?_, upd_same, by rw [upd_ne UD]; exact hU3, (W3.put k1 k2).mono (by have y := Nat.add_one_mul j m; omega)⟩
              intro b o eb
              have z := S3 b o eb
              by_cases e1 : b = d
              · subst e1
                rw [upd_same] at z ⊢
                exact z
              · have bD : b ≠ D := fun z2 => by
                  rw [z2] at eb
                  rw [nD] at eb
                  cases eb
                rw [upd_ne e1] at z ⊢
                rw [upd_ne bD]
                exact z
          · exact if_f (decide_eq_false k2) ⟨_, _, rfl, hf3, S3, hD3, hU3, W3.mono (by have y := Nat.add_one_mul j m; omega)⟩
        · exact if_f (decide_eq_false k1) ⟨_, rfl, if_f rfl ⟨_, _, rfl, hf3, S3, hD3, hU3, W3.mono (by have y := Nat.add_one_mul j m; omega)⟩⟩
      · rintro σ Hz ⟨x6, rs, rfl, hf3, S3, hD3, hU3, W3⟩
        refine ⟨_, _, _, rs, rfl, hf3, S3, hD3, ?_⟩
        have z := tot_take gp
        refine W3.mono ?_
        rw [z]
        show 2 * tot (ps.take i) + 2 * m ≤ 2 * (tot (ps.take i) + m)
        omega
    · rintro σ Hx ⟨x4, x5, x6, qs, rfl, hf, S, hD, W⟩
      refine ⟨hf, _, rfl, q D _ qs S ?_ ?_⟩
      · rw [upd_ne (Ne.symm dD)]
        exact hD
      · rw [len, List.take_length] at W
        exact W
theorem ok_walksize {f fS : Addr} {fd fdS : FuncData} (F : Fun K "walk_size" "walk_size" sWalkSize f fd) (T : Nm mg) (G : DefOk K mg "step_on" sStep ["ways", "low", "high"] fS fdS) : FnOk P w K mg base CX0 2 f fd ["space"] (spB 6 pWalk) := by
  have GS : FnOk P w K mg base CX0 1 fS fdS ["ways", "low", "high"] spStep := ok_step G.F
  refine F.ok scWalkSize (fun vs H Q E h => ?_) (fun cdv A outer s H vs Q E hr h => ?_)
  · obtain ⟨a, xs, ds, rfl, _⟩ := h
    rfl
  · obtain ⟨a, xs, ds, rfl, ha, hx, hl, hp, q⟩ := h
    have hu := hu_of hr
    match ds, hl, hx with
    | [d0, d1, d2, d3, d4, d5], _, .cons (v := x0) c0 (.cons (v := x1) c1 (.cons (v := x2) c2 (.cons (v := x3) c3 (.cons (v := x4) c4 (.cons (v := x5) c5 .nil))))) =>
      have e : pWalk [d0, d1, d2, d3, d4, d5] = ([d2, d3, d4, d5].all (btw (-60) 60) && (btw 0 60 d1 && (decide (intOf d4 ≤ intOf d2) && decide (intOf d2 ≤ intOf d5) && (decide (intOf d4 ≤ intOf d3) && decide (intOf d3 ≤ intOf d5))))) := rfl
      rw [e, Bool.and_eq_true, Bool.and_eq_true] at hp
      have hall := List.all_eq_true.mp hp.1
      obtain ⟨n, rfl, n0, n60⟩ := btw_int hp.2.1
      obtain ⟨i2, rfl, _, _⟩ := btw_int (hall d2 (by simp))
      obtain ⟨i3, rfl, _, _⟩ := btw_int (hall d3 (by simp))
      obtain ⟨i4, rfl, a4, _⟩ := btw_int (hall d4 (by simp))
      obtain ⟨i5, rfl, _, a5⟩ := btw_int (hall d5 (by simp))
      obtain rfl := dat_int c1
      obtain rfl := dat_int c2
      obtain rfl := dat_int c3
      obtain rfl := dat_int c4
      obtain rfl := dat_int c5
      refine ⟨_, pss_cons (ps_asg (pe_slice sl_tupA (pv 0) (po_some pe_int) po_none) (pg_tup rfl (pgs_cons (pg_name (i := 1) scWalkSize.nd rfl (Or.inl rfl)) (pgs_cons (pg_name (i := 2) scWalkSize.nd rfl (Or.inl rfl)) (pgs_cons (pg_name (i := 3) scWalkSize.nd rfl (Or.inl rfl)) (pgs_cons (pg_name (i := 4) scWalkSize.nd rfl (Or.inl rfl)) (pgs_cons (pg_name (i := 5) scWalkSize.nd rfl (Or.inl rfl)) pgs_nil)))))))
        (pss_cons (ps_set (i := 6) scWalkSize.nd rfl (Or.inl rfl) (pe_disp (pps_cons (pv 2) pe_int pps_nil) (by rfl) (by rfl) (fun z => by cases z) (by decide)))
        (pss_cons (ps_for PassesOwn.never rfl (pi_range1 rfl T.range (pa_cons (pv 1) pa_nil)) (pg_name (i := 7) scWalkSize.nd rfl (Or.inl rfl))
          (pss_one (ps_set (i := 6) scWalkSize.nd rfl (Or.inl rfl) (pe_call GS hr rfl G.g G.F.kp G.b .nil pass0 (pa_cons (pv 6) (pa_cons (pv 4) (pa_cons (pv 5) pa_nil)))))))
        (pss_one (ps_ret (pe_dget2 hu (pv 6) (pv 3) pe_int ⟨rfl, rfl, rfl, rfl⟩))))), ?_⟩
      refine ⟨_, rfl, 1, rfl, ?_⟩
      dsimp only [tNoPart]
      refine slK_of 1 ha fun b Hb Sb hb => ?_
      refine ⟨b, _, rfl, SqT.of hb, rfl, _, _, rfl, _, _, rfl, _, _, rfl, _, _, rfl, _, _, rfl, rfl, ?_⟩
      intro D nD
      refine ⟨_, rfl, upd_same, [(Sum.inl i2, V.int 1)], rfl, (show 1 ≤ 15 by decide), ?_⟩
      have S0 : Same H (upd (upd Hb D (.dK [])) D (.dK (mergeK [] [(Sum.inl i2, V.int 1)]))) := Sb.trans fun b o e => by
        have bD := ne_of_none e nD
        rw [upd_ne bD, upd_ne bD]
        exact e
      have hD0 : upd (upd Hb D (.dK [])) D (.dK (mergeK [] [(Sum.inl i2, V.int 1)])) D = some (.dK (dkOf [(i2, 1)])) := by
        rw [upd_same]
        rfl
      generalize upd (upd Hb D (.dK [])) D (.dK (mergeK [] [(Sum.inl i2, V.int 1)])) = H0 at S0 hD0 ⊢
      refine ⟨_, rfl, n, rfl, by omega, by omega, for_range (n := n.toNat) (fun i σ Hx => ∃ (d : Addr) (ps : Ps) (x7 : Option V), σ = [some (.ref a), some (.int n), some (.int i2), some (.int i3), some (.int i4), some (.int i5), some (.ref d), x7] ∧ Same H Hx ∧ Hx d = some (.dK (dkOf ps)) ∧ tot ps ≤ 2 ^ i)
        ⟨D, [(i2, 1)], none, rfl, S0, hD0, Nat.le_refl _⟩ ?_ ?_⟩
      · rintro i σ Hx hi ⟨d, ps, x7, rfl, S, hd, ht⟩
        refine ⟨_, rfl, _, rfl, _, rfl, d, ps, i4, i5, rfl, hd, a4, a5, fun p H' ps' S' hp' W => ?_⟩
        refine ⟨p, ps', _, rfl, S.trans S', hp', Nat.le_trans W.le ?_⟩
        rw [Nat.pow_succ]
        omega
      · rintro σ Hx ⟨d, ps, x7, rfl, S, hd, ht⟩
        refine ⟨_, rfl, d, rfl, .inl ⟨_, .inl hd⟩, _, rfl, _, DGet.k (k := Sum.inl i3) hd, ?_⟩
        rw [val_dk]
        refine q Hx _ S (big_of ?_)
        have z := getP_le i3 ps
        have y : 2 ^ n.toNat ≤ 2 ^ 60 := Nat.pow_le_pow_right (by decide) (by omega)
        have x : 2 ^ 60 ≤ 2 ^ 13000 := Nat.pow_le_pow_right (by decide) (by decide)
        exact Nat.le_trans z (Nat.le_trans ht (Nat.le_trans y x))
end
end K2
set_option maxRecDepth 100000
set_option maxHeartbeats 4000000
namespace K2
open PySem PySem.Spec PyProof.Rows L2
/-! ### the size of a string space is below the bound -/
theorem keepNew {H Hx : Hp} {D : Addr} {o : HO} (nD : H D = none) (S : Same H Hx) : Same H (upd Hx D o) := fun b u e => by
  have bD : b ≠ D := fun z => by
    rw [z, nD] at e
    cases e
  rw [upd_ne bD]
  exact S _ _ e
abbrev sMoveOn : Stmt := top 32
abbrev sCountStr : Stmt := top 31
abbrev sStrSize : Stmt := top 71
def spMove : Sp := fun vs H Q _ => ∃ (a d : Addr) (xs : List V) (ds : List PyData) (ps : Ps), vs = [.ref a, .ref d] ∧ H a = some (.tup xs) ∧ DatAll H xs ds ∧ (∀ e ∈ ds, moveB e = true) ∧ ds.length ≤ 48 ∧ H d = some (.dK (dkOf ps)) ∧ ∀ p H' ps', Same H H' → H' p = some (.dK (dkOf ps')) → Ways 0 7 (48 * tot ps) ps' → Q (.ref p) H'
/-- count_strings(automaton, n) -/
def spCountStr : Sp := fun vs H Q _ => ∃ (v : V) (d : PyData) (n : Int), vs = [v, .int n] ∧ Dat H v d ∧ autoB d = true ∧ 0 ≤ n ∧ n ≤ 60 ∧ ∀ (H' : Hp) (k : Nat), Same H H' → ((k : Nat) : Int) < big → Q (.int (k : Nat)) H'
theorem sum_le {b : Nat} : ∀ {l : List Nat}, (∀ x ∈ l, x ≤ b) → l.sum ≤ l.length * b
  | [], _ => by simp
  | a :: l, h => by
    have z := sum_le (l := l) fun x hx => h x (by simp [hx])
    have y := h a (by simp)
    rw [List.sum_cons, List.length_cons, Nat.succ_mul]
    omega
theorem sum_cast : ∀ l : List Nat, (l.map fun k : Nat => (k : Int)).sum = ((l.sum : Nat) : Int)
  | [] => rfl
  | a :: l => by
    rw [List.map_cons, List.sum_cons, List.sum_cons, sum_cast l]
    omega
section
variable {P : Program} {w : World} {K : PySem.W.Frag} {mg : Str → Option Value} {base : Heap}
theorem scMoveOn : FnScope ["moves", "ways", "longer", "state", "_", "reached"] ["moves", "ways"] (defScope sMoveOn) := ⟨rfl, rfl, rfl, by decide +kernel, rfl, by decide +kernel, by decide +kernel⟩
theorem scCountStr : FnScope ["automaton", "n", "moves", "accepting", "ways", "_", "state"] ["automaton", "n"] (defScope sCountStr) := ⟨rfl, rfl, rfl, by decide +kernel, rfl, by decide +kernel, by decide +kernel⟩
theorem scStrSize : FnScope ["space", "automaton", "n"] ["space"] (defScope sStrSize) := ⟨rfl, rfl, rfl, by decide +kernel, rfl, by decide +kernel, by decide +kernel⟩
theorem ok_moveon {f : Addr} {fd : FuncData} (F : Fun K "move_on" "move_on" sMoveOn f fd) : FnOk P w K mg base CX0 1 f fd ["moves", "ways"] spMove := by
  refine F.ok scMoveOn (fun vs H Q E h => ?_) (fun cdv A outer s H vs Q E hr h => ?_)
  · obtain ⟨a, d, xs, ds, ps, rfl, _⟩ := h
    rfl
  · obtain ⟨a, d, xs, ds, ps, rfl, ha, hx, hm, h48, hd, q⟩ := h
    have hu := hu_of hr
    refine ⟨_, pss_cons (ps_set (i := 2) scMoveOn.nd rfl (Or.inl rfl) pe_dnewK)
      (pss_cons (ps_for PassesOwn.never rfl (pi_tup (pv 0)) (pg_tup rfl (pgs_cons (pg_name (i := 3) scMoveOn.nd rfl (Or.inl rfl)) (pgs_cons (pg_name (i := 4) scMoveOn.nd rfl (Or.inl rfl)) (pgs_cons (pg_name (i := 5) scMoveOn.nd rfl (Or.inl rfl)) pgs_nil))))
        (pss_one (ps_dput hu (pv 2) (pv 5) (pe_op op_add (pe_dget2 hu (pv 2) (pv 5) pe_int ⟨rfl, rfl, rfl, rfl⟩) (pe_dget2 hu (pv 1) (pv 3) pe_int ⟨rfl, rfl, rfl, rfl⟩)) rfl)))
      (pss_one (ps_ret (pv 2)))), ?_⟩
    intro D nD
    have S0 := same_new (o := HO.dK []) nD
    have hD0 : upd H D (.dK []) D = some (.dK (dkOf [])) := upd_same
    generalize upd H D (.dK []) = H0 at S0 hD0 ⊢
    have hxl := hx.len
    refine ⟨_, rfl, a, rfl, ⟨_, SqT.of (S0 _ _ ha)⟩, for_tup (K := K) (a := a) (xs := xs) (fun i σ Hx => ∃ (x3 x4 x5 : Option V) (qs : Ps), σ = [some (.ref a), some (.ref d), some (.ref D), x3, x4, x5] ∧ Same H Hx ∧ Hx D = some (.dK (dkOf qs)) ∧ Ways 0 7 (i * tot ps) qs)
      ⟨none, none, none, [], rfl, S0, hD0, ⟨List.nodup_nil, by simp, Nat.zero_le _⟩⟩ (fun i σ Hx _ ⟨_, _, _, _, _, S, _⟩ => SqT.of (S _ _ ha)) ?_ ?_⟩
    · rintro i x σ Hx hi ⟨x3, x4, x5, qs, rfl, S, hD, W⟩
      obtain ⟨e, hei, te⟩ := hx.get hi
      obtain ⟨z, l, r, rfl, _, _, r0, r7, _⟩ := move_cases (hm e (List.mem_of_getElem? hei))
      cases te with
      | @tup b ys _ hb hy =>
        cases hy with
        | cons c0 t0 =>
          cases t0 with
          | cons c1 t1 =>
            cases t1 with
            | cons c2 t2 =>
              cases t2
              cases c0
              cases c2
              refine ⟨b, _, rfl, SqT.of (S _ _ hb), rfl, _, _, rfl, _, _, rfl, _, _, rfl, rfl, ?_⟩
              refine ⟨_, rfl, D, rfl, .inl ⟨_, .inl hD⟩, _, rfl, _, DGet.k (k := Sum.inl r) hD, _, rfl, d, rfl, .inl ⟨_, .inl (S _ _ hd)⟩, _, rfl, _, DGet.k (k := Sum.inl z) (S _ _ hd), _, _, val_dk r qs, val_dk z ps, _, rfl, _, rfl, D, _, rfl, DPut.k (k := Sum.inl r) hD ?_, ?_⟩
              · have z1 := W.len (by decide) (by decide)
                have e1 : (dkOf qs).length = qs.length := by unfold dkOf; rw [List.length_map]
                rw [e1, sizeLine_eq]
                omega
              · have e1 : putK (dkOf qs) (Sum.inl r) (V.int ((getP qs r : Nat) + (getP ps z : Nat))) = dkOf (putP qs r (getP qs r + getP ps z)) := by
                  rw [← put_dk]
                  congr 1
                rw [e1]
                refine ⟨_, _, _, _, rfl, keepNew nD S, upd_same, (W.put r0 r7).mono ?_⟩
                have g := getP_le z ps
                rw [Nat.succ_mul]
                omega
    · rintro σ Hx ⟨x3, x4, x5, qs, rfl, S, hD, W⟩
      exact ⟨_, rfl, q D Hx qs S hD (W.mono (Nat.mul_le_mul_right _ (by omega)))⟩
theorem ok_countstr {f fM : Addr} {fd fdM : FuncData} (F : Fun K "count_strings" "count_strings" sCountStr f fd) (T : Nm mg) (M : DefOk K mg "move_on" sMoveOn ["moves", "ways"] fM fdM) : FnOk P w K mg base CX0 2 f fd ["automaton", "n"] spCountStr := by
  have GM : FnOk P w K mg base CX0 1 fM fdM ["moves", "ways"] spMove := ok_moveon M.F
  refine F.ok scCountStr (fun vs H Q E h => ?_) (fun cdv A outer s H vs Q E hr h => ?_)
  · obtain ⟨v, d, n, rfl, _⟩ := h
    rfl
  · obtain ⟨v, d, n, rfl, hd, hA, n0, n60, q⟩ := h
    have hu := hu_of hr
    unfold autoB at hA
    rw [Bool.and_eq_true, Bool.and_eq_true] at hA
    obtain ⟨es, rfl, e1, e2⟩ := tupOf_len hA.1
    match es, (show es.length = 2 by omega), hd with
    | [m0, m1], _, .tup (a := a) (xs := xs) ha hx =>
      cases hx with
      | @cons x0 _ _ _ c0 t0 =>
        cases t0 with
        | @cons x1 _ _ _ c1 t1 =>
          cases t1
          have hmv : movesB m0 = true := hA.2.1
          have hst : statesB m1 = true := hA.2.2
          unfold movesB at hmv
          unfold statesB at hst
          rw [Bool.and_eq_true, Bool.and_eq_true] at hmv hst
          obtain ⟨ms, rfl, _, m48⟩ := tupOf_len hmv.1.1
          obtain ⟨ss, rfl, _, s8⟩ := tupOf_len hst.1
          have hms := List.all_eq_true.mp (show ms.all moveB = true from hmv.1.2)
          have hss := List.all_eq_true.mp (show ss.all (btw 0 7) = true from hst.2.1)
          cases c0 with
          | @tup b ys _ hb hy =>
            cases c1 with
            | @tup c zs _ hc hz =>
              have hzl := hz.len
              refine ⟨_, pss_cons (ps_asg (pv 0) (pg_tup rfl (pgs_cons (pg_name (i := 2) scCountStr.nd rfl (Or.inl rfl)) (pgs_cons (pg_name (i := 3) scCountStr.nd rfl (Or.inl rfl)) pgs_nil))))
                (pss_cons (ps_set (i := 4) scCountStr.nd rfl (Or.inr rfl) (pe_disp (pps_cons pe_int pe_int pps_nil) (by rfl) (by rfl) (fun z => by cases z) (by decide)))
                (pss_cons (ps_for PassesOwn.never rfl (pi_range1 rfl T.range (pa_cons (pv 1) pa_nil)) (pg_name (i := 5) scCountStr.nd rfl (Or.inl rfl))
                  (pss_one (ps_set (i := 4) scCountStr.nd rfl (Or.inr rfl) (pe_call GM hr rfl M.g M.F.kp M.b .nil pass0 (pa_cons (pv 2) (pa_cons (pv 4) pa_nil))))))
                (pss_one (ps_ret (pe_callB (cr_sum rfl) (by rfl) T.sum boot_sum (pa_cons (pe_lc (own := [("state", 6)]) (g := gName 6) (tt := tYes) rfl scCountStr.nd (pi_tup (pv 3)) (blkOk_by (N := ["automaton", "n", "moves", "accepting", "ways", "_", "state"]) (sc := defScope sCountStr) (by decide +kernel))
                  (fun _ _ _ _ _ => pg_name (i := 6) scCountStr.nd rfl (Or.inl rfl)) (fun _ _ _ _ _ => pts_nil) (fun _ _ _ _ _ => pe_dget2 hu (pv 4) (pv 6) pe_int ⟨rfl, rfl, rfl, rfl⟩)) pa_nil)))))), ?_⟩
              refine ⟨_, rfl, a, _, rfl, SqT.of ha, rfl, _, _, rfl, _, _, rfl, rfl, ?_⟩
              intro D nD
              refine ⟨upd_same, [(Sum.inl 0, V.int 1)], rfl, (show 1 ≤ 15 by decide), ?_⟩
              have S0 : Same H (upd (upd H D (.dK [])) D (.dK (mergeK [] [(Sum.inl 0, V.int 1)]))) := keepNew nD (same_new nD)
              have hD0 : upd (upd H D (.dK [])) D (.dK (mergeK [] [(Sum.inl 0, V.int 1)])) D = some (.dK (dkOf [(0, 1)])) := by
                rw [upd_same]
                rfl
              generalize upd (upd H D (.dK [])) D (.dK (mergeK [] [(Sum.inl 0, V.int 1)])) = H0 at S0 hD0 ⊢
              refine ⟨_, rfl, n, rfl, by omega, by omega, for_range (n := n.toNat) (fun i σ Hx => ∃ (d : Addr) (ps : Ps) (x5 : Option V), σ = [some (.ref a), some (.int n), some (.ref b), some (.ref c), some (.ref d), x5, none] ∧ Same H Hx ∧ Hx d = some (.dK (dkOf ps)) ∧ tot ps ≤ 64 ^ i)
                ⟨D, [(0, 1)], none, rfl, S0, hD0, Nat.le_refl _⟩ ?_ ?_⟩
              · rintro i σ Hx hi ⟨d, ps, x5, rfl, S, hd, ht⟩
                refine ⟨_, rfl, _, rfl, b, d, ys, ms, ps, rfl, S _ _ hb, hy.same S, hms, by omega, hd, fun p H' ps' S' hp' W => ?_⟩
                refine ⟨p, ps', _, rfl, S.trans S', hp', Nat.le_trans W.le ?_⟩
                rw [Nat.pow_succ]
                omega
              · rintro σ Hx ⟨d, ps, x5, rfl, S, hd, ht⟩
                refine ⟨_, rfl, c, rfl, ⟨_, SqT.of (S _ _ hc)⟩, fun D2 nD2 => lc_vals (K := K) (a := c) (xs := zs) (fun i => V.int (getP ps (intOf (ss.getD i .none)) : Nat)) (S _ _ hc) (by omega) nD2 (fun i x Hy hi S2 R hR => ?_) mono_name fun Hy S2 hD => ?_⟩
                · obtain ⟨e, hei, te⟩ := hz.get hi
                  obtain ⟨k, rfl, _, _⟩ := btw_int (hss e (List.mem_of_getElem? hei))
                  obtain rfl := dat_int te
                  have g0 : intOf (ss.getD i .none) = k := by rw [List.getD_eq_getElem?_getD, hei]; rfl
                  refine ⟨rfl, _, rfl, d, rfl, .inl ⟨_, .inl (S2 _ _ hd)⟩, _, rfl, _, DGet.k (k := Sum.inl k) (S2 _ _ hd), ?_⟩
                  rw [val_dk]
                  have z := hR Hy fun _ _ e => e
                  rw [g0] at z
                  exact z
                · have eL : (List.range zs.length).map (fun i => V.int (getP ps (intOf (ss.getD i .none)) : Nat)) = (((List.range zs.length).map fun i => getP ps (intOf (ss.getD i .none))).map fun k : Nat => (k : Int)).map V.int := by
                    rw [List.map_map, List.map_map]
                    rfl
                  rw [eL] at hD
                  refine ⟨D2, _, rfl, SqL.of hD, ?_⟩
                  rw [sum_cast]
                  refine q Hy _ (S.trans S2) (big_of ?_)
                  have z := sum_le (b := tot ps) (l := (List.range zs.length).map fun i => getP ps (intOf (ss.getD i .none))) fun x hx => by
                    obtain ⟨i, _, rfl⟩ := List.mem_map.mp hx
                    exact getP_le _ _
                  rw [List.length_map, List.length_range] at z
                  have y1 : 64 ^ n.toNat = 2 ^ (6 * n.toNat) := by rw [Nat.pow_mul]
                  have y2 : 2 ^ (6 * n.toNat) ≤ 2 ^ 360 := Nat.pow_le_pow_right (by decide) (by omega)
                  have y3 : zs.length * tot ps ≤ 8 * 2 ^ 360 := Nat.mul_le_mul (by omega) (by omega)
                  have y4 : 8 * 2 ^ 360 = 2 ^ 363 := by decide +kernel
                  have y5 : 2 ^ 363 ≤ 2 ^ 13000 := Nat.pow_le_pow_right (by decide) (by decide)
                  exact Nat.le_trans z (Nat.le_trans y3 (by rw [y4]; exact y5))
theorem ok_strsize {f fC : Addr} {fd fdC : FuncData} (F : Fun K "string_size" "string_size" sStrSize f fd) (C : DefOk K mg "count_strings" sCountStr ["automaton", "n"] fC fdC) (GC : FnOk P w K mg base CX0 2 fC fdC ["automaton", "n"] spCountStr) : FnOk P w K mg base CX0 3 f fd ["space"] (spB 3 pString) := by
  refine F.ok scStrSize (fun vs H Q E h => ?_) (fun cdv A outer s H vs Q E hr h => ?_)
  · obtain ⟨a, xs, ds, rfl, _⟩ := h
    rfl
  · obtain ⟨a, xs, ds, rfl, ha, hx, hl, hp, q⟩ := h
    match ds, hl, hx with
    | [d0, d1, d2], _, .cons (v := x0) t0 (.cons (v := x1) t1 (.cons (v := x2) t2 .nil)) =>
      have hp' : (btw 0 60 d2 && autoB d1) = true := hp
      rw [Bool.and_eq_true] at hp'
      obtain ⟨n, rfl, n0, n60⟩ := btw_int hp'.1
      obtain rfl := dat_int t2
      refine ⟨_, pss_cons (ps_asg (pe_slice sl_tupA (pv 0) (po_some pe_int) po_none) (pg_tup rfl (pgs_cons (pg_name (i := 1) scStrSize.nd rfl (Or.inl rfl)) (pgs_cons (pg_name (i := 2) scStrSize.nd rfl (Or.inl rfl)) pgs_nil))))
        (pss_one (ps_ret (pe_call GC hr rfl C.g C.F.kp C.b .nil pass0 (pa_cons (pv 1) (pa_cons (pv 2) pa_nil))))), ?_⟩
      refine ⟨_, rfl, 1, rfl, ?_⟩
      dsimp only [tNoPart]
      refine slK_of 1 ha fun b Hb Sb hb => ?_
      exact ⟨b, _, rfl, SqT.of hb, rfl, _, _, rfl, _, _, rfl, rfl, _, rfl, _, rfl, x1, d1, n, rfl, t1.same Sb, hp'.2, n0, n60, fun H' k S hk => q H' k (Sb.trans S) hk⟩
end
end K2
set_option maxRecDepth 100000
set_option maxHeartbeats 4000000
namespace K2
open PySem PySem.Spec PyProof.Rows L2
/-! ### an order of L names has at most L! arrangements -/
def fac (n : Nat) : Nat := Builtin.Math.factorialNat n
theorem fac_succ (n : Nat) : fac (n + 1) = fac n * (n + 1) := PySem.W.mc_fac_succ n
theorem fac_pos (n : Nat) : 1 ≤ fac n := PySem.W.mc_fac_pos n
theorem fac_zero : fac 0 = 1 := rfl
theorem fp_fac {a : Nat} : ∀ m : Nat, m ≤ a → Builtin.Math.fallingProduct (a : Int) m * ((fac (a - m) : Nat) : Int) = ((fac a : Nat) : Int)
  | 0, _ => by
    rw [PySem.W.mc_fp_zero, Int.one_mul]
    rfl
  | m + 1, h => by
    have z := fp_fac (a := a) m (by omega)
    have e : a - m = (a - (m + 1)) + 1 := by omega
    rw [e, fac_succ, Int.natCast_mul] at z
    rw [PySem.W.mc_fp_succ, ← z, Int.mul_assoc]
    congr 1
    rw [Int.mul_comm]
    congr 1
    omega
theorem comb_fac {a b : Nat} (h : b ≤ a) : PySem.W.mcComb (a : Int) (b : Int) * ((fac b : Nat) : Int) * ((fac (a - b) : Nat) : Int) ≤ ((fac a : Nat) : Int) := by
  rw [PySem.W.mcComb_at (a := (a : Int)) (b := (b : Int)) (by omega) (by omega) rfl]
  obtain ⟨m, hm⟩ : ∃ m : Nat, min (b : Int) ((a : Int) - (b : Int)) = m := ⟨(min (b : Int) ((a : Int) - (b : Int))).toNat, by omega⟩
  rw [hm, Int.toNat_natCast]
  have z1 := fp_fac (a := a) m (by omega)
  have z2 := fp_fac (a := m) m (Nat.le_refl _)
  rw [Nat.sub_self, fac_zero] at z2
  have z3 : Builtin.Math.fallingProduct (m : Int) m = ((fac m : Nat) : Int) := by
    rw [← z2]
    show _ = _ * 1
    rw [Int.mul_one]
  have p := fac_pos m
  have p2 := fac_pos (a - m)
  rw [z3]
  have le : Builtin.Math.fallingProduct (a : Int) m / ((fac m : Nat) : Int) * ((fac m : Nat) : Int) ≤ Builtin.Math.fallingProduct (a : Int) m := Int.ediv_mul_le _ (by omega)
  have le2 := Int.mul_le_mul_of_nonneg_right le (show (0 : Int) ≤ ((fac (a - m) : Nat) : Int) by omega)
  rw [z1] at le2
  have cs : (m = b ∨ m = a - b) := by omega
  rcases cs with e | e
  · rw [← e]
    exact le2
  · have e1 : a - b = m := e.symm
    have e2 : b = a - m := by omega
    rw [e1, Int.mul_assoc, Int.mul_comm ((fac b : Nat) : Int), ← Int.mul_assoc]
    rw [e2]
    exact le2
theorem mult_fac : ∀ (ns : List Nat) (t : Nat) (w : Int), 1 ≤ w → 1 ≤ multN t w ns ∧ multN t w ns * ((fac t : Nat) : Int) * ((prodN (ns.map fac) : Nat) : Int) ≤ w * ((fac (t + ns.sum) : Nat) : Int)
  | [], t, w, hw => by
    refine ⟨hw, ?_⟩
    show w * ((fac t : Nat) : Int) * ((1 : Nat) : Int) ≤ w * ((fac (t + 0) : Nat) : Int)
    rw [Nat.add_zero]
    show _ * 1 ≤ _
    rw [Int.mul_one]
    exact Int.le_refl _
  | c :: r, t, w, hw => by
    have c1 := (comb_le (a := t + c) (b := c) (by omega)).1
    have hw2 : 1 ≤ w * PySem.W.mcComb ((t + c : Nat) : Int) (c : Int) := by
      have z := Int.mul_le_mul hw c1 (by decide) (by omega)
      omega
    obtain ⟨m1, m2⟩ := mult_fac r (t + c) (w * PySem.W.mcComb ((t + c : Nat) : Int) (c : Int)) hw2
    have cf := comb_fac (a := t + c) (b := c) (by omega)
    rw [show t + c - c = t by omega] at cf
    rw [multN]
    refine ⟨m1, ?_⟩
    generalize hX : multN (t + c) (w * PySem.W.mcComb ((t + c : Nat) : Int) (c : Int)) r = X at m1 m2 ⊢
    generalize hC : PySem.W.mcComb ((t + c : Nat) : Int) (c : Int) = C at m2 cf c1 hw2
    have eS : t + (c :: r).sum = t + c + r.sum := by rw [List.sum_cons]; omega
    rw [eS]
    have eP : prodN ((c :: r).map fac) = fac c * prodN (r.map fac) := rfl
    rw [eP]
    have pT := fac_pos t
    have pC := fac_pos c
    have pTC := fac_pos (t + c)
    generalize fac (t + c + r.sum) = F at m2 ⊢
    generalize prodN (r.map fac) = R at m2 ⊢
    generalize fac (t + c) = A at m2 cf pTC
    generalize fac t = T at cf pT ⊢
    generalize fac c = D at cf pC ⊢
    rw [Int.natCast_mul]
    -- X * A * R ≤ w * C * F;  C * D * T ≤ A;  want X * T * (D * R) ≤ w * F
    have g : (A : Int) * (X * (T : Int) * ((D : Int) * (R : Int))) ≤ (A : Int) * (w * (F : Int)) := by
      have e1 : (A : Int) * (X * (T : Int) * ((D : Int) * (R : Int))) = X * (A : Int) * (R : Int) * ((D : Int) * (T : Int)) := by
        ac_rfl
      have e2 : w * C * (F : Int) * ((D : Int) * (T : Int)) = C * (D : Int) * (T : Int) * (w * (F : Int)) := by ac_rfl
      have s1 : X * (A : Int) * (R : Int) * ((D : Int) * (T : Int)) ≤ w * C * (F : Int) * ((D : Int) * (T : Int)) := Int.mul_le_mul_of_nonneg_right m2 (Int.mul_nonneg (by omega) (by omega))
      have s2 : C * (D : Int) * (T : Int) * (w * (F : Int)) ≤ (A : Int) * (w * (F : Int)) := Int.mul_le_mul_of_nonneg_right cf (Int.mul_nonneg (by omega) (by omega))
      rw [e1]
      rw [e2] at s1
      exact Int.le_trans s1 s2
    exact Int.le_of_mul_le_mul_left g (by omega)
theorem fac_mono {a b : Nat} (h : a ≤ b) : fac a ≤ fac b := by
  induction h with
  | refl => exact Nat.le_refl _
  | step _ ih =>
    rw [fac_succ]
    exact Nat.le_trans ih (Nat.le_mul_of_pos_right _ (by omega))
theorem fac_big {n : Nat} (h : n ≤ 400) : fac n ≤ 2 ^ 3600 := Nat.le_trans (fact_le n h) (Nat.pow_le_pow_right (by decide) (by omega))
/-- sizes of orders, one by one -/
inductive Bd (len : PyData → Nat) : List Nat → List PyData → Prop
  | nil : Bd len [] []
  | cons {k : Nat} {e : PyData} {ks : List Nat} {es : List PyData} : 1 ≤ k → k ≤ fac (len e) → Bd len ks es → Bd len (k :: ks) (e :: es)
theorem Bd.snoc {len : PyData → Nat} {k : Nat} {e : PyData} : ∀ {ks : List Nat} {es : List PyData}, Bd len ks es → 1 ≤ k → k ≤ fac (len e) → Bd len (ks ++ [k]) (es ++ [e])
  | _, _, .nil, a, b => .cons a b .nil
  | _, _, .cons x y t, a, b => .cons x y (t.snoc a b)
theorem Bd.length {len : PyData → Nat} : ∀ {ks : List Nat} {es : List PyData}, Bd len ks es → ks.length = es.length
  | _, _, .nil => rfl
  | _, _, .cons _ _ t => congrArg (· + 1) t.length
theorem Bd.pos {len : PyData → Nat} : ∀ {ks : List Nat} {es : List PyData}, Bd len ks es → ∀ k ∈ ks, 1 ≤ k
  | _, _, .nil, k, h => by cases h
  | _, _, .cons x _ t, k, h => by
    rcases List.mem_cons.mp h with e | e
    · rw [e]
      exact x
    · exact t.pos k e
theorem Bd.each {len : PyData → Nat} {m : Nat} : ∀ {ks : List Nat} {es : List PyData}, Bd len ks es → (∀ e ∈ es, len e ≤ m) → ∀ k ∈ ks, k ≤ fac m
  | _, _, .nil, _, k, h => by cases h
  | _, _, .cons _ y t, hm, k, h => by
    rcases List.mem_cons.mp h with e | e
    · rw [e]
      exact Nat.le_trans y (fac_mono (hm _ (by simp)))
    · exact t.each (fun e he => hm e (by simp [he])) k e
theorem Bd.prod {len : PyData → Nat} : ∀ {ks : List Nat} {es : List PyData}, Bd len ks es → prodN ks ≤ prodN ((es.map len).map fac)
  | _, _, .nil => Nat.le_refl _
  | _, _, .cons _ y t => Nat.mul_le_mul y t.prod
/-- sizes and the multinomial together -/
theorem Bd.all {len : PyData → Nat} {ks : List Nat} {es : List PyData} (h : Bd len ks es) : prodN ks ≤ fac (es.map len).sum ∧ ∀ M : Nat, multN 0 1 (es.map len) = M → 1 ≤ M ∧ prodN ks * M ≤ fac (es.map len).sum := by
  obtain ⟨m1, m2⟩ := mult_fac (es.map len) 0 1 (by decide)
  rw [fac_zero, Nat.zero_add, Int.one_mul] at m2
  have p := h.prod
  have key : ∀ M : Nat, multN 0 1 (es.map len) = M → 1 ≤ M ∧ prodN ks * M ≤ fac (es.map len).sum := fun M e => by
    rw [e] at m1 m2
    have q : M * prodN ((es.map len).map fac) ≤ fac (es.map len).sum := by
      have z : (M : Int) * ((1 : Nat) : Int) * ((prodN ((es.map len).map fac) : Nat) : Int) = ((M * prodN ((es.map len).map fac) : Nat) : Int) := by
        rw [Int.natCast_mul]
        show (M : Int) * 1 * _ = _
        rw [Int.mul_one]
      rw [z] at m2
      omega
    refine ⟨by omega, Nat.le_trans ?_ q⟩
    rw [Nat.mul_comm]
    exact Nat.mul_le_mul_left _ p
  obtain ⟨M, hM⟩ : ∃ M : Nat, multN 0 1 (es.map len) = M := ⟨(multN 0 1 (es.map len)).toNat, by omega⟩
  obtain ⟨a, b⟩ := key M hM
  exact ⟨Nat.le_trans (Nat.le_mul_of_pos_right _ a) b, key⟩
end K2
set_option maxRecDepth 100000
set_option maxHeartbeats 4000000
namespace L2
open PySem PySem.Spec PyProof.Rows
/-- len of a list or a tuple -/
def rLenS (K : PySem.W.Frag) : List V → Hp → VK → Prop := fun xs H Q => ∃ p ys, xs = [.ref p] ∧ (SqL K H p ys ∨ SqT K H p ys) ∧ Q (.int ys.length) H
theorem cr_lenS {X : Cx} : CallR X (.builtin "len") (rLenS X.K) := call_len_seq
end L2
namespace K2
open PySem PySem.Spec PyProof.Rows L2
/-! ### order_size, arrangement_size -/
abbrev sOSize : Stmt := top 37
abbrev sArrSize : Stmt := top 64
def lenN (m : Nat) (e : PyData) : Nat := (namesN m e).length
def spOSize (n : Nat) : Sp := fun vs H Q _ => ∃ (v : V) (d : PyData), vs = [v] ∧ n ≤ 6 ∧ Dat H v d ∧ orderB n d = true ∧ (namesN n d).length ≤ 400 ∧ ∀ (H' : Hp) (k : Nat), Same H H' → 1 ≤ k → k ≤ fac (namesN n d).length → Q (.int (k : Nat)) H'
theorem flat_sum {f : PyData → List Str} : ∀ es : List PyData, (es.flatMap f).length = (es.map fun e => (f e).length).sum
  | [] => rfl
  | a :: l => by
    rw [List.flatMap_cons, List.length_append, List.map_cons, List.sum_cons, flat_sum l]
theorem le_flat {f : PyData → List Str} : ∀ {es : List PyData} {e : PyData}, e ∈ es → (f e).length ≤ (es.flatMap f).length
  | a :: l, e, h => by
    rw [List.flatMap_cons, List.length_append]
    rcases List.mem_cons.mp h with z | z
    · rw [z]
      omega
    · have y := le_flat (f := f) z
      omega
section
variable {P : Program} {w : World} {K : PySem.W.Frag} {mg : Str → Option Value} {base : Heap}
theorem scOSize : FnScope ["order", "word", "rest", "size", "inner"] ["order"] (defScope sOSize) := ⟨rfl, rfl, rfl, by decide +kernel, rfl, by decide +kernel, by decide +kernel⟩
theorem scArrSize : FnScope ["space"] ["space"] (defScope sArrSize) := ⟨rfl, rfl, rfl, by decide +kernel, rfl, by decide +kernel, by decide +kernel⟩
/-- what is known of multiply -/
structure MulOk (P : Program) (w : World) (K : PySem.W.Frag) (mg : Str → Option Value) (base : Heap) where
  f : Addr
  fd : FuncData
  F : FunD K "multiply" "multiply" (defArgs sMul) (defBody sMul) (defScope sMul) [.non] [] f fd
  b : L2.Binds K fd ["factors", "bound"] [Value.none]
  g : mg "multiply" = some (.ref f)
theorem osize_body {f fN fM : Addr} {fd fdN fdM : FuncData} {sp : Sp} (n : Nat) (F : Fun K "order_size" "order_size" sOSize f fd) (b : L2.Binds K fd ["order"] []) (g : mg "order_size" = some (.ref f)) (G : FnOk P w K mg base CX0 (1 + n) f fd ["order"] sp) (T : Nm mg)
    (N : DefOk K mg "names_of" sNames ["order"] fN fdN) (U : MulOk P w K mg base) (M : DefOk K mg "multinomial" sMulti ["counts"] fM fdM) (c : mg "comb" = some (.builtin "math.comb"))
    (hn : ∀ m, n = m + 1 → n ≤ 6 → ∀ (x : V) (d : PyData) (H : Hp) (R : VK), Dat H x d → orderB m d = true → (namesN m d).length ≤ 400 → (∀ (H' : Hp) (k : Nat), Same H H' → 1 ≤ k → k ≤ fac (namesN m d).length → R (.int (k : Nat)) H') → sp [x] H R E0) : FnOk P w K mg base CX0 (2 + n) f fd ["order"] (spOSize n) := by
  have GU : FnOk P w K mg base CX0 1 U.f U.fd ["factors", "bound"] spMul := ok_mul U.F
  have GM : FnOk P w K mg base CX0 1 fM fdM ["counts"] spMulti := ok_multi M.F c
  have GN := ok_names (P := P) (w := w) (base := base) N.F N.b N.g (n - 1)
  rw [show 2 + n = (1 + n) + 1 by omega]
  refine F.ok scOSize (fun vs H Q E h => ?_) (fun cdv A outer s H vs Q E hr h => ?_)
  · obtain ⟨v, d, rfl, _⟩ := h
    rfl
  · obtain ⟨v, d, rfl, h6, hd, ho, h400, q⟩ := h
    have hu0 := hr.units0
    have hr1 : Room 1 _ := hr.mono (by omega)
    have hrN : Room (1 + (n - 1)) _ := hr.mono (by omega)
    refine ⟨_, pss_cons (ps_asg (pv 0) (pg_tup rfl (pgs_cons (pg_name (i := 1) scOSize.nd rfl (Or.inl rfl)) (pgs_cons (pg_name (i := 2) scOSize.nd rfl (Or.inl rfl)) pgs_nil))))
      (pss_cons (ps_if (pt_cmpR (op_eqStr hu0) (pv 1) pe_str (nomark _)) (pss_one (ps_ret pe_int)) pss_nil)
      (pss_cons (ps_set (i := 3) scOSize.nd rfl (Or.inl rfl) (pe_call GU hr1 rfl U.g U.F.kp U.b (Paired.cons (F := RelV) (a := .non) (b := Value.none) rfl .nil) pass0 (pa_cons (pe_lc (own := [("inner", 4)]) (g := gName 4) (tt := tYes) rfl scOSize.nd (pi_tup (pv 2)) (blkOk_by (N := ["order", "word", "rest", "size", "inner"]) (sc := defScope sOSize) (by decide +kernel))
          (fun _ _ _ _ _ => pg_name (i := 4) scOSize.nd rfl (Or.inl rfl)) (fun _ _ _ _ _ => pts_nil) (fun _ _ _ _ _ => pe_call G hr rfl g F.kp b .nil pass0 (pa_cons (pv 4) pa_nil))) pa_nil)))
      (pss_cons (ps_if (pt_cmpR (op_eqStr hu0) (pv 1) pe_str (nomark _)) (pss_one (ps_set (i := 3) scOSize.nd rfl (Or.inl rfl) (pe_op op_mulW (pv 3) (pe_call GM hr1 rfl M.g M.F.kp M.b .nil pass0 (pa_cons (pe_lc (own := [("inner", 4)]) (g := gName 4) (tt := tYes) (te := tCB (rLenS K) (tCons (tCall (spNames (n - 1)) [] E0 (tCons (tVar 4) tNil)) tNil)) rfl scOSize.nd (pi_tup (pv 2)) (blkOk_by (N := ["order", "word", "rest", "size", "inner"]) (sc := defScope sOSize) (by decide +kernel))
          (fun _ _ _ _ _ => pg_name (i := 4) scOSize.nd rfl (Or.inl rfl)) (fun _ _ _ _ _ => pts_nil) (fun _ _ _ _ _ => pe_callB cr_lenS (by rfl) T.len PySem.boot_len (pa_cons (pe_call GN hrN rfl N.g N.F.kp N.b .nil pass0 (pa_cons (pv 4) pa_nil)) pa_nil))) pa_nil))))) pss_nil)
      (pss_one (ps_ret (pv 3)))))), ?_⟩
    cases n with
    | zero => exact Bool.noConfusion ((show false = true from ho) : false = true)
    | succ m =>
      obtain ⟨d0, d1, rfl, hh⟩ := order_cases ho
      have eN : namesN (m + 1) (.tuple [d0, d1]) = if eqStr "item" d0 = true then [strOf d1] else (tupItems d1).flatMap (namesN m) := by rw [namesN]; rfl
      rw [eN] at q h400
      cases hd with
      | @tup a xs _ ha hx =>
        cases hx with
        | @cons x0 _ _ _ c0 t0 =>
          cases t0 with
          | @cons x1 _ _ _ c1 t1 =>
            cases t1
            refine ⟨_, rfl, a, _, rfl, SqT.of ha, rfl, _, _, rfl, _, _, rfl, rfl, _, rfl, d0, "item", c0, rfl, _, rfl, ?_⟩
            rcases hh with ⟨h0, hn1⟩ | ⟨h0, es, rfl, l2, l6, hes⟩
            · rw [h0] at q ⊢
              exact if_t rfl (q H 1 (Same.refl H) (by decide) (fac_pos _))
            · rw [h0] at q h400 ⊢
              have q1 : ∀ (H' : Hp) (k : Nat), Same H H' → 1 ≤ k → k ≤ fac (es.flatMap (namesN m)).length → Q (.int (k : Nat)) H' := q
              have h4 : (es.flatMap (namesN m)).length ≤ 400 := h400
              have eSum : (es.flatMap (namesN m)).length = (es.map (lenN m)).sum := flat_sum es
              cases c1 with
              | @tup a2 ys _ ha2 hx2 =>
                have hl2 := hx2.len
                refine if_f rfl ⟨_, rfl, a2, rfl, ⟨_, SqT.of ha2⟩, fun D nD => lc_tup (K := K) (a := a2) (xs := ys) (fun j Hx => Same H Hx ∧ ∃ ks : List Nat, Hx D = some (.lst (vints ks)) ∧ Bd (lenN m) ks (es.take j))
                  ⟨same_new nD, [], by rw [upd_same]; rfl, by rw [List.take_zero]; exact .nil⟩ (fun j Hx _ ⟨S, _⟩ => SqT.of (S _ _ ha2)) ?_ ?_⟩
                · rintro i x Hx hi ⟨S, ks, hD, B⟩
                  obtain ⟨e, hei, te⟩ := hx2.get hi
                  have hem := List.mem_of_getElem? hei
                  have hlt : i < es.length := (List.getElem?_eq_some_iff.mp hei).1
                  have le1 := le_flat (f := namesN m) hem
                  refine ⟨rfl, _, rfl, hn m rfl h6 x e Hx _ (te.same S) (hes e hem) (by omega) fun H' k S' k1 k2 => ⟨_, S' _ _ hD, ?_, grow nD (S.trans S'), ks ++ [k], ?_, ?_⟩⟩
                  · have z := B.length
                    unfold vints
                    rw [List.length_map, z, List.length_take, sizeLine_eq]
                    omega
                  · rw [upd_same]
                    unfold vints
                    rw [List.map_append]
                    rfl
                  · rw [List.take_add_one, hei]
                    exact B.snoc k1 k2
                · rintro Hx ⟨S, ks, hD, B⟩
                  rw [hl2, List.take_length] at B
                  obtain ⟨b1, b2⟩ := B.all
                  have le0 : prodN ks ≤ 2 ^ 3600 := Nat.le_trans b1 (fac_big (by omega))
                  have up : (2 : Nat) ^ 3600 < 2 ^ 400000 := Nat.pow_lt_pow_right (by decide) (by decide)
                  have pp : 1 ≤ prodN ks := prod_pos B.pos
                  refine ⟨D, ks, rfl, hD, fun _ => Nat.lt_of_le_of_lt le0 up, fun k hk => ?_, fun z => ?_, fun _ => ?_⟩
                  · have z := B.each (m := 400) (fun e he => Nat.le_trans (le_flat (f := namesN m) he) h4) k hk
                    exact Nat.lt_of_le_of_lt (Nat.le_trans z (fac_big (by decide))) up
                  · have z2 := B.pos 0 z
                    omega
                  · refine ⟨_, rfl, d0, "parallel", c0.same S, rfl, _, rfl, ?_⟩
                    cases h1 : eqStr "parallel" d0 with
                    | false =>
                      refine if_f rfl ⟨_, rfl, q1 Hx _ S pp ?_⟩
                      rw [eSum]
                      exact b1
                    | true =>
                      refine if_t rfl ⟨_, rfl, _, rfl, a2, rfl, ⟨_, SqT.of (S _ _ ha2)⟩, fun D2 nD2 => lc_vals (K := K) (a := a2) (xs := ys) (fun i => V.int (lenN m (es.getD i .none) : Nat)) (S _ _ ha2) (by omega) nD2 (fun i x Hy hi S2 R hR => ?_) mono_name fun Hy S2 hD2 => ?_⟩
                      · obtain ⟨e, hei, te⟩ := hx2.get hi
                        have hem := List.mem_of_getElem? hei
                        have g0 : es.getD i .none = e := by rw [List.getD_eq_getElem?_getD, hei]; rfl
                        rw [g0] at hR
                        refine ⟨rfl, _, rfl, x, e, rfl, by omega, (te.same S).same S2, hes e hem, fun p H' S' np hp => ⟨p, _, rfl, .inl (SqL.of hp), ?_⟩⟩
                        have z := hR H' S'
                        rw [List.length_map]
                        exact z
                      · have eL : (List.range ys.length).map (fun i => V.int (lenN m (es.getD i .none) : Nat)) = (es.map (lenN m)).map fun n : Nat => V.int (n : Int) := by
                          rw [hl2, List.map_map]
                          refine range_map es _ _ fun i d hdi => ?_
                          have g0 : es.getD i .none = d := by rw [List.getD_eq_getElem?_getD, hdi]; rfl
                          rw [g0]
                          rfl
                        rw [eL] at hD2
                        refine ⟨D2, es.map (lenN m), rfl, hD2, by omega, fun z1 z2 => ?_⟩
                        obtain ⟨Mn, hM⟩ : ∃ M : Nat, multN 0 1 (es.map (lenN m)) = M := ⟨(multN 0 1 (es.map (lenN m))).toNat, by omega⟩
                        obtain ⟨m1, m2⟩ := b2 Mn hM
                        rw [hM]
                        have le3 : Mn ≤ fac (es.map (lenN m)).sum := Nat.le_trans (Nat.le_mul_of_pos_left _ pp) m2
                        have le4 : fac (es.map (lenN m)).sum < 2 ^ 3601 := Nat.lt_of_le_of_lt (fac_big (by omega)) (Nat.pow_lt_pow_right (by decide) (by decide))
                        have w1 : ((prodN ks : Nat) : Int).natAbs < 2 ^ 3601 := by
                          rw [Int.natAbs_natCast]
                          exact Nat.lt_of_le_of_lt b1 le4
                        have w2 : ((Mn : Nat) : Int).natAbs < 2 ^ 3601 := by
                          rw [Int.natAbs_natCast]
                          exact Nat.lt_of_le_of_lt le3 le4
                        refine ⟨_, _, rfl, rfl, wide_mul w1 w2 (by decide) (by decide) (by decide), _, rfl, ?_⟩
                        show Q (.int (((prodN ks : Nat) : Int) * ((Mn : Nat) : Int))) Hy
                        rw [← Int.natCast_mul]
                        refine q1 Hy _ (S.trans S2) (Nat.mul_le_mul pp m1) ?_
                        rw [eSum]
                        exact m2
theorem ok_osize {f fN fM : Addr} {fd fdN fdM : FuncData} (F : Fun K "order_size" "order_size" sOSize f fd) (b : L2.Binds K fd ["order"] []) (g : mg "order_size" = some (.ref f)) (T : Nm mg)
    (N : DefOk K mg "names_of" sNames ["order"] fN fdN) (U : MulOk P w K mg base) (M : DefOk K mg "multinomial" sMulti ["counts"] fM fdM) (c : mg "comb" = some (.builtin "math.comb")) : ∀ n : Nat, FnOk P w K mg base CX0 (2 + n) f fd ["order"] (spOSize n)
  | 0 => osize_body (sp := fun _ _ _ _ => False) 0 F b g fn_none T N U M c fun m e => by cases e
  | n + 1 => by
    have G := ok_osize F b g T N U M c n
    rw [show 2 + n = 1 + (n + 1) by omega] at G
    refine osize_body (n + 1) F b g G T N U M c fun m e l6 x d H R hd ho hl hR => ?_
    obtain rfl : n = m := Nat.succ.inj e
    exact ⟨x, d, rfl, by omega, hd, ho, hl, hR⟩
theorem ok_arrsize {f fO : Addr} {fd fdO : FuncData} (F : Fun K "arrangement_size" "arrangement_size" sArrSize f fd) (O : DefOk K mg "order_size" sOSize ["order"] fO fdO) (GO : FnOk P w K mg base CX0 8 fO fdO ["order"] (spOSize 6)) : FnOk P w K mg base CX0 9 f fd ["space"] (spB 2 pArr) := by
  refine F.ok scArrSize (fun vs H Q E h => ?_) (fun cdv A outer s H vs Q E hr h => ?_)
  · obtain ⟨a, xs, ds, rfl, _⟩ := h
    rfl
  · obtain ⟨a, xs, ds, rfl, ha, hx, hl, hp, q⟩ := h
    match ds, hl, hx with
    | [d0, d1], _, .cons (v := x0) t0 (.cons (v := x1) t1 .nil) =>
      have hp' : (orderB 6 d1 && (decide (((namesN 6 d1).length : Int) ≤ 400) && decide ((S2.cnt (namesN 6 d1) (namesN 6 d1).length : Int) = ((namesN 6 d1).length : Int)))) = true := hp
      rw [Bool.and_eq_true, Bool.and_eq_true] at hp'
      have h4 : ((namesN 6 d1).length : Int) ≤ 400 := of_decide_eq_true hp'.2.1
      refine ⟨_, pss_one (ps_ret (pe_call GO hr rfl O.g O.F.kp O.b .nil pass0 (pa_cons (pe_ix ix_tup (pv 0) pe_int (fun _ _ => rfl)) pa_nil))), ?_⟩
      refine ⟨_, rfl, a, _, _, _, rfl, rfl, SqT.of ha, atI_nat (j := 1) rfl, x1, d1, rfl, by decide, t1, hp'.1, by omega, fun H' k S k1 k2 => q H' k S (big_of ?_)⟩
      have z := fac_big (n := (namesN 6 d1).length) (by omega)
      exact Nat.le_trans k2 (Nat.le_trans z (Nat.pow_le_pow_right (by decide) (by decide)))
end
end K2
set_option maxRecDepth 100000
set_option maxHeartbeats 4000000
namespace K2
open PySem PySem.Spec PyProof.Rows L2
/-! ### leaves: joined_size, joined_leaves, measure -/
abbrev sJSize : Stmt := top 59
abbrev sJLeaves : Stmt := top 60
abbrev sMeasure : Stmt := top 75
def nestW (z : Str) : Bool := (z == "product") || ((z == "choice") || ((z == "power") || (z == "decorated")))
/-- no word of a nested space stands at its head -/
def leafD : PyData → Bool
  | .tuple (.str z :: _) => !nestW z
  | _ => true
theorem leaf_ne {z : Str} {ds : List PyData} (h : leafD (.tuple (.str z :: ds)) = true) : (z == "product") = false ∧ (z == "choice") = false ∧ (z == "power") = false ∧ (z == "decorated") = false := by
  have h' : (!nestW z) = true := h
  unfold nestW at h'
  rw [Bool.not_eq_true', Bool.or_eq_false_iff, Bool.or_eq_false_iff, Bool.or_eq_false_iff] at h'
  exact ⟨h'.1, h'.2.1, h'.2.2.1, h'.2.2.2⟩
theorem leaf_nest {d : PyData} (hp : partB d = true) (h : leafD d = true) : nestedD d = [] := by
  obtain ⟨z, ds, rfl, _⟩ := part_cases hp
  obtain ⟨a, b, c, e⟩ := leaf_ne h
  show (if (z == "product") = true then tupItems (at0 (.str z :: ds) 1) else if (z == "choice") = true then tupItems (at0 (.str z :: ds) 1)
              else if (z == "power") = true then [at0 (.str z :: ds) 2] else if (z == "decorated") = true then tupItems (at0 (.str z :: ds) 2) else []) = []
  rw [a, b, c, e]
  rfl
/-- what is known of the sizes' dict -/
structure Sizes (P : Program) (w : World) (K : PySem.W.Frag) (mg : Str → Option Value) (base : Heap) (dS : Addr) (S : Addr → Option Sp) : Prop where
  g : mg "LEAF_SIZES" = some (.ref dS)
  k : ∃ es n, KDict K w dS es n
  held : ∀ f sp, S f = some sp → Held P w K mg base 9 f sp
  at_ : ∀ z len p, kinds.lookup z = some (len, p) → nestW z = false → ∃ (f : Addr) (sp : Sp), PySem.W.nsIn K dS z = some (some (.ref f)) ∧ S f = some sp ∧
    ∀ (H : Hp) (a : Addr) (xs : List V) (ds : List PyData) (Q : VK), H a = some (.tup xs) → DatAll H xs ds → ds.length = len → p ds = true → (∀ (H' : Hp) (n : Nat), Same H H' → ((n : Nat) : Int) < big → Q (.int (n : Nat)) H') → sp [.ref a] H Q E0
def spJS : Sp := fun vs H Q _ => ∃ (v sz b : V) (d : PyData), vs = [v, sz, b] ∧ Dat H v d ∧ partB d = true ∧ leafD d = true ∧ ∀ (H' : Hp) (n : Nat), Same H H' → ((n : Nat) : Int) < big → Q (.int (n : Nat)) H'
def spJL : Sp := fun vs H Q _ => ∃ (v sz : V) (d : PyData), vs = [v, sz] ∧ Dat H v d ∧ partB d = true ∧ leafD d = true ∧ ∀ H' : Hp, Same H H' → Q (.int 1) H'
def spMeasure : Sp := fun vs H Q _ => ∃ (v : V) (d : PyData), vs = [v, .int big] ∧ Dat H v d ∧ partB d = true ∧ leafD d = true ∧ ∀ (p : Addr) (H' : Hp), Same H H' → Q (.ref p) H'
section
variable {P : Program} {w : World} {K : PySem.W.Frag} {mg : Str → Option Value} {base : Heap}
theorem scJSize : FnScope ["space", "sizes", "bound", "kind", "count"] ["space", "sizes", "bound"] (defScope sJSize) := ⟨rfl, rfl, rfl, by decide +kernel, rfl, by decide +kernel, by decide +kernel⟩
theorem scJLeaves : FnScope ["space", "leaves", "kind"] ["space", "leaves"] (defScope sJLeaves) := ⟨rfl, rfl, rfl, by decide +kernel, rfl, by decide +kernel, by decide +kernel⟩
theorem scMeasure : FnScope ["space", "bound", "measures", "leaves", "size", "inner", "pair"] ["space", "bound"] (defScope sMeasure) := ⟨rfl, rfl, rfl, by decide +kernel, rfl, by decide +kernel, by decide +kernel⟩
theorem ok_jsize {f : Addr} {fd : FuncData} {dS : Addr} {S : Addr → Option Sp} (F : FunD K "joined_size" "joined_size" (defArgs sJSize) (defBody sJSize) (defScope sJSize) [.non] [] f fd) (Z : Sizes P w K mg base dS S) : FnOk P w K mg base CX0 10 f fd ["space", "sizes", "bound"] spJS := by
  obtain ⟨es, n, D⟩ := Z.k
  refine F.ok scJSize (fun vs H Q E h => ?_) (fun cdv A outer s H vs Q E hr h => ?_)
  · obtain ⟨v, sz, b, d, rfl, _⟩ := h
    rfl
  · obtain ⟨v, sz, b, d, rfl, hd, hp, hl, q⟩ := h
    have hu0 := hr.units0
    refine ⟨_, PSs.nox (pss_cons (ps_set (i := 3) scJSize.nd rfl (Or.inl rfl) (pe_ix ix_tup (pv 0) pe_int (fun _ _ => rfl)))
      (pss_cons (ps_if (pt_cmpR (op_eqStr hu0) (pv 3) pe_str (nomark _)) (pss_one ps_never) pss_nil)
      (pss_cons (ps_if (pt_cmpR (op_eqStr hu0) (pv 3) pe_str (nomark _)) (pss_one ps_never) pss_nil)
      (pss_cons (ps_if (pt_cmpR (op_eqStr hu0) (pv 3) pe_str (nomark _)) (pss_one ps_never) pss_nil)
      (pss_cons (ps_if (pt_cmpR (op_eqStr hu0) (pv 3) pe_str (nomark _)) (pss_one ps_never) pss_nil)
      (pss_cons (ps_set (i := 4) scJSize.nd rfl (Or.inl rfl) (pe_ix (ix_kd (X := _) D) (pe_glob (v := .ref dS) rfl Z.g rfl) (pv 3) (fun _ _ => rfl)))
      (pss_one (ps_ret (pe_callA (i := 4) (S := S) Z.held hr rfl (Or.inl rfl) (pa_cons (pv 0) pa_nil)))))))))), ?_⟩
    match d, hp, hl with
    | .tuple (.str z :: ds), hp, hl =>
      have hp' : (match kinds.lookup z with
        | some c => decide (ds.length + 1 = c.1) && c.2 (.str z :: ds)
        | none => false) = true := hp
      cases hk : kinds.lookup z with
      | none =>
        rw [hk] at hp'
        cases hp'
      | some c =>
        obtain ⟨len, p⟩ := c
        rw [hk, Bool.and_eq_true] at hp'
        have hlen : ds.length + 1 = len := of_decide_eq_true hp'.1
        have hpp : p (.str z :: ds) = true := hp'.2
        obtain ⟨b1, b2, b3, b4⟩ := leaf_ne hl
        have hn : nestW z = false := by
          unfold nestW
          rw [b1, b2, b3, b4]
          rfl
        obtain ⟨fz, sp, e1, e2, e3⟩ := Z.at_ z len p hk hn
        cases hd with
        | @tup a xs _ ha hx =>
          cases hx with
          | @cons x0 xs' _ _ c0 cs =>
            cases c0 with
            | str _ hz =>
              refine ⟨_, rfl, a, _, _, _, rfl, rfl, SqT.of ha, atI_nat (j := 0) rfl, ?_⟩
              refine ⟨_, rfl, .str z, "product", .str z hz, rfl, _, rfl, if_f b1 ?_⟩
              refine ⟨_, rfl, .str z, "choice", .str z hz, rfl, _, rfl, if_f b2 ?_⟩
              refine ⟨_, rfl, .str z, "power", .str z hz, rfl, _, rfl, if_f b3 ?_⟩
              refine ⟨_, rfl, .str z, "decorated", .str z hz, rfl, _, rfl, if_f b4 ?_⟩
              refine ⟨_, rfl, z, .ref fz, .ref fz, rfl, rfl, e1, rfl, ?_⟩
              exact ⟨fz, sp, rfl, e2, _, rfl, e3 H a (.str z :: xs') (.str z :: ds) _ ha (.cons (.str z hz) cs) (by rw [List.length_cons]; exact hlen) hpp q⟩
theorem ok_jleaves {f : Addr} {fd : FuncData} (F : Fun K "joined_leaves" "joined_leaves" sJLeaves f fd) : FnOk P w K mg base CX0 1 f fd ["space", "leaves"] spJL := by
  refine F.ok scJLeaves (fun vs H Q E h => ?_) (fun cdv A outer s H vs Q E hr h => ?_)
  · obtain ⟨v, sz, d, rfl, _⟩ := h
    rfl
  · obtain ⟨v, sz, d, rfl, hd, hp, hl, q⟩ := h
    have hu0 := hr.units0
    have hu1 := hu_of hr
    refine ⟨_, pss_cons (ps_set (i := 2) scJLeaves.nd rfl (Or.inl rfl) (pe_ix ix_tup (pv 0) pe_int (fun _ _ => rfl)))
      (pss_cons (ps_if (pt_cmpR (op_inStrs hu1) (pv 2) (pe_tup (pa_cons pe_str (pa_cons pe_str pa_nil))) rfl) (pss_one ps_never) pss_nil)
      (pss_cons (ps_if (pt_cmpR (op_eqStr hu0) (pv 2) pe_str (nomark _)) (pss_one ps_never) pss_nil)
      (pss_cons (ps_if (pt_cmpR (op_eqStr hu0) (pv 2) pe_str (nomark _)) (pss_one ps_never) pss_nil)
      (pss_one (ps_ret pe_int))))), ?_⟩
    match d, hp, hl with
    | .tuple (.str z :: ds), hp, hl =>
      obtain ⟨b1, b2, b3, b4⟩ := leaf_ne hl
      cases hd with
      | @tup a xs _ ha hx =>
        cases hx with
        | @cons x0 xs' _ _ c0 cs =>
          cases c0 with
          | str _ hz =>
            refine ⟨_, rfl, a, _, _, _, rfl, rfl, SqT.of ha, atI_nat (j := 0) rfl, _, rfl, (by show 2 ≤ sizeLine; decide), fun p np => ?_⟩
            have Sp := same_new (o := HO.tup [.str "product", .str "choice"]) np
            have hpp : upd H p (.tup [.str "product", .str "choice"]) p = some (.tup [.str "product", .str "choice"]) := upd_same
            generalize upd H p (.tup [.str "product", .str "choice"]) = H1 at Sp hpp ⊢
            refine ⟨.str z, p, ["product", "choice"], .str z hz, rfl, hpp, _, rfl, ?_⟩
            have eAny : (["product", "choice"] : List Str).any (fun y => eqStr y (.str z)) = ((z == "product") || (z == "choice")) := by
              rw [List.any_cons, List.any_cons, List.any_nil, Bool.or_false]
              rfl
            show (if (["product", "choice"] : List Str).any (fun y => eqStr y (.str z)) = true then _ else _)
            rw [eAny, b1, b2]
            refine if_f rfl ?_
            refine ⟨_, rfl, .str z, "power", .str z hz, rfl, _, rfl, if_f b3 ?_⟩
            refine ⟨_, rfl, .str z, "decorated", .str z hz, rfl, _, rfl, if_f b4 ?_⟩
            exact q H1 Sp
theorem lc_empty {H : Hp} {a : Addr} {g : TG} {te : TE} {vs : List Nat} {σ : L2.St} {D : Addr} {Qd : Hp → Prop} (ha : H a = some (.lst [])) (nD : H D = none) (hd : ∀ Hx, Same H Hx → Hx D = some (.lst []) → Qd Hx) :
    ∃ W : Nat → Nat → Hp → Prop, (∃ m, W 0 m (upd H D (.lst []))) ∧ ∀ i m H, W i m H →
      ((Itl K a).stop i H ∧ Qd H) ∨ ((Itl K a).go i H ∧ ∃ Nx : Hp → Prop, (∀ H', Nx H' → ∃ m', m' < m ∧ W (i + 1) m' H') ∧ ∀ x H', (Itl K a).yld i H x H' → g x (wipe σ vs) H' fun σ2 H2 => wipe σ2 vs = wipe σ vs ∧ tYes σ2 H2 fun b H3 =>
        if b = true then te σ2 H3 fun y H4 => ∃ acc, H4 D = some (.lst acc) ∧ acc.length < sizeLine ∧ Nx (upd H4 D (.lst (acc ++ [y]))) else Nx H3) := by
  refine lc_list (K := K) (a := a) (xs := []) (fun j Hx => Same H Hx ∧ Hx D = some (.lst [])) ⟨same_new nD, upd_same⟩ (fun j Hx _ ⟨S, _⟩ => SqL.of (S _ _ ha)) ?_ fun Hx ⟨S, hD⟩ => hd Hx S hD
  rintro i x Hx hi _
  simp at hi
theorem ok_measure {f fN fL fJ : Addr} {fd fdN fdL fdJ : FuncData} {dS : Addr} {S : Addr → Option Sp} (F : Fun K "measure" "measure" sMeasure f fd) (b : L2.Binds K fd ["space", "bound"] []) (g : mg "measure" = some (.ref f))
    (N : DefOk K mg "nested_spaces" sNested ["space"] fN fdN) (L : DefOk K mg "joined_leaves" sJLeaves ["space", "leaves"] fL fdL)
    (J : FunD K "joined_size" "joined_size" (defArgs sJSize) (defBody sJSize) (defScope sJSize) [.non] [] fJ fdJ) (bJ : L2.Binds K fdJ ["space", "sizes", "bound"] []) (gJ : mg "joined_size" = some (.ref fJ)) (Z : Sizes P w K mg base dS S) (C : Cst mg) : FnOk P w K mg base CX0 11 f fd ["space", "bound"] spMeasure := by
  have GN : FnOk P w K mg base CX0 1 fN fdN ["space"] spNested := ok_nested N.F
  have GL : FnOk P w K mg base CX0 1 fL fdL ["space", "leaves"] spJL := ok_jleaves L.F
  have GJ : FnOk P w K mg base CX0 10 fJ fdJ ["space", "sizes", "bound"] spJS := ok_jsize J Z
  have G0 : FnOk P w K mg base CX0 0 f fd ["space", "bound"] (fun _ _ _ _ => False) := fn_none
  obtain ⟨t, z⟩ := C.leaves
  refine F.ok scMeasure (fun vs H Q E h => ?_) (fun cdv A outer s H vs Q E hr h => ?_)
  · obtain ⟨v, d, rfl, _⟩ := h
    rfl
  · obtain ⟨v, d, rfl, hd, hp, hl, q⟩ := h
    have hr1 : Room 1 _ := hr.mono (by decide)
    have hr0 : Room 0 _ := hr.mono (by decide)
    refine ⟨_, pss_cons (ps_setLc (i := 2) (own := [("inner", 5)]) (g := gName 5) (tt := tYes) rfl scMeasure.nd rfl rfl (sw_true rfl rfl rfl (by decide +kernel)) (pi_tup (pe_call GN hr1 rfl N.g N.F.kp N.b .nil pass0 (pa_cons (pv 0) pa_nil))) (blkOk_by (N := ["space", "bound", "measures", "leaves", "size", "inner", "pair"]) (sc := defScope sMeasure) (by decide +kernel))
            (fun _ _ _ _ _ => pg_name (i := 5) scMeasure.nd rfl (Or.inl rfl)) (fun _ _ _ _ _ => pts_nil) (fun _ _ _ _ _ => pe_call G0 hr0 rfl g F.kp b .nil pass0 (pa_cons (pv 5) (pa_cons (pv 1) pa_nil))))
      (pss_cons (ps_if (pt_cmpR op_in_seq pe_non (pv 2) rfl) (pss_one ps_never) pss_nil)
      (pss_cons (ps_set (i := 3) scMeasure.nd rfl (Or.inl rfl) (pe_call GL hr1 rfl L.g L.F.kp L.b .nil pass0 (pa_cons (pv 0) (pa_cons (pe_lc (own := [("pair", 6)]) (g := gName 6) (tt := tYes) (te := tOp (rIxT K) (tVar 6) (tC (.int 0))) rfl scMeasure.nd (pi_list (pv 2)) (blkOk_by (N := ["space", "bound", "measures", "leaves", "size", "inner", "pair"]) (sc := defScope sMeasure) (by decide +kernel))
            (fun _ _ _ _ _ => pg_name (i := 6) scMeasure.nd rfl (Or.inl rfl)) (fun _ _ _ _ _ => pts_nil) (fun _ _ _ _ _ => pe_ix ix_tup (pv 6) pe_int (fun _ _ => rfl))) pa_nil))))
      (pss_cons (ps_set (i := 4) scMeasure.nd rfl (Or.inl rfl) (pe_call GJ hr rfl gJ J.kp bJ .nil pass0 (pa_cons (pv 0) (pa_cons (pe_lc (own := [("pair", 6)]) (g := gName 6) (tt := tYes) (te := tOp (rIxT K) (tVar 6) (tC (.int 1))) rfl scMeasure.nd (pi_list (pv 2)) (blkOk_by (N := ["space", "bound", "measures", "leaves", "size", "inner", "pair"]) (sc := defScope sMeasure) (by decide +kernel))
            (fun _ _ _ _ _ => pg_name (i := 6) scMeasure.nd rfl (Or.inl rfl)) (fun _ _ _ _ _ => pts_nil) (fun _ _ _ _ _ => pe_ix ix_tup (pv 6) pe_int (fun _ _ => rfl))) (pa_cons (pv 1) pa_nil)))))
      (pss_cons (ps_if (PW.pt (pw_or (pt_cmpR op_gt (pv 3) (pe_glob (v := .int 2000) rfl z ⟨_, rfl⟩) (nomark _)) (pw_or1 (pt_cmpR op_ge (pv 4) (pv 1) (nomark _))))) (pss_one ps_never) pss_nil)
      (pss_one (ps_ret (pe_tup (pa_cons (pv 3) (pa_cons (pv 4) pa_nil))))))))), ?_⟩
    refine ⟨_, rfl, v, d, H, rfl, Same.refl H, hd, hp, fun p ys H1 S1 hpy hy => ?_⟩
    rw [leaf_nest hp hl] at hy
    cases hy
    refine ⟨p, rfl, ⟨_, SqT.of hpy⟩, fun D nD => lc_vals (K := K) (a := p) (xs := []) (fun _ => V.non) hpy (by decide) nD (fun i x Hx hi S R hR => by simp at hi) mono_name fun H2 S2 hD => ?_⟩
    have hD' : H2 D = some (.lst []) := hD
    have T2 := S1.trans S2
    refine ⟨_, rfl, D, [], rfl, .inl (SqL.of hD'), rfl, rfl, _, rfl, if_f rfl ?_⟩
    refine ⟨_, rfl, _, rfl, D, rfl, ⟨_, SqL.of hD'⟩, fun D2 nD2 => lc_empty hD' nD2 fun H3 S3 _ => ?_⟩
    have T3 := T2.trans S3
    refine ⟨v, _, d, rfl, hd.same T3, hp, hl, fun H4 S4 => ?_⟩
    have T4 := T3.trans S4
    have hD4 := S4 _ _ (S3 _ _ hD')
    refine ⟨_, rfl, _, rfl, D, rfl, ⟨_, SqL.of hD4⟩, fun D3 nD3 => lc_empty hD4 nD3 fun H5 S5 _ => ⟨_, rfl, v, _, _, d, rfl, (hd.same T4).same S5, hp, hl, fun H6 n S6 hn => ?_⟩⟩
    have T6 := (T4.trans S5).trans S6
    refine ⟨_, rfl, _, _, rfl, rfl, _, rfl, if_f (by decide) ⟨_, rfl, _, rfl, _, _, rfl, rfl, _, rfl, if_f (decide_eq_false (by omega)) ?_⟩⟩
    exact ⟨_, rfl, _, rfl, (by show 2 ≤ sizeLine; decide), fun p2 np2 => q p2 _ (T6.trans (same_new np2))⟩
end
end K2
set_option maxRecDepth 100000
set_option maxHeartbeats 4000000
namespace L2
open PySem PySem.Spec PyProof.Rows
/-! ### dict(a list of pairs whose keys are tuples) -/
abbrev KA := List Key × Addr × Value
def runT : List KA → List KA → List KA
  | acc, [] => acc
  | acc, q :: r => runT (storedH acc q.1 q.2.1 q.2.2) r
theorem storedH_le (xs : List KA) (k : List Key) (a : Addr) (v : Value) : (storedH xs k a v).length ≤ xs.length + 1 := by
  unfold storedH
  split
  · rw [List.length_map]; omega
  · rw [List.length_append]; exact Nat.le_refl _
section
variable {prog : Program} {w : World} {A : Around} {E : Value → Shared → Prop}
theorem key_keep {h h' : Heap} {ks : List Key} {a : Addr} (k : (tupleKind (mixKind prog w)).is h ks a) (f : ∀ o, h.get? a = some o → h'.get? a = some o) : (tupleKind (mixKind prog w)).is h' ks a := by
  obtain ⟨o, x, n, g, r⟩ := k
  exact ⟨o, x, n, f _ g, r⟩
theorem dh_keep {h h' : Heap} {S : Addr} {xs : List KA} (m : h.DictOfH (tupleKind (mixKind prog w)) S xs) (f : ∀ b o, (b = S ∨ ∃ q ∈ xs, b = q.2.1) → h.get? b = some o → h'.get? b = some o) : h'.DictOfH (tupleKind (mixKind prog w)) S xs := by
  obtain ⟨o, es, ep, ho, hc, hd, he, his, hn⟩ := m
  exact ⟨o, es, ep, f _ _ (.inl rfl) ho, hc, hd, he, fun x hx => key_keep (his x hx) fun o e => f _ _ (.inr ⟨x, hx, rfl⟩) e, hn⟩
theorem storedH_mem {xs : List KA} {k : List Key} {a : Addr} {v : Value} : ∀ q ∈ storedH xs k a v, q.2.1 = a ∨ ∃ p ∈ xs, q.2.1 = p.2.1 := by
  intro q hq
  unfold storedH at hq
  split at hq
  · obtain ⟨p, hp, e⟩ := List.mem_map.mp hq
    right
    refine ⟨p, hp, ?_⟩
    rw [← e]
    unfold putAt
    split <;> rfl
  · rcases List.mem_append.mp hq with z | z
    · exact .inr ⟨q, z, rfl⟩
    · rw [List.mem_singleton.mp z]
      exact .inl rfl
/-- the walk over such pairs -/
theorem upd_loopT {R : Result → Shared → Prop} {S I l : Addr} {items : Array Value} {res : Value} (hu : A.units + 1 < cLine) (hh : A.handled = none) (hlI : l ≠ I) (hSI : S ≠ I) (hSl : S ≠ l) :
    ∀ (rest : List KA) (i : Nat) (acc : List KA) (ix : Int) (t : Tok) (s : Shared), items.size = i + rest.length → acc.length + rest.length ≤ sizeLine → (∀ q ∈ acc, q.2.1 ≠ S ∧ q.2.1 ≠ I) →
      (∀ (j : Nat) (q : KA), rest[j]? = some q → ∃ b : Addr, items[i + j]? = some (.ref b) ∧ b ≠ S ∧ b ≠ I ∧ q.2.1 ≠ S ∧ q.2.1 ≠ I ∧ IsTup s.heap b #[.ref q.2.1, q.2.2] ∧ (tupleKind (mixKind prog w)).is s.heap q.1 q.2.1) →
      s.heap.IsListIter I l i → s.heap.IsList l items → s.heap.DictOfH (tupleKind (mixKind prog w)) S acc →
      (∀ h' tk, h'.DictOfH (tupleKind (mixKind prog w)) S (runT acc rest) → (∀ b o, b ≠ S → b ≠ I → s.heap.get? b = some o → h'.get? b = some o) → R (.ok (.ret res)) { s with heap := h', toks := tk }) →
      codeAny (model prog w) A (.builtin "dict.update.loop" ⟨[.ref S, .ref I, .int ix t, res], []⟩) R s
  | [], i, acc, ix, t, s, z1, z2, zk, zt, zi, zl, zm, zR => by
    refine codeAny_builtin ud_entry ?_
    rw [Around.under_plainId ud_plain _]
    show wpAny _ A.in1 (pyNext (.ref I) >>= _) _ _ s
    refine wpAny_bind (wpAny_pyNext_list_end (A := A.in1) hh zi zl (by simp at z1; simp; omega) fun h' he => ?_)
    show wpAny _ A.in1 (Builtin.Dict.addKeywords S [] >>= _) _ _ _
    refine wpAny_bind (wpAny_pure (wpAny_pure ?_))
    exact zR h' s.toks (dh_keep zm fun b o hb e => he b o (by rcases hb with rfl | ⟨q, hq, rfl⟩; exact hSI; exact (zk q hq).2) e) fun b o _ hb e => he b o hb e
  | q :: rest, i, acc, ix, t, s, z1, z2, zk, zt, zi, zl, zm, zR => by
    obtain ⟨b, hb, bS, bI, kS, kI, tup, hk⟩ := zt 0 q rfl
    rw [List.length_cons] at z1 z2
    refine codeAny_builtin ud_entry ?_
    rw [Around.under_plainId ud_plain _]
    show wpAny _ A.in1 (pyNext (.ref I) >>= _) _ _ s
    refine wpAny_bind (wpAny_pyNext_list_item (x := .ref b) zi zl (by simpa using hb) fun h1 it1 hs1 => ?_)
    have tup1 : IsTup h1 b #[.ref q.2.1, q.2.2] := tup.extBut hs1.extBut bI
    have l1 : h1.IsList l items := zl.extBut hs1.extBut hlI
    have hk1 := key_keep (prog := prog) (w := w) hk fun o e => hs1.extBut q.2.1 o kI e
    have m1 : h1.DictOfH (tupleKind (mixKind prog w)) S acc := dh_keep zm fun b o hb e => hs1.extBut b o (by rcases hb with rfl | ⟨q, hq, rfl⟩; exact hSI; exact (zk q hq).2) e
    obtain ⟨o, ho, hc, n, hd⟩ := id tup1
    show wpAny _ A.in1 (holding [Value.ref b] _ >>= _) _ _ _
    refine wpAny_bind (wpAny_holding (wpAny_bind (wpAny_tryCatch ?_)))
    unfold Builtin.Dict.pairItems
    refine wpAny_bind (wpAny_typeOf (T := "tuple") ⟨o, ho, hc⟩ ?_)
    rw [if_pos (by first | decide | rfl | simp)]
    refine wpAny_bind (wpAny_seqItems ho hd (wpAny_pure ?_))
    show wpAny _ A.in1 (holding [Value.ref q.2.1, q.2.2] (dictSet S (.ref q.2.1) q.2.2)) _ _ _
    refine wpAny_holding (wpAny_dictSet_heap (knd := tupleKind (mixKind prog w)) (k := q.1) (tupleKind_room_in1 hu) hk1 m1 (fun h2 m2 hs2 => ?_) (by omega))
    refine wpAny_pure ⟨plainId_quiet ud_plain _, upd_loopT (items := items) hu hh hlI hSI hSl rest (i + 1) (storedH acc q.1 q.2.1 q.2.2) (ix + 1) 0 _ (show items.size = i + 1 + rest.length by omega) ?_ ?_ (fun j p e => ?_) ?_ ?_ m2 fun h' tk hd' k => ?_⟩
    · have y := storedH_le acc q.1 q.2.1 q.2.2
      omega
    · intro p hp
      rcases storedH_mem p hp with e | ⟨r, hr, e⟩
      · rw [e]
        exact ⟨kS, kI⟩
      · rw [e]
        exact zk r hr
    · obtain ⟨b', hb', bS', bI', kS', kI', tup', hk'⟩ := zt (j + 1) p (by simpa using e)
      refine ⟨b', ?_, bS', bI', kS', kI', (tup'.extBut hs1.extBut bI').extBut hs2.extBut bS', key_keep hk' fun o e => hs2.extBut _ o kS' (hs1.extBut _ o kI' e)⟩
      rw [show i + 1 + j = i + (j + 1) by omega]
      exact hb'
    · exact it1.at fun o' e => hs2.extBut I o' (Ne.symm hSI) e
    · exact l1.extBut hs2.extBut (Ne.symm hSl)
    · exact zR h' tk hd' fun c oc h3 h4 e => k c oc h3 h4 (hs2.extBut c oc h3 (hs1.extBut c oc h4 e))
theorem call_dict_tups {s : Shared} {l : Addr} {ol : Obj} {items : Array Value} {n : Nat} {prs : List KA} {Q : Value → Shared → Prop} (hu : A.units + 2 < cLine) (hh : A.handled = none) (hl : s.heap.get? l = some ol) (hc : ol.cls = .type "list") (hd : ol.dict = none)
    (hdat : ol.data = .seq items n) (hsz : items.size = prs.length) (hln : prs.length ≤ sizeLine)
    (ht : ∀ (j : Nat) (q : KA), prs[j]? = some q → ∃ b : Addr, items[j]? = some (.ref b) ∧ IsTup s.heap b #[.ref q.2.1, q.2.2] ∧ (tupleKind (mixKind prog w)).is s.heap q.1 q.2.1)
    (h : ∀ h' tk, h'.DictOfH (tupleKind (mixKind prog w)) s.heap.objs.size (runT [] prs) → (∀ b o, s.heap.get? b = some o → h'.get? b = some o) → Q (.ref s.heap.objs.size) { s with heap := h', toks := tk }) :
    wpAny (model prog w) A (call (.type "dict") [.ref l]) Q E s := by
  refine callType_codes (Q₁ := fun x s₁ => x = .ref s.heap.objs.size ∧ s₁ = { s with heap := s.heap.push { cls := .type "dict", data := .dict #[] } }) PySem.F.kt_called_dict (PySem.F.kt_typeCall_dict_1 _) PySem.F.entry_dict_init (kt_code_dict_new _ ⟨rfl, rfl⟩) ?_
  rintro x s₁ ⟨rfl, rfl⟩
  have new : (s.heap.push { cls := .type "dict", data := .dict #[] }).DictOfH (tupleKind (mixKind prog w)) s.heap.objs.size [] := Heap.DictOfH.new s.heap
  have k0 : ∀ b o, s.heap.get? b = some o → (s.heap.push { cls := .type "dict", data := .dict #[] }).get? b = some o := fun b o e => Heap.get?_push_of_some _ e
  refine ⟨new.typeIs, PySem.F.args_dict_init_2 _ _, ?_⟩
  unfold Builtin.«dict.__init__»
  refine wpAny_bind ?_
  unfold Builtin.Dict.selfAndRest
  refine wpAny_bind (wpAny_notOrdered_dict new.typeIs ?_)
  show wpAny _ _ (pure (s.heap.objs.size, [Value.ref l])) _ _ _
  refine wpAny_pure ?_
  show wpAny _ _ (Builtin.Dict.updateFrom "dict.__init__" s.heap.objs.size (.ref l) [] .none) _ _ _
  unfold Builtin.Dict.updateFrom
  refine wpAny_bind (wpAny_typeOf (T := "list") ⟨ol, k0 _ _ hl, hc⟩ ?_)
  rw [if_pos (by first | decide | rfl | simp)]
  refine wpAny_bind (miss_list (k0 _ _ hl) hc hdat hd hh fun h1 tk1 hk1 => ?_)
  rw [if_pos (show (none : Option Value).isNone = true from rfl)]
  refine wpAny_bind (wpAny_rule ?_)
  have l1 : h1.IsList l items := ⟨ol, hk1 _ _ (k0 _ _ hl), hc, n, hdat⟩
  have S1 : s.heap.objs.size < h1.objs.size := by
    have e : (s.heap.push { cls := .type "dict", data := .dict #[] }).get? s.heap.objs.size = some { cls := .type "dict", data := .dict #[] } := Heap.get?_push_size _ rfl
    exact Heap.lt_size (hk1 _ _ e)
  refine wpAny_bind (wpAny_pyIter_list l1 ?_)
  have k2 : ∀ b o, h1.get? b = some o → (h1.push { cls := .type "list_iterator", data := .fields #[.ref l, .int 0 0] }).get? b = some o := fun b o e => Heap.get?_push_of_some _ e
  have lt : l < s.heap.objs.size := Heap.lt_size hl
  have key := upd_loopT (prog := prog) (w := w) (A := A.in1) (R := wants (fun r s₂ => r = .none ∧ Q (.ref s.heap.objs.size) s₂) E) (S := s.heap.objs.size) (I := h1.objs.size) (l := l) (items := items) (res := Value.none) (show A.units + 1 + 1 < cLine by omega) hh
    (Nat.ne_of_lt (Nat.lt_trans lt S1)) (Nat.ne_of_lt S1) (Nat.ne_of_gt lt) prs 0 [] 0 0
    { s with heap := h1.push { cls := .type "list_iterator", data := .fields #[.ref l, .int 0 0] }, toks := tk1 } (by rw [hsz, Nat.zero_add]) (by rw [List.length_nil, Nat.zero_add]; exact hln) (fun q z => nomatch z)
    (fun j q e => by
      obtain ⟨b, e1, e2, e3⟩ := ht j q e
      have hb : b < s.heap.objs.size := e2.lt
      have hka : q.2.1 < s.heap.objs.size := by
        obtain ⟨o, x, n, g, r⟩ := id e3
        exact Heap.lt_size g
      exact ⟨b, by rw [Nat.zero_add]; exact e1, Nat.ne_of_lt hb, Nat.ne_of_lt (Nat.lt_trans hb S1), Nat.ne_of_lt hka, Nat.ne_of_lt (Nat.lt_trans hka S1), e2.keeps fun c o z => k2 _ _ (hk1 _ _ (k0 _ _ z)), key_keep e3 fun o z => k2 _ _ (hk1 _ _ (k0 _ _ z))⟩)
    ⟨_, Heap.get?_push_size _ rfl, rfl, rfl⟩ (l1.at fun o e => k2 _ _ e) (dh_keep (dh_keep new fun b o _ e => hk1 _ _ e) fun b o _ e => k2 _ _ e)
    (fun h' tk hd' k => ⟨rfl, h h' tk hd' fun b o e => k b o (Nat.ne_of_lt (Heap.lt_size e)) (Nat.ne_of_lt (Nat.lt_trans (Heap.lt_size e) S1)) (k2 _ _ (hk1 _ _ (k0 _ _ e)))⟩)
  first
    | exact wpAny_pure ⟨plainId_quiet ud_plain _, key⟩
    | exact wpAny_bind (wpAny_pure (wpAny_pure ⟨plainId_quiet ud_plain _, key⟩))
end
end L2
set_option maxRecDepth 100000
set_option maxHeartbeats 4000000
namespace L2
open PySem PySem.Spec PyProof.Rows
def putsT (acc : List (List Key × V)) (kvs : List (List Key × V)) : List (List Key × V) := kvs.foldl (fun acc kv => putK acc kv.1 kv.2) acc
theorem putsT_le : ∀ (kvs acc : List (List Key × V)), (putsT acc kvs).length ≤ acc.length + kvs.length
  | [], acc => Nat.le_refl _
  | kv :: r, acc => by
    have z := putsT_le r (putK acc kv.1 kv.2)
    have y := length_putK acc kv.1 kv.2
    show (putsT (putK acc kv.1 kv.2) r).length ≤ acc.length + (r.length + 1)
    omega
theorem kt_puts {H : Hp} : ∀ {kvs : List (List Key × V)} {prs : List KA} {acc : List (List Key × V)} {xs : List KA}, KT H kvs prs → KT H acc xs → KT H (putsT acc kvs) (runT xs prs)
  | [], _, acc, xs, .nil, k => k
  | kv :: r, q :: s, acc, xs, .cons h t, k => by
    obtain ⟨e, hb, rv⟩ := h
    show KT H (putsT (putK acc kv.1 kv.2) r) (runT (storedH xs q.1 q.2.1 q.2.2) s)
    rw [← e]
    exact kt_puts t (k.put kv.1 hb rv)
section
variable {X : Cx}
theorem tups_of {pins : List (Addr × Obj)} {σ : St} {H : Hp} {s : Shared} (I : Inv X pins σ H s) : ∀ {ps : List Addr} {kvs : List (List Key × V)}, Paired (fun p kv => ∃ b, H b = some (.tup (kv.1.map kV)) ∧ SqT X.K H p [.ref b, kv.2]) ps kvs →
    ∃ prs : List KA, KT H kvs prs ∧ prs.length = ps.length ∧ ∀ (j : Nat) (q : KA), prs[j]? = some q → ∃ b : Addr, ps[j]? = some b ∧ IsTup s.heap b #[.ref q.2.1, q.2.2] ∧ (tupleKind (mixKind X.prog X.w)).is s.heap q.1 q.2.1
  | _, _, .nil => ⟨[], .nil, rfl, fun j q e => by simp at e⟩
  | _, _, .cons (a := p) (b := kv) h t => by
    obtain ⟨prs, r, hl, hp⟩ := tups_of I t
    obtain ⟨kb, hkb, hsq⟩ := h
    obtain ⟨its, rv, ht, _⟩ := I.tuple hsq
    obtain ⟨u, y, ei, ru, ry⟩ := vals2 rv
    subst ei
    cases ru
    refine ⟨(kv.1, kb, y) :: prs, .cons ⟨rfl, hkb, ry⟩ r, by rw [List.length_cons, List.length_cons, hl], fun j q e => ?_⟩
    cases j with
    | zero =>
      obtain rfl : (kv.1, kb, y) = q := Option.some.inj e
      exact ⟨p, rfl, ht, key_of I.hok hkb⟩
    | succ j =>
      obtain ⟨b, e1, e2, e3⟩ := hp j q (by simpa using e)
      exact ⟨b, by simpa using e1, e2, e3⟩
/-- dict(a list of pairs whose keys are tuples) -/
def rDictT (K : PySem.W.Frag) : List V → Hp → VK → Prop := fun xs H Q => ∃ (a : Addr) (ps : List Addr) (kvs : List (List Key × V)), xs = [.ref a] ∧ SqL K H a (ps.map V.ref) ∧ Paired (fun p kv => ∃ b, H b = some (.tup (kv.1.map kV)) ∧ SqT K H p [.ref b, kv.2]) ps kvs ∧
    ∀ p, H p = none → Q (.ref p) (upd H p (.dT (putsT [] kvs)))
theorem call_dictT (hcalm : X.calm = true) (hu : X.A.units + 64 < cLine) : CallR X (.type "dict") (rDictT X.K) := by
  intro pins s σ H xs us Q I r q
  obtain ⟨a, ps, kvs, rfl, hq, hp, q⟩ := q
  obtain ⟨u, rfl, rx⟩ := vals1 r
  cases rx
  obtain ⟨its, rv, pl, hz⟩ := I.list hq
  obtain rfl := refs_at rv
  rw [List.length_map] at hz
  obtain ⟨prs, rel, hl, hpr⟩ := tups_of I hp
  obtain ⟨o, n, ho, hc, hd, hdat⟩ := pl
  refine call_dict_tups (prs := prs) (by omega) (I.ok.hd hcalm) ho hc hd hdat (by simp [hl]) (by rw [hl]; exact hz) (fun j q' e => ?_) fun h' tk hd' k => ?_
  · obtain ⟨b, e1, e2, e3⟩ := hpr j q' e
    exact ⟨b, by simp [e1], e2, e3⟩
  · have hm : (s.heap.objs.size == sysModules) = false := beq_eq_false_iff_ne.mpr (Nat.ne_of_gt I.big)
    have kl : kvs.length = prs.length := Paired.length rel
    have hlen : (putsT [] kvs).length ≤ sizeLine := by
      have z := putsT_le kvs []
      rw [List.length_nil] at z
      omega
    have fresh : H s.heap.objs.size = none := I.hok.fresh (Nat.le_refl _)
    obtain ⟨ob, es, ep, g1, g2, g3, g4, _, g5⟩ := hd'
    refine ⟨.ref s.heap.objs.size, upd H s.heap.objs.size (.dT (putsT [] kvs)), I.laid (t' := tk) k (Nat.le_refl _) (show ObjOk X.prog X.w _ _ _ (.dT (putsT [] kvs)) from ⟨hlen, hm, runT [] prs, (kt_puts rel .nil).keeps fun c ys ec => ?_, ob, es, ep, g1, g2, g3, g4, g5⟩), rfl, q _ fresh⟩
    rw [upd_ne (ne_of_none ec fresh)]
    exact ec
end
end L2
set_option maxRecDepth 100000
set_option maxHeartbeats 4000000
namespace K2
open PySem PySem.Spec PyProof.Rows L2
abbrev sDeck : Stmt := top 77
abbrev sDraw : Stmt := top 78
abbrev sPick : Stmt := top 79
/-! ### the deck of choices -/
/-- a deck at p: its cells at q, the mixed number m, the count c -/
structure DeckAt (H : Hp) (p q : Addr) (ns : List Int) (m c : Int) : Prop where
  ob : H p = some (.lst [.ref q, .int m, .int c])
  ce : H q = some (.lst (ns.map V.int))
  m0 : 0 ≤ m
  m1 : m < 2147483629
  c0 : 0 ≤ c
  c1 : c ≤ 1000000000
  ln : ns.length ≤ 63
theorem DeckAt.ne {H : Hp} {p q : Addr} {ns : List Int} {m c : Int} (D : DeckAt H p q ns m c) : p ≠ q := fun e => by
  have z := D.ce
  rw [← e, D.ob] at z
  have z' := Option.some.inj z
  injection z' with z''
  cases ns with
  | nil => cases z''
  | cons a l => injection z'' with y _; cases y
theorem DeckAt.same {H H' : Hp} {p q : Addr} {ns : List Int} {m c : Int} (D : DeckAt H p q ns m c) (S : Same H H') : DeckAt H' p q ns m c := ⟨S _ _ D.ob, S _ _ D.ce, D.m0, D.m1, D.c0, D.c1, D.ln⟩
/-- what was tracked, but at p and q -/
def Off (p q : Addr) (H H' : Hp) : Prop := ∀ b o, H b = some o → b ≠ p → b ≠ q → H' b = some o
theorem Off.of_same {p q : Addr} {H H' : Hp} (S : Same H H') : Off p q H H' := fun b o e _ _ => S b o e
theorem Off.trans {p q : Addr} {H H1 H2 : Hp} (a : Off p q H H1) (b : Off p q H1 H2) : Off p q H H2 := fun c o e h1 h2 => b c o (a c o e h1 h2) h1 h2
theorem Off.refl {p q : Addr} {H : Hp} : Off p q H H := fun _ _ e _ _ => e
theorem dp_ints {K : PySem.W.Frag} {H : Hp} : ∀ ns : List Int, DpAll K H (ns.map V.int) (ns.map PyData.int)
  | [] => .nil
  | a :: l => .cons (.int a) (dp_ints l)
theorem lay_ints : ∀ ns : List Int, PyData.canLayAll0 (ns.map PyData.int) = true
  | [] => by simp [PyData.canLayAll0]
  | a :: l => by simp [PyData.canLayAll0, PyData.canLay0, lay_ints l]
theorem depth_ints : ∀ ns : List Int, PyData.depthAll (ns.map PyData.int) = 0
  | [] => by simp [PyData.depthAll]
  | a :: l => by simp [PyData.depthAll, PyData.depth, depth_ints l]
theorem shaped_ints (ns : List Int) : SeqAt.shaped (.list (ns.map PyData.int)) = true := by
  have h2 : PyData.depth (.list (ns.map PyData.int)) ≤ 64 := by
    rw [PyData.depth, depth_ints]
    decide
  unfold SeqAt.shaped
  rw [Bool.and_eq_true, PyData.canLay0]
  exact ⟨lay_ints ns, decide_eq_true h2⟩
def spDeck (K : PySem.W.Frag) : Sp := fun vs H Q _ => ∃ (a : Addr) (ns : List Int), vs = [.ref a] ∧ SqL K H a (ns.map V.int) ∧ ns.length ≤ 63 ∧
  ∀ (p q : Addr) (ms : List Int) (m : Int) (H' : Hp), Same H H' → H p = none → H q = none → DeckAt H' p q ms m 0 → Q (.ref p) H'
def spDraw : Sp := fun vs H Q _ => ∃ (p q : Addr) (ns : List Int) (m c n : Int), vs = [.ref p, .int n] ∧ 0 < n ∧ n ≤ 1000000 ∧ DeckAt H p q ns m c ∧ c + 1 ≤ 1000000000 ∧
  ∀ (i : Int) (ns' : List Int) (H' : Hp), 0 ≤ i → i < n → Off p q H H' → DeckAt H' p q ns' m (c + 1) → Q (.int i) H'
section
variable {P : Program} {w : World} {K : PySem.W.Frag} {mg : Str → Option Value} {base : Heap}
theorem scDeck : FnScope ["_law_script", "_law_cells", "_law_mix", "_law_cell"] ["_law_script"] (defScope sDeck) := ⟨rfl, rfl, rfl, by decide +kernel, rfl, by decide +kernel, by decide +kernel⟩
theorem ok_deck {f : Addr} {fd : FuncData} (F : Fun K "_law_deck" "_law_deck" sDeck f fd) (T : Nm mg) (Tl : mg "list" = none) : FnOk P w K mg base CX0 1 f fd ["_law_script"] (spDeck K) := by
  refine F.ok scDeck (fun vs H Q E h => ?_) (fun cdv A outer s H vs Q E hr h => ?_)
  · obtain ⟨a, ns, rfl, _⟩ := h
    rfl
  · obtain ⟨a, ns, rfl, hS, hl, k⟩ := h
    refine ⟨_, pss_cons (ps_par (i := 1) (j := 2) rfl scDeck.nd rfl rfl (by decide) rfl rfl (pa_cons (pe_callTy call_list_of (by rfl) Tl (by decide +kernel) (pa_cons (pe_slice sl_list (pv 0) po_none (po_some pe_int)) pa_nil)) (pa_cons pe_int pa_nil)) (by rfl))
      (pss_cons (ps_for PassesOwn.never rfl (pi_list (pv 1)) (pg_name (i := 3) scDeck.nd rfl (Or.inl rfl))
        (pss_one (ps_set (i := 2) scDeck.nd rfl (Or.inl rfl) (pe_op op_mod (pe_op op_add (pe_op op_add (pe_op op_mul (pv 2) pe_int) (pe_op op_mod (pv 3) pe_int)) pe_int) pe_int))))
      (pss_one (ps_ret (pe_lst (pa_cons (pe_revL (pv 1)) (pa_cons (pv 2) (pa_cons pe_int pa_nil))))))), ?_⟩
    -- script[:63]; list(..)
    refine ⟨_, rfl, 63, rfl, a, _, rfl, hS, fun p1 np1 => ?_⟩
    have hcut : (cutV (ns.map V.int) none (some 63)).length ≤ 63 := by
      have z := cutV_length (ns.map V.int) none (some 63)
      rw [List.length_map] at z
      omega
    obtain ⟨cs, hcs, hcl⟩ : ∃ cs : List Int, cutV (ns.map V.int) none (some 63) = cs.map V.int ∧ cs.length ≤ 63 := by
      refine ⟨(ns.drop (HT.sIx ns.length 0 none)).take (HT.sIx ns.length ns.length (some 63) - HT.sIx ns.length 0 none), ?_, ?_⟩
      · unfold cutV
        rw [List.length_map, List.map_take, List.map_drop]
      · rw [List.length_take, List.length_drop]
        omega
    rw [hcs]
    refine ⟨p1, _, rfl, .inl (.inl (.inl upd_same)), fun q1 nq1 => ⟨_, _, rfl, ?_⟩⟩
    have s1 : Same H (upd (upd H p1 (.lst (cs.map V.int))) q1 (.lst (cs.map V.int))) := (same_new np1).trans (same_new nq1)
    -- the loop
    refine ⟨_, rfl, q1, rfl, ⟨_, .inl (.inl upd_same)⟩, for_list (K := K) (a := q1) (xs := cs.map V.int) (fun i σ H' => ∃ (m : Int) (v : Option V), σ = [some (.ref a), some (.ref q1), some (.int m), v] ∧ H' = upd (upd H p1 (.lst (cs.map V.int))) q1 (.lst (cs.map V.int)) ∧ 0 ≤ m ∧ m < 2147483629)
      ⟨60203, none, rfl, rfl, by decide, by decide⟩ (fun i σ H' _ ⟨_, _, _, e, _⟩ => by rw [e]; exact .inl (.inl upd_same)) ?_ ?_⟩
    · rintro i y σ H' hi ⟨m, v, rfl, rfl, h0, h1⟩
      obtain ⟨z, rfl⟩ : ∃ z, y = V.int z := by
        rw [List.getElem?_map] at hi
        cases e : cs[i]? with
        | none =>
          rw [e] at hi
          cases hi
        | some z =>
          rw [e] at hi
          exact ⟨z, (Option.some.inj hi).symm⟩
      refine ⟨_, rfl, _, _, rfl, rfl, .inl ⟨by omega, by omega⟩, ?_⟩
      refine ⟨_, rfl, _, _, rfl, rfl, (by decide : (0 : Int) < 2147483587), _, _, rfl, rfl, _, _, rfl, rfl, _, _, rfl, rfl, (by decide : (0 : Int) < 2147483629), ?_⟩
      exact ⟨_, _, rfl, rfl, Int.emod_nonneg _ (by decide), Int.emod_lt_of_pos _ (by decide)⟩
    · rintro σ H' ⟨m, v, rfl, rfl, h0, h1⟩
      refine ⟨_, rfl, q1, _, rfl, .inl (.inl upd_same), fun r1 nr1 => ⟨_, rfl, (by show 3 ≤ sizeLine; decide), fun d nd => ?_⟩⟩
      rw [← List.map_reverse] at nd ⊢
      refine k d r1 cs.reverse m _ ((s1.trans (same_new nr1)).trans (same_new nd)) ?_ ?_ ⟨upd_same, ?_, h0, h1, by decide, by decide, by rw [List.length_reverse]; exact hcl⟩
      · exact ((s1.trans (same_new nr1))).free nd
      · exact s1.free nr1
      · rw [upd_ne (ne_of_none upd_same nd), upd_same]
theorem scDraw : FnScope ["_law_deck_here", "_law_bound", "_law_cell", "_law_mixed"] ["_law_deck_here", "_law_bound"] (defScope sDraw) := ⟨rfl, rfl, rfl, by decide +kernel, rfl, by decide +kernel, by decide +kernel⟩
theorem ok_draw {f : Addr} {fd : FuncData} (F : Fun K "_law_draw" "_law_draw" sDraw f fd) : FnOk P w K mg base CX0 1 f fd ["_law_deck_here", "_law_bound"] spDraw := by
  refine F.ok scDraw (fun vs H Q E h => ?_) (fun cdv A outer s H vs Q E hr h => ?_)
  · obtain ⟨p, q, ns, m, c, n, rfl, _⟩ := h
    rfl
  · obtain ⟨p, q, ns, m, c, n, rfl, hn0, hn1, D, hc, k⟩ := h
    have hu := hr.units
    have hpq := D.ne
    refine ⟨_, pss_cons (ps_asg (pe_op op_add (pe_ix ix_list (pv 0) pe_int (fun _ _ => rfl)) pe_int) (pg_sub (pv 0) pe_int set_list (fun _ => rfl)))
      (pss_cons (ps_set (i := 2) scDraw.nd rfl (Or.inl rfl) (pe_ix ix_list (pv 0) pe_int (fun _ _ => rfl)))
      (C8.pss_cut (ps_if (pt_cmpR (op_neD hu) (pe_ix ix_list (pv 0) pe_int (fun _ _ => rfl)) (pe_lst pa_nil) (nomark _))
          (pss_cons (ps_set (i := 2) scDraw.nd rfl (Or.inl rfl) (pe_bm0 PySem.F.plainAttrs_list PySem.F.slot_list_pop PySem.F.type_list_pop mt_pop (pe_ix ix_list (pv 0) pe_int (fun _ _ => rfl))))
          (pss_cons (ps_if (pt_cmpR op_ge (pv 2) (pe_op op_pow pe_int pe_int) (nomark _))
              (pss_cons (ps_expr (pe_bm PySem.F.plainAttrs_list PySem.F.slot_list_append PySem.F.type_list_append mt_append (pe_ix ix_list (pv 0) pe_int (fun _ _ => rfl)) (pa_cons (pe_op op_fdivN (pv 2) (pv 1)) pa_nil)))
              (pss_one (ps_ret (pe_op op_mod (pv 2) (pv 1))))) pss_nil)
          (pss_one (ps_set (i := 2) scDraw.nd rfl (Or.inl rfl) (pe_op op_add (pv 2) (pe_ix ix_list (pv 0) pe_int (fun _ _ => rfl))))))) pss_nil)
      (pss_cons (ps_set (i := 3) scDraw.nd rfl (Or.inl rfl) (pe_op op_mod (pe_op op_mul (pe_op op_add (pe_op op_add (pe_op op_mod (pv 2) pe_int) (pe_op op_mul (pe_op op_mul pe_int (pe_ix ix_list (pv 0) pe_int (fun _ _ => rfl))) (pe_ix ix_list (pv 0) pe_int (fun _ _ => rfl)))) pe_int) pe_int) pe_int))
      (pss_cons (ps_set (i := 3) scDraw.nd rfl (Or.inl rfl) (pe_op op_mod (pe_op op_add (pe_op op_add (pe_op op_mul (pv 3) (pv 3)) (pe_op op_mul pe_int (pe_ix ix_list (pv 0) pe_int (fun _ _ => rfl)))) pe_int) pe_int))
      (pss_one (ps_ret (pe_op op_mod (pe_op op_fdiv (pe_op op_mod (pe_op op_mul (pv 3) pe_int) pe_int) pe_int) (pv 1)))))))), ?_⟩
    have c2 : ∀ {x y z : V}, atI [x, y, z] 2 = some z := fun {x y z} => atI_nat (xs := [x, y, z]) (j := 2) rfl
    have c1 : ∀ {x y z : V}, atI [x, y, z] 1 = some y := fun {x y z} => atI_nat (xs := [x, y, z]) (j := 1) rfl
    have c0 : ∀ {x y z : V}, atI [x, y, z] 0 = some x := fun {x y z} => atI_nat (xs := [x, y, z]) (j := 0) rfl
    -- deck[2] = deck[2] + 1
    refine ⟨_, rfl, p, _, _, _, rfl, rfl, SqL.of D.ob, c2, _, _, rfl, rfl, _, rfl, p, _, _, 2, rfl, rfl, D.ob, rfl, ?_⟩
    have eset : ([V.ref q, V.int m, V.int c].set 2 (V.int (c + 1))) = [V.ref q, V.int m, V.int (c + 1)] := rfl
    rw [eset]
    have D1 : DeckAt (upd H p (.lst [.ref q, .int m, .int (c + 1)])) p q ns m (c + 1) :=
      ⟨upd_same, by rw [upd_ne hpq.symm]; exact D.ce, D.m0, D.m1, by have := D.c0; omega, hc, D.ln⟩
    have off1 : Off p q H (upd H p (.lst [.ref q, .int m, .int (c + 1)])) := fun b o e h1 _ => by rw [upd_ne h1]; exact e
    -- cell = deck[1]
    refine ⟨_, rfl, p, _, _, _, rfl, rfl, SqL.of D1.ob, c1, ?_⟩
    -- if deck[0] != []: .. ; what follows holds for any cell
    refine ⟨fun σ H' => ∃ (z : Int) (ns' : List Int), σ = [some (.ref p), some (.int n), some (.int z), none] ∧ Off p q H H' ∧ DeckAt H' p q ns' m (c + 1), ?_, ?_⟩
    · refine ⟨_, rfl, p, _, _, _, rfl, rfl, SqL.of D1.ob, c0, (by show 0 ≤ sizeLine; decide), fun e ne => ?_⟩
      have D2 : DeckAt (upd (upd H p (.lst [.ref q, .int m, .int (c + 1)])) e (.lst [])) p q ns m (c + 1) := D1.same (same_new ne)
      have off2 : Off p q H (upd (upd H p (.lst [.ref q, .int m, .int (c + 1)])) e (.lst [])) := off1.trans (.of_same (same_new ne))
      refine ⟨.list (ns.map .int), .list [], .lst (SqL.of D2.ce) (dp_ints ns), .lst (SqL.of upd_same) .nil, shaped_ints ns, shaped_ints [], _, rfl, ?_⟩
      generalize hH2 : upd (upd H p (.lst [.ref q, .int m, .int (c + 1)])) e (.lst []) = H2 at D2 off2 ⊢
      cases hns : ns with
      | nil =>
        have e0 : PyData.eqv (.list (([] : List Int).map PyData.int)) (.list []) = true := by simp [PyData.eqv, PyData.eqvAll]
        rw [e0]
        refine iteF ?_
        exact ⟨m, [], rfl, off2, by rw [hns] at D2; exact D2⟩
      | cons a l =>
        have e0 : PyData.eqv (.list ((a :: l).map PyData.int)) (.list []) = false := by simp [PyData.eqv, PyData.eqvAll]
        rw [e0]
        refine iteT ?_
        rw [hns] at D2
        -- cell = deck[0].pop()
        obtain ⟨l', z, hz⟩ : ∃ (l' : List Int) (z : Int), a :: l = l' ++ [z] := ⟨(a :: l).dropLast, (a :: l).getLast (by simp), (List.dropLast_concat_getLast (by simp)).symm⟩
        rw [hz] at D2
        have hln : l'.length + 1 ≤ 63 := by
          have z1 := D2.ln
          rw [List.length_append] at z1
          exact z1
        have elast : ((l' ++ [z]).map V.int)[((l' ++ [z]).map V.int).length - 1]? = some (.int z) := by simp
        have edrop : ((l' ++ [z]).map V.int).dropLast = l'.map V.int := by simp
        refine ⟨_, rfl, p, _, _, _, rfl, rfl, SqL.of D2.ob, c0, .inl ⟨rfl, _, SqL.of D2.ce⟩, q, _, _, rfl, rfl, D2.ce, elast, ?_⟩
        rw [edrop]
        have D3 : DeckAt (upd H2 q (.lst (l'.map V.int))) p q l' m (c + 1) := ⟨by rw [upd_ne hpq]; exact D2.ob, upd_same, D2.m0, D2.m1, D2.c0, D2.c1, by omega⟩
        have off3 : Off p q H (upd H2 q (.lst (l'.map V.int))) := off2.trans fun b o e _ h2 => by rw [upd_ne h2]; exact e
        generalize upd H2 q (.lst (l'.map V.int)) = H3 at D3 off3 ⊢
        -- if cell >= 10 ** 18
        refine ⟨_, rfl, _, _, rfl, rfl, ⟨by decide, by decide, by decide⟩, _, _, rfl, rfl, _, rfl, ?_⟩
        refine ite2 (fun _ => ?_) (fun _ => ?_)
        · refine ⟨_, rfl, p, _, _, _, rfl, rfl, SqL.of D3.ob, c0, .inl ⟨rfl, _, SqL.of D3.ce⟩, _, rfl, _, rfl, _, _, rfl, rfl, ⟨by omega, by omega⟩, q, _, _, rfl, rfl, D3.ce, (by rw [List.length_map, sizeLine_eq]; omega), ?_⟩
          have eapp : l'.map V.int ++ [V.int (z.fdiv n)] = (l' ++ [z.fdiv n]).map V.int := by simp
          rw [eapp]
          have D4 : DeckAt (upd H3 q (.lst ((l' ++ [z.fdiv n]).map V.int))) p q (l' ++ [z.fdiv n]) m (c + 1) :=
            ⟨by rw [upd_ne hpq]; exact D3.ob, upd_same, D3.m0, D3.m1, D3.c0, D3.c1, by rw [List.length_append]; exact hln⟩
          refine ⟨_, rfl, _, rfl, _, _, rfl, rfl, hn0, ?_⟩
          exact k _ _ _ (Int.emod_nonneg _ (by omega)) (Int.emod_lt_of_pos _ hn0) (off3.trans fun b o e _ h2 => by rw [upd_ne h2]; exact e) D4
        · refine ⟨_, rfl, _, rfl, p, _, _, _, rfl, rfl, SqL.of D3.ob, c1, _, _, rfl, rfl, ?_⟩
          exact ⟨_, l', rfl, off3, D3⟩
    · rintro σ' H' ⟨z, ns', rfl, off', D'⟩
      have ix2 := fun (g : Hp → Prop) => g
      refine ⟨_, rfl, _, _, rfl, rfl, (by decide : (0 : Int) < 2147483563), _, rfl, p, _, _, _, rfl, rfl, SqL.of D'.ob, c2, _, _, rfl, rfl, .inl ⟨by decide, by decide⟩, _, rfl, p, _, _, _, rfl, rfl, SqL.of D'.ob, c2, _, _, rfl, rfl, .inl ⟨by have := D'.c0; omega, by have := D'.c1; omega⟩,
        _, _, rfl, rfl, _, _, rfl, rfl, _, _, rfl, rfl, .inr ⟨by decide, by decide⟩, _, _, rfl, rfl, (by decide : (0 : Int) < 2147483647), ?_⟩
      generalize hx : (z % 2147483563 + 73727 * (c + 1) * (c + 1) + 17) * 48271 % 2147483647 = x
      have x0 : 0 ≤ x := by rw [← hx]; exact Int.emod_nonneg _ (by decide)
      have x1 : x < 2147483647 := by rw [← hx]; exact Int.emod_lt_of_pos _ (by decide)
      refine ⟨_, rfl, _, rfl, _, _, rfl, rfl, .inl ⟨by omega, by omega⟩, _, rfl, p, _, _, _, rfl, rfl, SqL.of D'.ob, c2, _, _, rfl, rfl, .inl ⟨by decide, by decide⟩, _, _, rfl, rfl, _, _, rfl, rfl, _, _, rfl, rfl, (by decide : (0 : Int) < 2147483629), ?_⟩
      refine ⟨_, rfl, _, _, rfl, rfl, .inr ⟨by decide, by decide⟩, _, _, rfl, rfl, (by decide : (0 : Int) < 2147483587), _, _, rfl, rfl, ⟨by decide, by decide⟩, _, rfl, _, _, rfl, rfl, hn0, ?_⟩
      exact k _ ns' H' (Int.emod_nonneg _ (by omega)) (Int.emod_lt_of_pos _ hn0) off' D'
theorem scPick : FnScope ["_law_deck_here", "_law_items"] ["_law_deck_here", "_law_items"] (defScope sPick) := ⟨rfl, rfl, rfl, by decide +kernel, rfl, by decide +kernel, by decide +kernel⟩
/-- one of the items, at some place -/
def spPick : Sp := fun vs H Q _ => ∃ (p q t : Addr) (ns : List Int) (m c : Int) (xs : List V), vs = [.ref p, .ref t] ∧ H t = some (.lst xs) ∧ t ≠ p ∧ t ≠ q ∧ 0 < xs.length ∧ xs.length ≤ 1000 ∧ DeckAt H p q ns m c ∧ c + 1 ≤ 1000000000 ∧
  ∀ (j : Nat) (x : V) (ns' : List Int) (H' : Hp), xs[j]? = some x → Off p q H H' → DeckAt H' p q ns' m (c + 1) → Q x H'
theorem ok_pick {f fD : Addr} {fd fdD : FuncData} (F : Fun K "_law_pick" "_law_pick" sPick f fd) (T : Nm mg) (FD : Fun K "_law_draw" "_law_draw" sDraw fD fdD) (bD : Binds K fdD ["_law_deck_here", "_law_bound"] []) (gD : mg "_law_draw" = some (.ref fD)) :
    FnOk P w K mg base CX0 2 f fd ["_law_deck_here", "_law_items"] spPick := by
  have GD : FnOk P w K mg base CX0 1 fD fdD ["_law_deck_here", "_law_bound"] spDraw := ok_draw FD
  refine F.ok scPick (fun vs H Q E h => ?_) (fun cdv A outer s H vs Q E hr h => ?_)
  · obtain ⟨p, q, t, ns, m, c, xs, rfl, _⟩ := h
    rfl
  · obtain ⟨p, q, t, ns, m, c, xs, rfl, ht, tp, tq, hx0, hx1, D, hc, k⟩ := h
    refine ⟨_, pss_one (ps_ret (pe_ix ix_list (pv 1) (pe_call GD hr rfl gD FD.kp bD .nil pass0 (pa_cons (pv 0) (pa_cons (pe_callB call_len_seq (by rfl) T.len PySem.boot_len (pa_cons (pv 1) pa_nil)) pa_nil))) (fun _ _ => rfl))), ?_⟩
    refine ⟨_, rfl, _, rfl, _, rfl, t, _, rfl, .inl (SqL.of ht), p, q, ns, m, c, (xs.length : Int), rfl, by omega, by omega, D, hc, fun i ns' H' h0 h1 off D' => ?_⟩
    obtain ⟨j, rfl⟩ : ∃ j : Nat, i = (j : Int) := ⟨i.toNat, by omega⟩
    have hj : j < xs.length := by omega
    exact ⟨t, xs, _, xs[j], rfl, rfl, SqL.of (off _ _ ht tp tq), atI_nat (List.getElem?_eq_getElem hj), k j _ ns' H' (List.getElem?_eq_getElem hj) off D'⟩
end
end K2
set_option maxRecDepth 100000
set_option maxHeartbeats 4000000
namespace L2
open PySem PySem.Spec PyProof.Rows
section
variable {X : Cx}
/-- a list beside an empty list, a tuple beside an empty tuple -/
def rEmpty (neg : Bool) : R2 := fun x y H Q => ∃ (a b : Addr) (xs : List V), x = .ref a ∧ y = .ref b ∧ ((H a = some (.lst xs) ∧ H b = some (.lst [])) ∨ (H a = some (.tup xs) ∧ H b = some (.tup []))) ∧ Q (.bl (if neg then !xs.isEmpty else xs.isEmpty)) H
theorem nil_of {us : List Value} (r : Vals ([] : List V) us) : us = [] := by
  cases r
  rfl
theorem op_empty (hu : X.A.units < cLine) : OpR X (compareOp .Eq) (rEmpty false) := by
  intro pins s σ H x y v u Q I rx ry h
  obtain ⟨a, b, xs, rfl, rfl, h, q⟩ := h
  cases rx
  cases ry
  rcases h with ⟨ha, hb⟩ | ⟨ha, hb⟩
  · obtain ⟨its, rv, p, _⟩ := I.list (SqL.of ha)
    obtain ⟨its2, rv2, p2, _⟩ := I.list (SqL.of hb)
    obtain rfl := nil_of rv2
    cases xs with
    | nil =>
      obtain rfl := nil_of rv
      exact SeqAt.eq_listAt (e := fun _ => true) p.isList p2.isList rfl hu (fun j h1 h2 => absurd h1 (Nat.not_lt_zero _)) ⟨.bl true, H, I, rfl, q⟩
    | cons x0 l =>
      cases rv with
      | cons r0 rs => exact SeqAt.eq_list_lengthsAt p.isList p2.isList (by simp) hu ⟨.bl false, H, I, rfl, q⟩
  · obtain ⟨its, rv, p, _⟩ := I.tuple (SqT.of ha)
    obtain ⟨its2, rv2, p2, _⟩ := I.tuple (SqT.of hb)
    obtain rfl := nil_of rv2
    cases xs with
    | nil =>
      obtain rfl := nil_of rv
      exact SeqAt.eq_tupleAt (e := fun _ => true) p p2 hu (fun j h1 h2 => absurd h1 (Nat.not_lt_zero _)) ⟨.bl true, H, I, rfl, q⟩
    | cons x0 l =>
      cases rv with
      | cons r0 rs => exact SeqAt.eq_tupleAt (e := fun _ => true) p p2 hu (fun j h1 h2 => absurd h2 (Nat.not_lt_zero _)) ⟨.bl false, H, I, by simp [RelV], q⟩
theorem op_nempty (hu : X.A.units < cLine) : OpR X (compareOp .NotEq) (rEmpty true) := by
  intro pins s σ H x y v u Q I rx ry h
  obtain ⟨a, b, xs, rfl, rfl, h, q⟩ := h
  cases rx
  cases ry
  rcases h with ⟨ha, hb⟩ | ⟨ha, hb⟩
  · obtain ⟨its, rv, p, _⟩ := I.list (SqL.of ha)
    obtain ⟨its2, rv2, p2, _⟩ := I.list (SqL.of hb)
    obtain rfl := nil_of rv2
    cases xs with
    | nil =>
      obtain rfl := nil_of rv
      exact SeqAt.RcNeAt.lists (e := fun _ => true) p.isList p2.isList rfl hu (fun j h1 h2 => absurd h1 (Nat.not_lt_zero _)) _ _ _ _ ⟨.bl false, H, I, rfl, q⟩
    | cons x0 l =>
      cases rv with
      | cons r0 rs => exact SeqAt.RcNeAt.lists_lengths p.isList p2.isList (by simp) hu _ _ _ _ ⟨.bl true, H, I, rfl, q⟩
  · obtain ⟨its, rv, p, _⟩ := I.tuple (SqT.of ha)
    obtain ⟨its2, rv2, p2, _⟩ := I.tuple (SqT.of hb)
    obtain rfl := nil_of rv2
    cases xs with
    | nil =>
      obtain rfl := nil_of rv
      exact SeqAt.RcNeAt.tuples (e := fun _ => true) p p2 hu (fun j h1 h2 => absurd h1 (Nat.not_lt_zero _)) _ _ _ _ ⟨.bl false, H, I, rfl, q⟩
    | cons x0 l =>
      cases rv with
      | cons r0 rs => exact SeqAt.RcNeAt.tuples (e := fun _ => true) p p2 hu (fun j h1 h2 => absurd h2 (Nat.not_lt_zero _)) _ _ _ _ ⟨.bl true, H, I, by simp [RelV], q⟩
end
end L2
namespace K2
open PySem PySem.Spec PyProof.Rows L2
/-! ### the deck stands apart -/
def hide (p q : Addr) (H : Hp) : Hp := fun b => if b = p ∨ b = q then none else H b
/-- a deck at p with its cells at q, at most b choices made -/
def Dk (H : Hp) (p q : Addr) (b : Nat) : Prop := ∃ ns m c, DeckAt H p q ns m c ∧ c ≤ (b : Int)
section
variable {H H' : Hp} {p q t : Addr} {b : Nat}
theorem hide_sub (p q : Addr) (H : Hp) : Same (hide p q H) H := fun c o e => by
  unfold hide at e
  split at e
  · cases e
  · exact e
theorem hide_at {c : Addr} {o : HO} (h : H c = some o) (hp : c ≠ p) (hq : c ≠ q) : hide p q H c = some o := by
  unfold hide
  rw [if_neg (fun z => z.elim hp hq)]
  exact h
theorem hide_same (S : Same H H') : Same (hide p q H) (hide p q H') := fun c o e => by
  unfold hide at e ⊢
  split at e
  · cases e
  · rename_i h
    rw [if_neg h]
    exact S _ _ e
theorem hide_off (O : Off p q H H') : Same (hide p q H) (hide p q H') := fun c o e => by
  unfold hide at e ⊢
  split at e
  · cases e
  · rename_i h
    rw [if_neg h]
    exact O _ _ e (fun z => h (.inl z)) (fun z => h (.inr z))
theorem Dk.same (D : Dk H p q b) (S : Same H H') : Dk H' p q b := by
  obtain ⟨ns, m, c, D, h⟩ := D
  exact ⟨ns, m, c, D.same S, h⟩
theorem Dk.mono {b' : Nat} (D : Dk H p q b) (h : b ≤ b') : Dk H p q b' := by
  obtain ⟨ns, m, c, D, hc⟩ := D
  exact ⟨ns, m, c, D, by omega⟩
theorem Dk.new (D : Dk H p q b) (n : H t = none) : t ≠ p ∧ t ≠ q := by
  obtain ⟨ns, m, c, D, hc⟩ := D
  refine ⟨fun e => ?_, fun e => ?_⟩
  · rw [e, D.ob] at n
    cases n
  · rw [e, D.ce] at n
    cases n
theorem hide_new {o : HO} (D : Dk H p q b) (n : H t = none) : hide p q (upd H t o) t = some o := hide_at upd_same (D.new n).1 (D.new n).2
theorem hide_none (h : hide p q H t = none) (hp : t ≠ p) (hq : t ≠ q) : H t = none := by
  unfold hide at h
  rw [if_neg (fun z => z.elim hp hq)] at h
  exact h
/-- a choice of n -/
theorem draw_of {n : Int} {Q : VK} {E : XK} (D : Dk H p q b) (h0 : 0 < n) (h1 : n ≤ 1000000) (hb : b < 100000000) (k : ∀ (i : Nat) (H' : Hp), (i : Int) < n → Off p q H H' → Dk H' p q (b + 1) → Q (.int (i : Nat)) H') : spDraw [.ref p, .int n] H Q E := by
  obtain ⟨ns, m, c, D, hc⟩ := D
  refine ⟨p, q, ns, m, c, n, rfl, h0, h1, D, by omega, fun i ns' H' i0 i1 off D' => ?_⟩
  obtain ⟨j, rfl⟩ : ∃ j : Nat, i = j := ⟨i.toNat, by omega⟩
  exact k j H' i1 off ⟨ns', m, c + 1, D', by omega⟩
/-- one of the items of a list -/
theorem pick_of {xs : List V} {Q : VK} {E : XK} (D : Dk H p q b) (ht : H t = some (.lst xs)) (tp : t ≠ p) (tq : t ≠ q) (h0 : 0 < xs.length) (h1 : xs.length ≤ 1000) (hb : b < 100000000) (k : ∀ (j : Nat) (x : V) (H' : Hp), xs[j]? = some x → Off p q H H' → Dk H' p q (b + 1) → Q x H') : spPick [.ref p, .ref t] H Q E := by
  obtain ⟨ns, m, c, D, hc⟩ := D
  exact ⟨p, q, t, ns, m, c, xs, rfl, ht, tp, tq, h0, h1, D, by omega, fun j x ns' H' hx off D' => k j x H' hx off ⟨ns', m, c + 1, D', by omega⟩⟩
end
end K2
set_option maxRecDepth 100000
set_option maxHeartbeats 4000000
namespace K2
open PySem PySem.Spec PyProof.Rows L2
/-! ### the law's own small checks -/
abbrev s_is_int : Stmt := top 80
abbrev s_is_name : Stmt := top 81
abbrev s_rises : Stmt := top 82
abbrev s_choose : Stmt := top 83
def letters : Str := "abcdefghijklmnopqrstuvwxyz"
theorem az_in (c : Nat) : azB c = decide (c ∈ letters.cps.toList) := by
  by_cases h : c < 128
  · have z : ∀ c : Fin 128, azB c.val = decide (c.val ∈ letters.cps.toList) := by decide +kernel
    exact z ⟨c, h⟩
  · have e1 : azB c = false := by
      unfold azB
      have z : ("z" : Str).cps.toList < [c] := by
        show [122] < [c]
        exact List.Lex.rel (by omega)
      rw [decide_eq_true z, Bool.not_true, Bool.and_false]
    have e2 : ¬ c ∈ letters.cps.toList := fun m => by
      have z : ∀ x ∈ letters.cps.toList, x < 128 := by decide +kernel
      exact h (z c m)
    rw [e1, decide_eq_false e2]
theorem eqv_nil : ∀ js : List PyData, PyData.eqv (.list js) (.list []) = js.isEmpty
  | [] => by simp [PyData.eqv, PyData.eqvAll]
  | a :: l => by simp [PyData.eqv, PyData.eqvAll]
section
variable {P : Program} {w : World} {K : PySem.W.Frag} {mg : Str → Option Value} {base : Heap}
theorem sc_is_int : FnScope ["_law_thing", "_law_low", "_law_high"] ["_law_thing", "_law_low", "_law_high"] (defScope s_is_int) := ⟨rfl, rfl, rfl, by decide +kernel, rfl, by decide +kernel, by decide +kernel⟩
theorem sc_is_name : FnScope ["_law_thing", "_law_letters", "_law_sign"] ["_law_thing"] (defScope s_is_name) := ⟨rfl, rfl, rfl, by decide +kernel, rfl, by decide +kernel, by decide +kernel⟩
theorem sc_rises : FnScope ["_law_items", "_law_k"] ["_law_items"] (defScope s_rises) := ⟨rfl, rfl, rfl, by decide +kernel, rfl, by decide +kernel, by decide +kernel⟩
theorem okl_int {f : Addr} {fd : FuncData} (F : Fun K "_law_is_int" "_law_is_int" s_is_int f fd) (T : Nm mg) : FnOk P w K mg base CX0 1 f fd ["_law_thing", "_law_low", "_law_high"] spBtw := by
  refine F.ok sc_is_int (fun vs H Q E h => ?_) (fun cdv A outer s H vs Q E hr h => ?_)
  · obtain ⟨v, d, lo, hi, rfl, _⟩ := h
    rfl
  · obtain ⟨v, d, lo, hi, rfl, hd, q⟩ := h
    refine ⟨_, pss_one (ps_ret (pe_and (pe_callB call_isi (by rfl) T.isinstance boot_isinstance (pa_cons (pv 0) (pa_cons (pe_bltn (v := .ty "int") rfl T.int (by decide +kernel) rfl) pa_nil))) (pe_and (pe_not (pe_callB call_isi (by rfl) T.isinstance boot_isinstance (pa_cons (pv 0) (pa_cons (pe_bltn (v := .ty "bool") rfl T.bool (by decide +kernel) rfl) pa_nil)))) (pe_one (pe_chain op_le op_le (pv 1) (pv 0) (pv 2)))))), ?_⟩
    have q0 := q H fun _ _ e => e
    refine ⟨_, rfl, v, .ty "int", _, _, _, rfl, .ty _, hd.ty, kit_int _ d, _, rfl, ?_⟩
    cases d with
    | int i =>
      cases hd
      refine ⟨_, rfl, V.int i, .ty "bool", _, _, _, rfl, .ty _, (Dat.int i : Dat H _ _).ty, kit_bool _ _, _, rfl, _, rfl, _, rfl, _, rfl, _, _, rfl, rfl, _, rfl, ?_⟩
      by_cases h : lo ≤ i
      · have e : btw lo hi (.int i) = decide (i ≤ hi) := by
          show (decide (lo ≤ i) && decide (i ≤ hi)) = _
          rw [decide_eq_true h, Bool.true_and]
        rw [e] at q0
        rw [if_pos (decide_eq_true h)]
        exact ⟨_, rfl, _, _, rfl, rfl, q0⟩
      · have e : btw lo hi (.int i) = false := by
          show (decide (lo ≤ i) && decide (i ≤ hi)) = _
          rw [decide_eq_false h, Bool.false_and]
        rw [e] at q0
        rw [if_neg (by rw [decide_eq_false h]; exact Bool.false_ne_true)]
        exact q0
    | bool b => exact ⟨_, rfl, v, .ty "bool", _, _, _, rfl, .ty _, hd.ty, kit_bool _ _, _, rfl, _, rfl, q0⟩
    | none => exact q0
    | str x => exact q0
    | list ds => exact q0
    | tuple ds => exact q0
    | dict kv => exact q0
theorem okl_name {f : Addr} {fd : FuncData} (F : Fun K "_law_is_name" "_law_is_name" s_is_name f fd) (T : Nm mg) : FnOk P w K mg base CX0 1 f fd ["_law_thing"] (spP nameB) := by
  refine F.ok sc_is_name (fun vs H Q E h => ?_) (fun cdv A outer s H vs Q E hr h => ?_)
  · obtain ⟨v, d, rfl, _⟩ := h
    rfl
  · obtain ⟨v, d, rfl, hd, q⟩ := h
    have hu0 := hr.units0
    refine ⟨_, pss_cons (ps_set (i := 1) sc_is_name.nd rfl (Or.inr rfl) pe_str)
      (pss_one (ps_ret (pe_and (pe_callB call_isi (by rfl) T.isinstance boot_isinstance (pa_cons (pv 0) (pa_cons (pe_bltn (v := .ty "str") rfl T.str (by decide +kernel) rfl) pa_nil))) (pe_and (pe_chain op_le op_le pe_int (pe_callB call_len_str (by rfl) T.len PySem.boot_len (pa_cons (pv 0) pa_nil)) pe_int) (pe_one (pe_cmpR (op_empty hu0) (pe_lc (own := [("_law_sign", 2)]) (g := (gName 2)) rfl sc_is_name.nd (pi_str (pv 0)) (blkOk_by (N := ["_law_thing", "_law_letters", "_law_sign"]) (sc := defScope s_is_name) (by decide +kernel))
          (fun _ _ _ _ _ => (pg_name (i := 2) sc_is_name.nd rfl (Or.inl rfl))) (fun _ _ _ _ _ => pts_one (pt_cmpR op_notIn_sign (pv 2) (pv 1) rfl)) (fun _ _ _ _ _ => (pv 2))) (pe_lst pa_nil) (nomark _))))))), ?_⟩
    have q0 := q H fun _ _ e => e
    refine ⟨_, rfl, v, .ty "str", _, _, _, rfl, .ty _, hd.ty, kit_str _ d, _, rfl, ?_⟩
    cases d with
    | str x =>
      cases hd with
      | str _ hx =>
        refine ⟨_, rfl, x, rfl, Nat.le_trans hx (by decide), _, _, rfl, rfl, _, rfl, ?_⟩
        by_cases h1 : (1 : Int) ≤ (x.length : Int)
        · rw [if_pos (decide_eq_true h1)]
          refine ⟨_, _, rfl, rfl, _, rfl, ?_⟩
          by_cases h6 : (x.length : Int) ≤ 6
          · refine if_t (decide_eq_true h6) ?_
            refine ⟨_, rfl, x, rfl, fun D nD => lc_it (walk_str (z := x)) (fun j Hx => Same H Hx ∧ ∃ cs : List Nat, Hx D = some (.lst (cs.map fun c => V.str ⟨#[c]⟩)) ∧ cs.length ≤ j ∧ cs.isEmpty = (x.cps.toList.take j).all azB) ⟨same_new nD, [], upd_same, Nat.le_refl _, rfl⟩ (fun _ _ _ _ => trivial) ?_ ?_⟩
            · rintro j y Hx Hy hj ⟨S, cs, hD, hl, he⟩ ⟨rfl, c, hc, rfl⟩
              have hcl : x.cps.toList[j]? = some c := by simpa using hc
              have et : (x.cps.toList.take (j + 1)).all azB = ((x.cps.toList.take j).all azB && azB c) := by
                rw [List.take_add_one, hcl, List.all_append]
                simp
              refine ⟨rfl, _, rfl, _, rfl, c, letters, rfl, rfl, _, rfl, ?_⟩
              rw [az_in c] at et
              cases hm : decide (c ∈ letters.cps.toList) with
              | true =>
                rw [hm, Bool.and_true, ← he] at et
                exact if_f rfl ⟨S, cs, hD, by omega, et.symm⟩
              | false =>
                rw [hm, Bool.and_false] at et
                refine if_t rfl ⟨_, rfl, _, hD, ?_, grow nD S, cs ++ [c], ?_, ?_, ?_⟩
                · rw [List.length_map, sizeLine_eq]
                  have : j < x.cps.size := hj
                  have : x.cps.size = x.length := rfl
                  omega
                · rw [upd_same, List.map_append]
                  rfl
                · rw [List.length_append]
                  show cs.length + 1 ≤ j + 1
                  omega
                · rw [et]
                  cases cs <;> rfl
            · rintro Hx ⟨S, cs, hD, hl, he⟩
              refine ⟨(by show 0 ≤ sizeLine; decide), fun e ne => ⟨D, e, cs.map fun c => V.str ⟨#[c]⟩, rfl, rfl, .inl ⟨same_new ne _ _ hD, upd_same⟩, ?_⟩⟩
              have q1 := q _ (S.trans (same_new (o := HO.lst []) ne))
              have el : x.cps.toList.take x.cps.size = x.cps.toList := List.take_of_length_le (by simp)
              rw [el] at he
              have e1 : nameB (.str x) = x.cps.toList.all azB := by
                show (decide (1 ≤ (x.length : Int)) && decide ((x.length : Int) ≤ 6) && x.cps.toList.all azB) = _
                rw [decide_eq_true h1, decide_eq_true h6]
                rfl
              rw [e1, ← he] at q1
              have e2 : (cs.map fun c => V.str ⟨#[c]⟩).isEmpty = cs.isEmpty := by cases cs <;> rfl
              show Q (.bl (cs.map fun c => V.str ⟨#[c]⟩).isEmpty) _
              rw [e2]
              exact q1
          · refine if_f (decide_eq_false h6) ?_
            have e : nameB (.str x) = false := by
              show (decide (1 ≤ (x.length : Int)) && decide ((x.length : Int) ≤ 6) && x.cps.toList.all azB) = _
              rw [decide_eq_true h1, decide_eq_false h6]
              rfl
            rw [e] at q0
            exact q0
        · rw [if_neg (by rw [decide_eq_false h1]; exact Bool.false_ne_true)]
          refine ⟨_, rfl, if_f rfl ?_⟩
          have e : nameB (.str x) = false := by
            show (decide (1 ≤ (x.length : Int)) && decide ((x.length : Int) ≤ 6) && x.cps.toList.all azB) = _
            rw [decide_eq_false h1]
            rfl
          rw [e] at q0
          exact q0
    | int i => exact q0
    | bool b => exact q0
    | none => exact q0
    | tuple ds => exact q0
    | list ds => exact q0
    | dict kv => exact q0
/-- whether a tuple ascends -/
def spRises : Sp := fun vs H Q _ => ∃ (a : Addr) (xs : List V) (ds : List PyData), vs = [.ref a] ∧ H a = some (.tup xs) ∧ DatAll H xs ds ∧ AscOk ds ∧ ds.length ≤ 1000000 ∧ ∀ H', Same H H' → Q (.bl (ascB ds)) H'
theorem okl_rises {f : Addr} {fd : FuncData} (F : Fun K "_law_rises" "_law_rises" s_rises f fd) (T : Nm mg) : FnOk P w K mg base CX0 1 f fd ["_law_items"] spRises := by
  refine F.ok sc_rises (fun vs H Q E h => ?_) (fun cdv A outer s H vs Q E hr h => ?_)
  · obtain ⟨a, xs, ds, rfl, _⟩ := h
    rfl
  · obtain ⟨a, xs, ds, rfl, ha, hx, ok, hz, q⟩ := h
    have hu0 := hr.units0
    have hu := hr.units
    have hl := hx.len
    refine ⟨_, pss_one (ps_ret (pe_cmpR (op_empty hu0) (pe_lc (own := [("_law_k", 1)]) (g := (gName 1)) (tt := tNot (tTest (tOp rLtDat (tOp (rIxT K) (tVar 0) (tVar 1)) (tOp (rIxT K) (tVar 0) (tOp (rI0 fun i j => .int (i + j)) (tVar 1) (tC (.int 1))))))) rfl sc_rises.nd (pi_range1 rfl T.range (pa_cons (pe_op op_sub (pe_callB call_len_seq (by rfl) T.len PySem.boot_len (pa_cons (pv 0) pa_nil)) pe_int) pa_nil)) (blkOk_by (N := ["_law_items", "_law_k"]) (sc := defScope s_rises) (by decide +kernel))
          (fun _ _ _ _ _ => (pg_name (i := 1) sc_rises.nd rfl (Or.inl rfl))) (fun _ _ _ _ _ => pts_one (pt_not (pt_cmpR (op_ltDat hu) (pe_ix ix_tup (pv 0) (pv 1) (fun _ _ => rfl)) (pe_ix ix_tup (pv 0) (pe_op op_add (pv 1) pe_int) (fun _ _ => rfl)) (nomark _)))) (fun _ _ _ _ _ => (pv 1))) (pe_lst pa_nil) (nomark _))), ?_⟩
    have atr : ∀ (j : Nat) (x : V) (z : Int), z = (j : Int) → xs[j]? = some x → atI xs z = some x := fun j x z e h => by
      rw [e]
      exact atI_nat h
    refine ⟨_, rfl, a, xs, rfl, .inr (SqT.of ha), _, _, rfl, rfl, (xs.length : Int) - 1, rfl, by omega, by omega, fun D nD => lc_it (walk_range (lo := 0) (n := ((xs.length : Int) - 1).toNat)) (fun j Hx => Same H Hx ∧ ∃ js : List Int, Hx D = some (.lst (js.map V.int)) ∧ js.length ≤ j ∧ js.isEmpty = (List.range j).all fun i => PySem.W.dataLt (ds.getD i .none) (ds.getD (i + 1) .none)) ⟨same_new nD, [], upd_same, Nat.le_refl _, rfl⟩ (fun _ _ _ _ => trivial) ?_ ?_⟩
    · rintro j y Hx Hy hj ⟨S, js, hD, hlj, he⟩ ⟨rfl, rfl⟩
      have hj1 : j + 1 < ds.length := by omega
      obtain ⟨d, hdj⟩ : ∃ d, ds[j]? = some d := ⟨ds[j], List.getElem?_eq_getElem (by omega)⟩
      obtain ⟨e, hej⟩ : ∃ e, ds[j + 1]? = some e := ⟨ds[j + 1], List.getElem?_eq_getElem hj1⟩
      obtain ⟨x, hxj, tx⟩ := hx.at hdj
      obtain ⟨y, hyj, ty⟩ := hx.at hej
      have g1 : ds.getD j .none = d := by rw [List.getD_eq_getElem?_getD, hdj]; rfl
      have g2 : ds.getD (j + 1) .none = e := by rw [List.getD_eq_getElem?_getD, hej]; rfl
      obtain ⟨o1, o2, o3⟩ := ok j hj1
      rw [g1, g2] at o1
      rw [g1] at o2 o3
      refine ⟨rfl, _, rfl, _, rfl, a, _, _, x, rfl, rfl, SqT.of (S _ _ ha), atr j x _ (by omega) hxj, _, rfl, _, rfl, _, _, rfl, rfl, a, _, _, y, rfl, rfl, SqT.of (S _ _ ha), atr (j + 1) y _ (by omega) hyj, d, e, tx.same S, ty.same S, o1, o2, o3, _, rfl, ?_⟩
      have et : ((List.range (j + 1)).all fun i => PySem.W.dataLt (ds.getD i .none) (ds.getD (i + 1) .none)) = (((List.range j).all fun i => PySem.W.dataLt (ds.getD i .none) (ds.getD (i + 1) .none)) && PySem.W.dataLt d e) := by
        rw [List.range_succ, List.all_append, ← g1, ← g2]
        simp
      cases hlt : PySem.W.dataLt d e with
      | true =>
        rw [hlt, Bool.and_true, ← he] at et
        exact if_f rfl ⟨S, js, hD, by omega, et.symm⟩
      | false =>
        rw [hlt, Bool.and_false] at et
        refine if_t rfl ⟨_, rfl, _, hD, ?_, grow nD S, js ++ [0 + (j : Int)], ?_, ?_, ?_⟩
        · rw [List.length_map, sizeLine_eq]
          omega
        · rw [upd_same, List.map_append]
          rfl
        · rw [List.length_append]
          show js.length + 1 ≤ j + 1
          omega
        · rw [et]
          cases js <;> rfl
    · rintro Hx ⟨S, js, hD, hlj, he⟩
      refine ⟨(by show 0 ≤ sizeLine; decide), fun e ne => ⟨D, e, js.map V.int, rfl, rfl, .inl ⟨same_new ne _ _ hD, upd_same⟩, ?_⟩⟩
      have q1 := q _ (S.trans (same_new (o := HO.lst []) ne))
      have e1 : ascB ds = js.isEmpty := by
        unfold ascB
        rw [he]
        congr 2
        omega
      rw [e1] at q1
      have e2 : (js.map V.int).isEmpty = js.isEmpty := by cases js <;> rfl
      show Q (.bl (js.map V.int).isEmpty) _
      rw [e2]
      exact q1
end
end K2
set_option maxRecDepth 100000
set_option maxHeartbeats 4000000
namespace K2
open PySem PySem.Spec PyProof.Rows L2
/-! ### choose; the counts of a word, one by one -/
abbrev s_word_size : Stmt := top 84
def spChoose : Sp := fun vs H Q _ => ∃ n k : Nat, vs = [.int n, .int k] ∧ k ≤ n ∧ n ≤ 890 ∧ ∀ (r : Nat) (H' : Hp), Same H H' → r ≤ n ^ k → Q (.int (r : Nat)) H'
theorem pow_bits {a k c : Nat} (ha : a ≤ 2 ^ c) : a ^ k ≤ 2 ^ (c * k) := by
  rw [Nat.pow_mul]
  exact Nat.pow_le_pow_left ha k
section
variable {X : Cx}
def rGtDat : R2 := fun x y H Q => ∃ d e, Dat H x d ∧ Dat H y e ∧ PySem.W.alike d e = true ∧ d ≠ .none ∧ d.depth ≤ 60 ∧ Q (.bl (PySem.W.dataLt e d)) H
theorem op_gtDat (hu : X.A.units + 64 < cLine) : OpR X (compareOp .Gt) rGtDat := by
  intro pins s σ H x y v u Q I rx ry h
  obtain ⟨d, e, hd, he, ha, hn, hz, q⟩ := h
  obtain ⟨as, r1⟩ := hd.reads I.hok rx
  obtain ⟨bs, r2⟩ := he.reads I.hok ry
  exact PySem.W.gt_data r1 r2 ha hn (by omega) ⟨.bl _, H, I, rfl, q⟩
end
/-- a word's counts from the left: the sum so far, the letter before -/
def wl : List PyData → Int → PyData → Bool
  | [], _, _ => true
  | e :: r, t, b => countB e && (PySem.W.dataLt b (letterOf e) && (decide (t + countOf e ≤ 400) && wl r (t + countOf e) (letterOf e)))
/-- strictly ascending from b on -/
def ascF : PyData → List PyData → Bool
  | _, [] => true
  | b, e :: r => PySem.W.dataLt b e && ascF e r
theorem ascB_cons (e : PyData) : ∀ r : List PyData, ascB (e :: r) = ascF e r
  | [] => rfl
  | x :: r => by
    have z := ascB_cons x r
    have e1 : ascB (e :: x :: r) = (PySem.W.dataLt e x && ascB (x :: r)) := by
      unfold ascB
      show (List.range (r.length + 1)).all _ = (_ && (List.range r.length).all _)
      rw [List.range_succ_eq_map, List.all_cons, List.all_map]
      rfl
    rw [e1, z]
    rfl
theorem empty_lt {s : Str} (h : nameB (.str s) = true) : PySem.W.dataLt (.str "") (.str s) = true := by
  have h' : (decide (1 ≤ (s.length : Int)) && decide ((s.length : Int) ≤ 6) && s.cps.toList.all azB) = true := h
  rw [Bool.and_eq_true, Bool.and_eq_true] at h'
  have h1 : 1 ≤ (s.length : Int) := of_decide_eq_true h'.1.1
  obtain ⟨c, l, e⟩ : ∃ c l, s.cps.toList = c :: l := by
    cases hl : s.cps.toList with
    | nil =>
      have : s.length = s.cps.toList.length := by simp [Str.length]
      rw [hl] at this
      simp at this
      omega
    | cons c l => exact ⟨c, l, rfl⟩
  unfold PySem.W.dataLt PySem.W.keyToks
  rw [e]
  rfl
theorem wl_all : ∀ (ds : List PyData) (t : Int) (b : PyData), t ≤ 400 → wl ds t b = (ds.all countB && (ascF b (ds.map letterOf) && decide (t + (ds.map countOf).sum ≤ 400)))
  | [], t, b, ht => by
    show true = (true && (true && decide (t + 0 ≤ 400)))
    rw [decide_eq_true (by omega)]
    rfl
  | e :: r, t, b, ht => by
    rw [wl, List.all_cons]
    show _ = (countB e && r.all countB && (PySem.W.dataLt b (letterOf e) && ascF (letterOf e) (r.map letterOf) && decide (t + (countOf e + (r.map countOf).sum) ≤ 400)))
    cases hc : countB e with
    | false => rfl
    | true =>
      by_cases h4 : t + countOf e ≤ 400
      · rw [decide_eq_true h4, wl_all r _ _ h4, show t + countOf e + (r.map countOf).sum = t + (countOf e + (r.map countOf).sum) by omega]
        cases PySem.W.dataLt b (letterOf e) <;> cases r.all countB <;> cases ascF (letterOf e) (r.map letterOf) <;> rfl
      · rw [decide_eq_false h4]
        cases hr : r.all countB with
        | false =>
          cases PySem.W.dataLt b (letterOf e) <;> rfl
        | true =>
          have pos : 0 ≤ (r.map countOf).sum := by
            have hall := List.all_eq_true.mp hr
            rw [← sum_nat hall]
            omega
          rw [decide_eq_false (show ¬ t + (countOf e + (r.map countOf).sum) ≤ 400 by omega)]
          cases PySem.W.dataLt b (letterOf e) <;> cases ascF (letterOf e) (r.map letterOf) <;> rfl
theorem ascF_empty {ds : List PyData} (h : ds.all countB = true) : ascF (.str "") (ds.map letterOf) = ascB (ds.map letterOf) := by
  cases ds with
  | nil => rfl
  | cons e r =>
    rw [List.map_cons, ascB_cons]
    rw [List.all_cons, Bool.and_eq_true] at h
    obtain ⟨d0, i, rfl, hn, _⟩ := count_cases h.1
    obtain ⟨s, rfl, _⟩ := name_str hn
    show (PySem.W.dataLt (.str "") (.str s) && ascF (.str s) (r.map letterOf)) = _
    rw [empty_lt hn, Bool.true_and]
    rfl
theorem counts_wl (ds : List PyData) : countsB (.tuple ds) = (tupOf 1 6 (.tuple ds) && wl ds 0 (.str "")) := by
  rw [wl_all ds 0 _ (by decide)]
  show (tupOf 1 6 (.tuple ds) && ds.all countB && (decide ((ds.map countOf).sum ≤ 400) && ascB (ds.map letterOf))) = _
  rw [show (0 : Int) + (ds.map countOf).sum = (ds.map countOf).sum by omega]
  cases h : ds.all countB with
  | false =>
    cases tupOf 1 6 (.tuple ds) <;> rfl
  | true =>
    rw [ascF_empty h]
    cases tupOf 1 6 (.tuple ds) <;> cases ascB (ds.map letterOf) <;> cases decide ((ds.map countOf).sum ≤ 400) <;> rfl
/-- None, or a number where f holds -/
def spOpt (f : PyData → Bool) : Sp := fun vs H Q _ => ∃ (v : V) (d : PyData), vs = [v] ∧ Dat H v d ∧ (∀ H', Same H H' → f d = false → Q .non H') ∧ (∀ (H' : Hp) (n : Int), Same H H' → f d = true → Q (.int n) H')
section
variable {P : Program} {w : World} {K : PySem.W.Frag} {mg : Str → Option Value} {base : Heap}
theorem sc_choose : FnScope ["_law_n", "_law_k", "_law_top", "_law_bottom", "_law_turn"] ["_law_n", "_law_k"] (defScope s_choose) := ⟨rfl, rfl, rfl, by decide +kernel, rfl, by decide +kernel, by decide +kernel⟩
theorem sc_word_size : FnScope ["_law_counts_here", "_law_total", "_law_before", "_law_size", "_law_one"] ["_law_counts_here"] (defScope s_word_size) := ⟨rfl, rfl, rfl, by decide +kernel, rfl, by decide +kernel, by decide +kernel⟩
theorem okl_choose {f : Addr} {fd : FuncData} (F : Fun K "_law_choose" "_law_choose" s_choose f fd) (T : Nm mg) : FnOk P w K mg base CX0 1 f fd ["_law_n", "_law_k"] spChoose := by
  refine F.ok sc_choose (fun vs H Q E h => ?_) (fun cdv A outer s H vs Q E hr h => ?_)
  · obtain ⟨n, k, rfl, _⟩ := h
    rfl
  · obtain ⟨n, k, rfl, hkn, hn, q⟩ := h
    refine ⟨_, pss_cons (ps_asg (pe_tup (pa_cons pe_int (pa_cons pe_int pa_nil))) (pg_tup rfl (pgs_cons (pg_name (i := 2) sc_choose.nd rfl (Or.inl rfl)) (pgs_cons (pg_name (i := 3) sc_choose.nd rfl (Or.inl rfl)) pgs_nil))))
      (pss_cons (ps_for PassesOwn.never rfl (pi_range1 rfl T.range (pa_cons (pv 1) pa_nil)) (pg_name (i := 4) sc_choose.nd rfl (Or.inl rfl))
        (pss_one (ps_par (i := 2) (j := 3) rfl sc_choose.nd rfl rfl (by decide) rfl rfl (pa_cons (pe_op op_mulW (pv 2) (pe_op op_sub (pv 0) (pv 4))) (pa_cons (pe_op op_mulW (pv 3) (pe_op op_add (pv 4) pe_int)) pa_nil)) (by rfl))))
      (pss_one (ps_ret (pe_op op_fdivW (pv 2) (pv 3))))), ?_⟩
    refine ⟨(by show 2 ≤ sizeLine; decide), fun u nu => ⟨u, _, rfl, SqT.of upd_same, rfl, _, _, rfl, _, _, rfl, rfl, ?_⟩⟩
    have S0 := same_new (o := HO.tup [V.int 1, V.int 1]) nu
    generalize upd H u (.tup [V.int 1, V.int 1]) = H0 at S0 ⊢
    refine ⟨_, rfl, (k : Int), rfl, by omega, by omega, for_range (n := (k : Int).toNat) (fun i σ Hx => ∃ (t b : Nat) (x4 : Option V), σ = [some (.int n), some (.int k), some (.int (t : Nat)), some (.int (b : Nat)), x4] ∧ Hx = H0 ∧ t ≤ n ^ i ∧ 1 ≤ b ∧ b ≤ 1024 ^ i) ⟨1, 1, none, rfl, rfl, Nat.le_refl _, Nat.le_refl _, Nat.le_refl _⟩ ?_ ?_⟩
    · rintro i σ Hx hi ⟨t, b, x4, rfl, rfl, ht, hb1, hb⟩
      have hik : i < k := by omega
      have h1 : n ^ i ≤ 2 ^ (10 * i) := pow_bits (by omega)
      have h2 : 1024 ^ i ≤ 2 ^ (10 * i) := pow_bits (by decide)
      have h3 : (2 : Nat) ^ (10 * i) < 2 ^ 9000 := Nat.pow_lt_pow_right (by decide) (by omega)
      have w1 : CMulW (t : Int) ((n : Int) - (0 + (i : Int))) := wide_mul (a := 9000) (b := 10) (by rw [Int.natAbs_natCast]; omega) (by omega) (by decide) (by decide) (by decide)
      have w2 : CMulW (b : Int) (0 + (i : Int) + 1) := wide_mul (a := 9000) (b := 10) (by rw [Int.natAbs_natCast]; omega) (by omega) (by decide) (by decide) (by decide)
      refine ⟨_, rfl, _, rfl, _, rfl, _, _, rfl, rfl, _, _, rfl, rfl, w1, _, rfl, _, rfl, _, _, rfl, rfl, _, _, rfl, rfl, w2, _, _, rfl, t * (n - i), b * (i + 1), some (.int (0 + (i : Int))), ?_, rfl, ?_, ?_, ?_⟩
      · have e1 : (t : Int) * ((n : Int) - (0 + (i : Int))) = ((t * (n - i) : Nat) : Int) := by
          rw [Int.natCast_mul]
          congr 1
          omega
        have e2 : (b : Int) * (0 + (i : Int) + 1) = ((b * (i + 1) : Nat) : Int) := by
          rw [Int.natCast_mul]
          congr 1
          omega
        show [some (V.int n), some (V.int k), some (V.int ((t : Int) * ((n : Int) - (0 + (i : Int))))), some (V.int ((b : Int) * (0 + (i : Int) + 1))), some (V.int (0 + (i : Int)))] = _
        rw [e1, e2]
      · rw [Nat.pow_succ]
        exact Nat.mul_le_mul ht (by omega)
      · exact Nat.mul_le_mul hb1 (show 1 ≤ i + 1 by omega)
      · rw [Nat.pow_succ]
        exact Nat.mul_le_mul hb (show i + 1 ≤ 1024 by omega)
    · rintro σ Hx ⟨t, b, x4, rfl, rfl, ht, hb1, hb⟩
      rw [Int.toNat_natCast] at ht hb
      have h2 : 1024 ^ k ≤ 2 ^ (10 * k) := pow_bits (by decide)
      have h3 : (2 : Nat) ^ (10 * k) < 2 ^ 9000 := Nat.pow_lt_pow_right (by decide) (by omega)
      refine ⟨_, rfl, _, rfl, _, _, rfl, rfl, wide_div (b := 9000) (by omega) (by rw [Int.natAbs_natCast]; omega) (by decide) (by decide), ?_⟩
      show Q (.int ((t / b : Nat) : Int)) Hx
      exact q _ _ S0 (Nat.le_trans (Nat.div_le_self _ _) ht)
end
end K2
set_option maxRecDepth 100000
set_option maxHeartbeats 4000000
namespace K2
open PySem PySem.Spec PyProof.Rows L2
/-! ### the law's word_size -/
section
variable {P : Program} {w : World} {K : PySem.W.Frag} {mg : Str → Option Value} {base : Heap}
theorem okl_word {f fI fN fC : Addr} {fd fdI fdN fdC : FuncData} (F : Fun K "_law_word_size" "_law_word_size" s_word_size f fd) (T : Nm mg) (D_is_int : DefOk K mg "_law_is_int" s_is_int ["_law_thing", "_law_low", "_law_high"] fI fdI) (D_is_name : DefOk K mg "_law_is_name" s_is_name ["_law_thing"] fN fdN) (D_choose : DefOk K mg "_law_choose" s_choose ["_law_n", "_law_k"] fC fdC) : FnOk P w K mg base CX0 2 f fd ["_law_counts_here"] (spOpt countsB) := by
  have G_is_int : FnOk P w K mg base CX0 1 fI fdI ["_law_thing", "_law_low", "_law_high"] spBtw := okl_int D_is_int.F T
  have G_is_name : FnOk P w K mg base CX0 1 fN fdN ["_law_thing"] (spP nameB) := okl_name D_is_name.F T
  have G_choose : FnOk P w K mg base CX0 1 fC fdC ["_law_n", "_law_k"] spChoose := okl_choose D_choose.F T
  refine F.ok sc_word_size (fun vs H Q E h => ?_) (fun cdv A outer s H vs Q E hr h => ?_)
  · obtain ⟨v, d, rfl, _⟩ := h
    rfl
  · obtain ⟨v, d, rfl, hd, q0, q1⟩ := h
    have hu := hr.units
    refine ⟨_, pss_cons (ps_if (PW.pt (pw_or (pt_not (pt_val (pe_callB call_isi (by rfl) T.isinstance boot_isinstance (pa_cons (pv 0) (pa_cons (pe_bltn (v := .ty "tuple") rfl T.tuple (by decide +kernel) rfl) pa_nil))))) (pw_or1 (pt_not (pt_chain op_le op_le pe_int (pe_callB call_len_seq (by rfl) T.len PySem.boot_len (pa_cons (pv 0) pa_nil)) pe_int)))))
        (pss_one (ps_ret pe_non))
        pss_nil)
      (pss_cons (ps_asg (pe_tup (pa_cons pe_int (pa_cons pe_str (pa_cons pe_int pa_nil)))) (pg_tup rfl (pgs_cons (pg_name (i := 1) sc_word_size.nd rfl (Or.inl rfl)) (pgs_cons (pg_name (i := 2) sc_word_size.nd rfl (Or.inl rfl)) (pgs_cons (pg_name (i := 3) sc_word_size.nd rfl (Or.inl rfl)) pgs_nil)))))
      (pss_cons (ps_for PassesOwn.never rfl (pi_tup (pv 0)) (pg_name (i := 4) sc_word_size.nd rfl (Or.inl rfl))
        (pss_cons (ps_if (PW.pt (pw_or (pt_not (pt_val (pe_callB call_isi (by rfl) T.isinstance boot_isinstance (pa_cons (pv 4) (pa_cons (pe_bltn (v := .ty "tuple") rfl T.tuple (by decide +kernel) rfl) pa_nil))))) (pw_or (pt_cmpR op_ne (pe_callB call_len_seq (by rfl) T.len PySem.boot_len (pa_cons (pv 4) pa_nil)) pe_int (nomark _)) (pw_or (pt_not (pt_val (pe_call G_is_name hr rfl D_is_name.g D_is_name.F.kp D_is_name.b .nil pass0 (pa_cons (pe_ix ix_tup (pv 4) pe_int (fun _ _ => rfl)) pa_nil)))) (pw_or1 (pt_not (pt_cmpR (op_gtDat hu) (pe_ix ix_tup (pv 4) pe_int (fun _ _ => rfl)) (pv 2) (nomark _))))))))
          (pss_one (ps_ret pe_non))
          pss_nil)
        (pss_cons (ps_if (pt_not (pt_val (pe_call G_is_int hr rfl D_is_int.g D_is_int.F.kp D_is_int.b .nil pass0 (pa_cons (pe_ix ix_tup (pv 4) pe_int (fun _ _ => rfl)) (pa_cons pe_int (pa_cons pe_int pa_nil))))))
          (pss_one (ps_ret pe_non))
          pss_nil)
        (pss_cons (ps_par (i := 1) (j := 2) rfl sc_word_size.nd rfl rfl (by decide) rfl rfl (pa_cons (pe_op op_add (pv 1) (pe_ix ix_tup (pv 4) pe_int (fun _ _ => rfl))) (pa_cons (pe_ix ix_tup (pv 4) pe_int (fun _ _ => rfl)) pa_nil)) (by rfl))
        (pss_cons (ps_if (pt_cmpR op_gt (pv 1) pe_int (nomark _))
          (pss_one (ps_ret pe_non))
          pss_nil)
        (pss_one (ps_set (i := 3) sc_word_size.nd rfl (Or.inl rfl) (pe_op op_mulW (pv 3) (pe_call G_choose hr rfl D_choose.g D_choose.F.kp D_choose.b .nil pass0 (pa_cons (pv 1) (pa_cons (pe_ix ix_tup (pv 4) pe_int (fun _ _ => rfl)) pa_nil)))))))))))
      (pss_one (ps_ret (pv 3))))), ?_⟩
    have qn := q0 H (Same.refl H)
    refine ⟨_, rfl, v, .ty "tuple", _, _, _, rfl, .ty _, hd.ty, kit_tuple _ d, _, rfl, ?_⟩
    cases d with
    | tuple ds =>
      cases hd with
      | @tup a xs _ ha hx =>
        have hl := hx.len
        have eT : tupOf 1 6 (.tuple ds) = (decide ((1 : Int) ≤ (ds.length : Int)) && decide ((ds.length : Int) ≤ 6)) := rfl
        have hw := counts_wl ds
        rw [eT] at hw
        refine if_f rfl ⟨_, rfl, a, xs, rfl, .inr (SqT.of ha), _, _, rfl, rfl, _, rfl, ?_⟩
        by_cases h1 : (1 : Int) ≤ (xs.length : Int)
        · refine if_t (decide_eq_true h1) ⟨_, _, rfl, rfl, _, rfl, ?_⟩
          by_cases h6 : (xs.length : Int) ≤ 6
          · rw [decide_eq_true (by omega), decide_eq_true (by omega), Bool.true_and, Bool.true_and] at hw
            rw [hw] at q0 q1 qn
            refine if_f (by rw [decide_eq_true h6]; rfl) ?_
            refine ⟨(by show 3 ≤ sizeLine; decide), fun u nu => ⟨u, _, rfl, SqT.of upd_same, rfl, _, _, rfl, _, _, rfl, _, _, rfl, rfl, ?_⟩⟩
            have S0 := same_new (o := HO.tup [V.int 0, V.str "", V.int 1]) nu
            generalize upd H u (.tup [V.int 0, V.str "", V.int 1]) = H0 at S0 ⊢
            refine ⟨_, rfl, a, rfl, ⟨_, SqT.of (S0 _ _ ha)⟩, for_tup (K := K) (a := a) (xs := xs) (fun i σ Hx => ∃ (t sz : Nat) (b : Str) (x4 : Option V), σ = [some (.ref a), some (.int (t : Nat)), some (.str b), some (.int (sz : Nat)), x4] ∧ Same H Hx ∧ b.length ≤ 6 ∧ t ≤ 400 ∧ sz ≤ 400 ^ t ∧ wl (ds.drop i) t (.str b) = wl ds 0 (.str ""))
              ⟨0, 1, "", none, rfl, S0, by decide, by decide, Nat.le_refl _, rfl⟩ (fun i σ Hx _ ⟨_, _, _, _, _, S, _⟩ => SqT.of (S _ _ ha)) ?_ ?_⟩
            · rintro i x σ Hx hi ⟨t, sz, b, x4, rfl, S, hb, ht, hsz, hwl⟩
              obtain ⟨e, hei, te⟩ := hx.get hi
              have hil : i < ds.length := (List.getElem?_eq_some_iff.mp hei).1
              have ed : ds.drop i = e :: ds.drop (i + 1) := by
                rw [List.drop_eq_getElem_cons hil]
                congr 1
                exact (List.getElem?_eq_some_iff.mp hei).2
              rw [ed, wl] at hwl
              have bad : ∀ H', Same Hx H' → (countB e && (PySem.W.dataLt (.str b) (letterOf e) && (decide ((t : Int) + countOf e ≤ 400) && wl (ds.drop (i + 1)) (t + countOf e) (letterOf e)))) = false → Q .non H' := fun H' S' z => q0 H' (S.trans S') (by rw [← hwl]; exact z)
              have tx : Dat Hx x e := te.same S
              refine ⟨_, rfl, x, .ty "tuple", _, _, _, rfl, .ty _, tx.ty, kit_tuple _ e, _, rfl, ?_⟩
              cases hc2 : tupOf 2 2 e with
              | false =>
                have eC : countB e = false := by
                  unfold countB
                  rw [hc2]
                  rfl
                have bad' := bad Hx (Same.refl _) (by rw [eC]; rfl)
                cases e with
                | tuple es =>
                  cases tx with
                  | @tup a2 ys _ ha2 hy =>
                    have hyl := hy.len
                    refine if_f rfl ⟨_, rfl, a2, ys, rfl, .inr (SqT.of ha2), rfl, _, rfl, ?_⟩
                    have e1 : decide (V.int ((ys.length : Nat) : Int) = V.int 2) = false := decide_eq_false fun z => by
                      injection z with z
                      have h2 : (decide ((2 : Int) ≤ (es.length : Int)) && decide ((es.length : Int) ≤ 2)) = false := hc2
                      rw [decide_eq_true (by omega), decide_eq_true (by omega)] at h2
                      cases h2
                    rw [e1]
                    exact if_t rfl (if_t rfl bad')
                | int i => exact if_t rfl (if_t rfl bad')
                | bool b => exact if_t rfl (if_t rfl bad')
                | none => exact if_t rfl (if_t rfl bad')
                | str x => exact if_t rfl (if_t rfl bad')
                | list ds => exact if_t rfl (if_t rfl bad')
                | dict kv => exact if_t rfl (if_t rfl bad')
              | true =>
                obtain ⟨es, rfl, l1, l2⟩ := tupOf_len hc2
                match es, (show es.length = 2 by omega), tx with
                | [d0, d1], _, tx =>
                 cases tx with
                 | @tup a2 ys _ ha2 hy =>
                  cases hy with
                  | @cons y0 _ _ _ c0 t0 =>
                   cases t0 with
                   | @cons y1 _ _ _ c1 t1 =>
                    cases t1
                    have eC : countB (.tuple [d0, d1]) = (nameB d0 && btw 1 400 d1) := by
                      unfold countB
                      rw [hc2]
                      rfl
                    rw [eC] at bad hwl
                    refine if_f rfl ⟨_, rfl, a2, _, rfl, .inr (SqT.of ha2), rfl, _, rfl, if_f rfl ?_⟩
                    refine ⟨_, rfl, a2, _, _, y0, rfl, rfl, SqT.of ha2, atI_nat (j := 0) rfl, y0, d0, rfl, c0, fun H1 S1 => ⟨_, rfl, ?_⟩⟩
                    cases hn : nameB d0 with
                    | false =>
                      rw [hn] at bad
                      exact if_t rfl (if_t rfl (bad H1 S1 rfl))
                    | true =>
                      rw [hn] at bad hwl
                      obtain ⟨s, rfl, hs6⟩ := name_str hn
                      refine if_f rfl ⟨_, rfl, a2, _, _, y0, rfl, rfl, SqT.of (S1 _ _ ha2), atI_nat (j := 0) rfl, _, rfl, .str s, .str b, c0.same S1, .str _ (by omega), rfl, nofun, by simp [PyData.depth], _, rfl, ?_⟩
                      cases hlt : PySem.W.dataLt (.str b) (.str s) with
                      | false =>
                        refine if_t rfl (bad H1 S1 ?_)
                        show (true && btw 1 400 d1 && (PySem.W.dataLt (.str b) (.str s) && _)) = false
                        rw [hlt]
                        cases btw 1 400 d1 <;> rfl
                      | true =>
                        refine if_f rfl ⟨_, rfl, a2, _, _, y1, rfl, rfl, SqT.of (S1 _ _ ha2), atI_nat (j := 1) rfl, y1, d1, 1, 400, rfl, c1.same S1, fun H2 S2 => ⟨_, rfl, ?_⟩⟩
                        have S12 := S1.trans S2
                        cases hbt : btw 1 400 d1 with
                        | false =>
                          rw [hbt] at bad
                          exact if_t rfl (bad H2 S12 rfl)
                        | true =>
                          rw [hbt] at bad hwl
                          obtain ⟨n, rfl, n1, n4⟩ := btw_int hbt
                          obtain rfl := dat_int c1
                          have eL : letterOf (.tuple [.str s, .int n]) = .str s := rfl
                          have eN : countOf (.tuple [.str s, .int n]) = n := rfl
                          rw [eL, eN] at bad hwl
                          rw [hlt] at bad hwl
                          obtain ⟨m, rfl⟩ : ∃ m : Nat, n = m := ⟨n.toNat, by omega⟩
                          cases c0 with
                          | str _ _ =>
                            refine if_f rfl ⟨_, rfl, _, rfl, a2, _, _, _, rfl, rfl, SqT.of (S12 _ _ ha2), atI_nat (j := 1) rfl, _, _, rfl, rfl, _, rfl, a2, _, _, _, rfl, rfl, SqT.of (S12 _ _ ha2), atI_nat (j := 0) rfl, _, _, rfl, ?_⟩
                            refine ⟨_, rfl, _, _, rfl, rfl, _, rfl, ?_⟩
                            by_cases h4 : (t : Int) + (m : Int) > 400
                            · refine if_t (decide_eq_true h4) (bad H2 S12 ?_)
                              rw [decide_eq_false (by omega)]
                              rfl
                            · rw [decide_eq_true (by omega)] at hwl
                              refine if_f (decide_eq_false h4) ⟨_, rfl, _, rfl, _, rfl, a2, _, _, _, rfl, rfl, SqT.of (S12 _ _ ha2), atI_nat (j := 1) rfl, t + m, m, (by show [V.int ((t : Int) + (m : Int)), V.int (m : Int)] = [V.int ((t + m : Nat) : Int), V.int (m : Int)]; rw [Int.natCast_add]), by omega, by omega, fun r H3 S3 hr3 => ?_⟩
                              have b1 : sz ≤ 2 ^ (9 * t) := Nat.le_trans hsz (pow_bits (by decide))
                              have b2 : r ≤ 400 ^ m := Nat.le_trans hr3 (Nat.pow_le_pow_left (by omega) _)
                              have b3 : r ≤ 2 ^ (9 * m) := Nat.le_trans b2 (pow_bits (by decide))
                              have b4 : (2 : Nat) ^ (9 * t) < 2 ^ 4000 := Nat.pow_lt_pow_right (by decide) (by omega)
                              have b5 : (2 : Nat) ^ (9 * m) < 2 ^ 4000 := Nat.pow_lt_pow_right (by decide) (by omega)
                              refine ⟨_, _, rfl, rfl, wide_mul (a := 4000) (b := 4000) (by rw [Int.natAbs_natCast]; omega) (by rw [Int.natAbs_natCast]; omega) (by decide) (by decide) (by decide), ?_⟩
                              refine ⟨t + m, sz * r, s, some (.ref a2), ?_, S.trans (S12.trans S3), hs6, by omega, ?_, ?_⟩
                              · show [some (V.ref a), some (V.int ((t : Int) + (m : Int))), some (V.str s), some (V.int ((sz : Int) * (r : Int))), some (V.ref a2)] = _
                                rw [Int.natCast_add, Int.natCast_mul]
                              · rw [Nat.pow_add]
                                exact Nat.mul_le_mul hsz b2
                              · rw [← hwl, Int.natCast_add]
                                rfl
            · rintro σ Hx ⟨t, sz, b, x4, rfl, S, hb, ht, hsz, hwl⟩
              rw [hl, List.drop_length, wl] at hwl
              exact ⟨_, rfl, q1 Hx sz S hwl.symm⟩
          · refine if_t (by rw [decide_eq_false h6]; rfl) (qn ?_)
            rw [hw, decide_eq_false (show ¬ (ds.length : Int) ≤ 6 by omega), Bool.and_false]
            rfl
        · refine if_f (decide_eq_false h1) ⟨_, rfl, if_t rfl (qn ?_)⟩
          rw [hw, decide_eq_false (show ¬ (1 : Int) ≤ (ds.length : Int) by omega)]
          rfl
    | int i => exact if_t rfl (if_t rfl (qn rfl))
    | bool b => exact if_t rfl (if_t rfl (qn rfl))
    | none => exact if_t rfl (if_t rfl (qn rfl))
    | str x => exact if_t rfl (if_t rfl (qn rfl))
    | list ds => exact if_t rfl (if_t rfl (qn rfl))
    | dict kv => exact if_t rfl (if_t rfl (qn rfl))
end
end K2
set_option maxRecDepth 100000
set_option maxHeartbeats 4000000
namespace K2
open PySem PySem.Spec PyProof.Rows L2
/-! ### [x for x in a tuple if not p(x)]; the law's walk_size -/
theorem lc_bad {K : PySem.W.Frag} {H : Hp} {a : Addr} {xs : List V} {ds : List PyData} {g : TG} {tt : TT} {te : TE} {vs : List Nat} {σ : L2.St} {D : Addr} {Qd : Hp → Prop} (p : PyData → Bool) (ha : H a = some (.tup xs)) (hx : DatAll H xs ds) (hz : xs.length ≤ 1000000) (nD : H D = none)
    (hs : ∀ (i : Nat) (x : V) (d : PyData) (Hx : Hp) (N : VK) (M : Hp → Prop), xs[i]? = some x → ds[i]? = some d → Dat Hx x d → Same H Hx → (∀ H', Same Hx H' → p d = false → N x H') → (∀ H', Same Hx H' → p d = true → M H') → g x (wipe σ vs) Hx fun σ2 H2 => wipe σ2 vs = wipe σ vs ∧ tt σ2 H2 fun b H3 => if b = true then te σ2 H3 N else M H3)
    (hd : ∀ (Hx : Hp) (acc : List V), Same H Hx → Hx D = some (.lst acc) → acc.isEmpty = ds.all p → Qd Hx) :
    ∃ W : Nat → Nat → Hp → Prop, (∃ m, W 0 m (upd H D (.lst []))) ∧ ∀ i m H, W i m H →
      ((Itt K a).stop i H ∧ Qd H) ∨ ((Itt K a).go i H ∧ ∃ Nx : Hp → Prop, (∀ H', Nx H' → ∃ m', m' < m ∧ W (i + 1) m' H') ∧ ∀ x H', (Itt K a).yld i H x H' → g x (wipe σ vs) H' fun σ2 H2 => wipe σ2 vs = wipe σ vs ∧ tt σ2 H2 fun b H3 =>
        if b = true then te σ2 H3 fun y H4 => ∃ acc, H4 D = some (.lst acc) ∧ acc.length < sizeLine ∧ Nx (upd H4 D (.lst (acc ++ [y]))) else Nx H3) := by
  refine lc_tup (K := K) (a := a) (xs := xs) (fun j Hx => Same H Hx ∧ ∃ acc : List V, Hx D = some (.lst acc) ∧ acc.length ≤ j ∧ acc.isEmpty = (ds.take j).all p) ⟨same_new nD, [], upd_same, Nat.le_refl _, rfl⟩ (fun j Hx _ ⟨S, _⟩ => SqT.of (S _ _ ha)) ?_ ?_
  · rintro i x Hx hi ⟨S, acc, hD, hl, he⟩
    obtain ⟨d, hdi, td⟩ := hx.get hi
    have et : (ds.take (i + 1)).all p = ((ds.take i).all p && p d) := by
      rw [List.take_add_one, hdi, List.all_append]
      simp
    have hil : i < xs.length := (List.getElem?_eq_some_iff.mp hi).1
    refine hs i x d Hx _ _ hi hdi (td.same S) S (fun H' S' z => ⟨acc, S' _ _ hD, ?_, grow nD (S.trans S'), acc ++ [x], upd_same, ?_, ?_⟩) fun H' S' z => ⟨S.trans S', acc, S' _ _ hD, by omega, ?_⟩
    · rw [sizeLine_eq]
      omega
    · rw [List.length_append]
      show acc.length + 1 ≤ i + 1
      omega
    · rw [et, z, Bool.and_false]
      cases acc <;> rfl
    · rw [et, z, Bool.and_true]
      exact he
  · rintro Hx ⟨S, acc, hD, hl, he⟩
    refine hd Hx acc S hD ?_
    rw [he, hx.len, List.take_length]
/-! ### how large a value is -/
mutual
def nodes : PyData → Nat
  | .tuple ds => 1 + nodesAll ds
  | .list ds => 1 + nodesAll ds
  | _ => 1
def nodesAll : List PyData → Nat
  | [] => 0
  | d :: ds => nodes d + nodesAll ds
end
theorem nodes_pos (d : PyData) : 1 ≤ nodes d := by
  cases d <;> simp [nodes]
theorem len_nodes : ∀ ds : List PyData, ds.length ≤ nodesAll ds
  | [] => Nat.zero_le _
  | d :: ds => by
    have z := len_nodes ds
    have y := nodes_pos d
    rw [nodesAll, List.length_cons]
    omega
theorem mem_nodes {d : PyData} : ∀ {ds : List PyData}, d ∈ ds → nodes d ≤ nodesAll ds
  | a :: l, h => by
    rw [nodesAll]
    rcases List.mem_cons.mp h with e | e
    · rw [e]
      omega
    · have z := mem_nodes e
      omega
theorem nodes_tup (ds : List PyData) : nodes (.tuple ds) = 1 + nodesAll ds := by rw [nodes]
/-- the tuple of a walk: its length too -/
def walkB : PyData → Bool
  | .tuple ds => decide (ds.length = 6) && pWalk ds
  | _ => false
/-- None, or a number where f holds; the tuple is handed over -/
def spOptT (f : PyData → Bool) : Sp := fun vs H Q _ => ∃ (a : Addr) (xs : List V) (ds : List PyData), vs = [.ref a] ∧ H a = some (.tup xs) ∧ DatAll H xs ds ∧ 1 ≤ ds.length ∧ nodes (.tuple ds) ≤ 2400 ∧ (∀ H', Same H H' → f (.tuple ds) = false → Q .non H') ∧ (∀ (H' : Hp) (n : Int), Same H H' → f (.tuple ds) = true → Q (.int n) H')
theorem vints_at {ks : List Nat} {j : Nat} (h : j < ks.length) : ∃ k, ks[j]? = some k ∧ atI (vints ks) ((j : Nat) : Int) = some (.int (k : Nat)) := by
  refine ⟨ks[j], List.getElem?_eq_getElem h, atI_nat ?_⟩
  unfold vints
  rw [List.getElem?_map, List.getElem?_eq_getElem h]
  rfl
theorem vints_app (ks ls : List Nat) : vints ks ++ vints ls = vints (ks ++ ls) := by
  unfold vints
  rw [List.map_append]
theorem vints_len (ks : List Nat) : (vints ks).length = ks.length := by
  unfold vints
  rw [List.length_map]
abbrev s_walk_size : Stmt := top 86
section
variable {P : Program} {w : World} {K : PySem.W.Frag} {mg : Str → Option Value} {base : Heap}
theorem sc_walk_size : FnScope ["_law_thing", "_law_n", "_law_start", "_law_end", "_law_low", "_law_high", "_law_many", "_law_turn", "_law_wide", "_law_height", "_law_h", "_law_k"] ["_law_thing"] (defScope s_walk_size) := ⟨rfl, rfl, rfl, by decide +kernel, rfl, by decide +kernel, by decide +kernel⟩
theorem okl_walk {f fI : Addr} {fd fdI : FuncData} (F : Fun K "_law_walk_size" "_law_walk_size" s_walk_size f fd) (T : Nm mg) (D_is_int : DefOk K mg "_law_is_int" s_is_int ["_law_thing", "_law_low", "_law_high"] fI fdI) : FnOk P w K mg base CX0 2 f fd ["_law_thing"] (spOptT walkB) := by
  have G_is_int : FnOk P w K mg base CX0 1 fI fdI ["_law_thing", "_law_low", "_law_high"] spBtw := okl_int D_is_int.F T
  refine F.ok sc_walk_size (fun vs H Q E h => ?_) (fun cdv A outer s H vs Q E hr h => ?_)
  · obtain ⟨a, xs, ds, rfl, _⟩ := h
    rfl
  · obtain ⟨a, xs, ds, rfl, ha, hx, l1, lm, q0, q1⟩ := h
    have hu0 := hr.units0
    refine ⟨_, pss_cons (ps_if (PW.pt (pw_or (pt_cmpR op_ne (pe_callB call_len_seq (by rfl) T.len PySem.boot_len (pa_cons (pv 0) pa_nil)) pe_int (nomark _)) (pw_or1 (pt_not (pt_val (pe_call G_is_int hr rfl D_is_int.g D_is_int.F.kp D_is_int.b .nil pass0 (pa_cons (pe_ix ix_tup (pv 0) pe_int (fun _ _ => rfl)) (pa_cons pe_int (pa_cons pe_int pa_nil)))))))))
        (pss_one (ps_ret pe_non))
        pss_nil)
      (pss_cons (ps_if (pt_cmpR (op_nempty hu0) (pe_lc (own := [("_law_height", 9)]) (g := (gName 9)) rfl sc_walk_size.nd (pi_tup (pe_slice sl_tupA (pv 0) (po_some pe_int) po_none)) (blkOk_by (N := ["_law_thing", "_law_n", "_law_start", "_law_end", "_law_low", "_law_high", "_law_many", "_law_turn", "_law_wide", "_law_height", "_law_h", "_law_k"]) (sc := defScope s_walk_size) (by decide +kernel))
          (fun _ _ _ _ _ => (pg_name (i := 9) sc_walk_size.nd rfl (Or.inl rfl))) (fun _ _ _ _ _ => pts_one (pt_not (pt_val (pe_call G_is_int hr rfl D_is_int.g D_is_int.F.kp D_is_int.b .nil pass0 (pa_cons (pv 9) (pa_cons (pe_un un_neg pe_int) (pa_cons pe_int pa_nil))))))) (fun _ _ _ _ _ => (pv 9))) (pe_lst pa_nil) (nomark _))
        (pss_one (ps_ret pe_non))
        pss_nil)
      (pss_cons (ps_asg (pe_slice sl_tupA (pv 0) (po_some pe_int) po_none) (pg_tup rfl (pgs_cons (pg_name (i := 1) sc_walk_size.nd rfl (Or.inl rfl)) (pgs_cons (pg_name (i := 2) sc_walk_size.nd rfl (Or.inr rfl)) (pgs_cons (pg_name (i := 3) sc_walk_size.nd rfl (Or.inl rfl)) (pgs_cons (pg_name (i := 4) sc_walk_size.nd rfl (Or.inl rfl)) (pgs_cons (pg_name (i := 5) sc_walk_size.nd rfl (Or.inl rfl)) pgs_nil)))))))
      (pss_cons (ps_if (PW.pt (pw_or (pt_not (pt_chain op_le op_le (pv 4) (pv 2) (pv 5))) (pw_or1 (pt_not (pt_chain op_le op_le (pv 4) (pv 3) (pv 5))))))
        (pss_one (ps_ret pe_non))
        pss_nil)
      (pss_cons (ps_setLc (i := 6) (own := [("_law_h", 10)]) (g := (gName 10)) (tt := tYes) rfl sc_walk_size.nd rfl rfl (sw_true rfl rfl rfl (by decide +kernel)) (pi_range2 rfl T.range (pa_cons (pv 4) (pa_cons (pe_op op_add (pv 5) pe_int) pa_nil))) (blkOk_by (N := ["_law_thing", "_law_n", "_law_start", "_law_end", "_law_low", "_law_high", "_law_many", "_law_turn", "_law_wide", "_law_height", "_law_h", "_law_k"]) (sc := defScope s_walk_size) (by decide +kernel))
          (fun _ _ _ _ _ => (pg_name (i := 10) sc_walk_size.nd rfl (Or.inl rfl))) (fun _ _ _ _ _ => pts_nil) (fun _ _ _ _ _ => (pe_callTy call_int1 (by rfl) T.int (by decide +kernel) (pa_cons (pe_cmpR op_eq (pv 10) (pv 2) (nomark _)) pa_nil))))
      (pss_cons (ps_for PassesOwn.never rfl (pi_range1 rfl T.range (pa_cons (pv 1) pa_nil)) (pg_name (i := 7) sc_walk_size.nd rfl (Or.inl rfl))
        (pss_cons (ps_set (i := 8) sc_walk_size.nd rfl (Or.inr rfl) (pe_op op_cat (pe_op op_cat (pe_lst (pa_cons pe_int pa_nil)) (pv 6)) (pe_lst (pa_cons pe_int pa_nil))))
        (pss_one (ps_setLc (i := 6) (own := [("_law_k", 11)]) (g := (gName 11)) (tt := tYes) (te := tOp (rI0 fun i j => .int (i + j)) (tOp (rIxL K) (tVar 8) (tVar 11)) (tOp (rIxL K) (tVar 8) (tOp (rI0 fun i j => .int (i + j)) (tVar 11) (tC (.int 2))))) rfl sc_walk_size.nd rfl rfl (sw_true rfl rfl rfl (by decide +kernel)) (pi_range1 rfl T.range (pa_cons (pe_callB call_len_seq (by rfl) T.len PySem.boot_len (pa_cons (pv 6) pa_nil)) pa_nil)) (blkOk_by (N := ["_law_thing", "_law_n", "_law_start", "_law_end", "_law_low", "_law_high", "_law_many", "_law_turn", "_law_wide", "_law_height", "_law_h", "_law_k"]) (sc := defScope s_walk_size) (by decide +kernel))
          (fun _ _ _ _ _ => (pg_name (i := 11) sc_walk_size.nd rfl (Or.inl rfl))) (fun _ _ _ _ _ => pts_nil) (fun _ _ _ _ _ => (pe_op op_add (pe_ix ix_list (pv 8) (pv 11) (fun _ _ => rfl)) (pe_ix ix_list (pv 8) (pe_op op_add (pv 11) pe_int) (fun _ _ => rfl))))))))
      (pss_one (ps_ret (pe_ix ix_list (pv 6) (pe_op op_sub (pv 3) (pv 4)) (fun _ _ => rfl))))))))), ?_⟩
    have hl := hx.len
    refine ⟨_, rfl, a, xs, rfl, .inr (SqT.of ha), rfl, _, rfl, ?_⟩
    rw [dec_int]
    by_cases h6 : ds.length = 6
    · rw [decide_eq_true (show ((xs.length : Nat) : Int) = 6 by omega)]
      match ds, h6, hx with
      | [d0, d1, d2, d3, d4, d5], _, .cons (v := x0) c0 (.cons (v := x1) c1 (.cons (v := x2) c2 (.cons (v := x3) c3 (.cons (v := x4) c4 (.cons (v := x5) c5 .nil))))) =>
        have eW : walkB (.tuple [d0, d1, d2, d3, d4, d5]) = ([d2, d3, d4, d5].all (btw (-60) 60) && (btw 0 60 d1 && (decide (intOf d4 ≤ intOf d2) && decide (intOf d2 ≤ intOf d5) && (decide (intOf d4 ≤ intOf d3) && decide (intOf d3 ≤ intOf d5))))) := rfl
        rw [eW] at q0 q1
        refine if_f rfl ⟨_, rfl, a, _, _, x1, rfl, rfl, SqT.of ha, atI_nat (j := 1) rfl, x1, d1, 0, 60, rfl, c1, fun H1 S1 => ⟨_, rfl, ?_⟩⟩
        cases hb1 : btw 0 60 d1 with
        | false =>
          rw [hb1] at q0
          refine if_t rfl (q0 H1 S1 ?_)
          cases [d2, d3, d4, d5].all (btw (-60) 60) <;> rfl
        | true =>
          rw [hb1] at q0 q1
          refine if_f rfl ⟨_, rfl, 2, rfl, ?_⟩
          dsimp only [tNoPart]
          refine slK_of 2 (S1 _ _ ha) fun b2 Hc Sc hc => ?_
          have S2 := S1.trans Sc
          have hx2 : DatAll Hc [x2, x3, x4, x5] [d2, d3, d4, d5] := .cons (c2.same S2) (.cons (c3.same S2) (.cons (c4.same S2) (.cons (c5.same S2) .nil)))
          refine ⟨b2, rfl, ⟨_, SqT.of hc⟩, fun D nD => lc_bad (K := K) (a := b2) (xs := [x2, x3, x4, x5]) (ds := [d2, d3, d4, d5]) (btw (-60) 60) hc hx2 (show 4 ≤ 1000000 by decide) nD (fun i x d Hx N M hi hdi td S hN hM => ⟨rfl, _, rfl, _, rfl, x, d, -60, 60, rfl, td, fun H' S' => ⟨_, rfl, ?_⟩⟩) fun H3 acc S3 hD hacc => ?_⟩
          · cases hz : btw (-60) 60 d with
            | false => exact if_t rfl ⟨_, rfl, hN H' S' hz⟩
            | true => exact if_f rfl (hM H' S' hz)
          have S4 := S2.trans S3
          refine ⟨(by show 0 ≤ sizeLine; decide), fun e ne => ⟨D, e, acc, rfl, rfl, .inl ⟨same_new ne _ _ hD, upd_same⟩, _, rfl, ?_⟩⟩
          have S5 := S4.trans (same_new (o := HO.lst []) ne)
          generalize upd H3 e (.lst []) = H5 at S5 ⊢
          show (if (!acc.isEmpty) = true then _ else _)
          rw [hacc]
          cases hall : [d2, d3, d4, d5].all (btw (-60) 60) with
          | false =>
            rw [hall] at q0
            exact if_t rfl (q0 H5 S5 rfl)
          | true =>
            rw [hall] at q0 q1
            obtain ⟨n, rfl, n0, n60⟩ := btw_int hb1
            obtain ⟨i2, r2, _⟩ := btw_int (List.all_eq_true.mp hall d2 (by simp))
            obtain ⟨i3, r3, _⟩ := btw_int (List.all_eq_true.mp hall d3 (by simp))
            obtain ⟨i4, r4, g4, _⟩ := btw_int (List.all_eq_true.mp hall d4 (by simp))
            obtain ⟨i5, r5, _, g5⟩ := btw_int (List.all_eq_true.mp hall d5 (by simp))
            subst r2 r3 r4 r5
            obtain rfl := dat_int c1
            obtain rfl := dat_int c2
            obtain rfl := dat_int c3
            obtain rfl := dat_int c4
            obtain rfl := dat_int c5
            have q2 : ∀ H', Same H H' → (decide (i4 ≤ i2) && decide (i2 ≤ i5) && (decide (i4 ≤ i3) && decide (i3 ≤ i5))) = false → Q .non H' := q0
            refine if_f rfl ⟨_, rfl, 1, rfl, ?_⟩
            dsimp only [tNoPart]
            refine slK_of 1 (S5 _ _ ha) fun b6 H6 Sb hb6 => ?_
            have S6 := S5.trans Sb
            refine ⟨b6, _, rfl, SqT.of hb6, rfl, _, _, rfl, _, _, rfl, _, _, rfl, _, _, rfl, _, _, rfl, rfl, ?_⟩
            refine ⟨_, rfl, _, rfl, _, _, rfl, rfl, _, rfl, ?_⟩
            by_cases k1 : i4 ≤ i2
            · rw [decide_eq_true k1] at q2 ⊢
              refine if_t rfl ⟨_, rfl, _, _, rfl, rfl, _, rfl, ?_⟩
              by_cases k2 : i2 ≤ i5
              · rw [decide_eq_true k2] at q2 ⊢
                refine if_f rfl ⟨_, rfl, _, rfl, _, _, rfl, rfl, _, rfl, ?_⟩
                by_cases k3 : i4 ≤ i3
                · rw [decide_eq_true k3] at q2 ⊢
                  refine if_t rfl ⟨_, rfl, _, _, rfl, rfl, _, rfl, ?_⟩
                  by_cases k4 : i3 ≤ i5
                  · rw [decide_eq_true k4] at q2 ⊢
                    have qq : ∀ (H' : Hp) (n : Nat), Same H H' → Q (.int (n : Nat)) H' := fun H' n S => q1 H' n S (by
                      show (true && (true && (decide (i4 ≤ i2) && decide (i2 ≤ i5) && (decide (i4 ≤ i3) && decide (i3 ≤ i5))))) = true
                      rw [decide_eq_true k1, decide_eq_true k2, decide_eq_true k3, decide_eq_true k4]
                      rfl)
                    refine if_f rfl ?_
                    refine ⟨_, rfl, _, rfl, _, _, rfl, rfl, i4, i5 + 1, rfl, ⟨by omega, by omega, by omega, by omega⟩, fun M nM => lc_it (walk_range (lo := i4) (n := (i5 + 1 - i4).toNat)) (fun j Hx => Same H6 Hx ∧ ∃ ks : List Nat, Hx M = some (.lst (vints ks)) ∧ ks.length = j ∧ ∀ k ∈ ks, k ≤ 1) ⟨same_new nM, [], upd_same, rfl, by simp⟩ (fun _ _ _ _ => trivial) ?_ ?_⟩
                    · rintro j y Hx Hy hj ⟨S, ks, hD, hl, hk⟩ ⟨rfl, rfl⟩
                      refine ⟨rfl, _, rfl, _, rfl, rfl, .inr ⟨_, rfl, _, hD, ?_, grow nM S, ks ++ [if decide (V.int (i4 + (j : Int)) = V.int i2) = true then 1 else 0], ?_, ?_, ?_⟩⟩
                      · rw [vints_len, sizeLine_eq]
                        omega
                      · rw [upd_same, ← vints_app]
                        congr 3
                        show [V.int (if decide (V.int (i4 + (j : Int)) = V.int i2) = true then 1 else 0)] = [V.int ((if decide (V.int (i4 + (j : Int)) = V.int i2) = true then 1 else 0 : Nat) : Int)]
                        split <;> rfl
                      · rw [List.length_append, hl]
                        rfl
                      · intro k hk2
                        rcases List.mem_append.mp hk2 with z | z
                        · exact hk k z
                        · rw [List.mem_singleton.mp z]
                          split <;> omega
                    · rintro H7 ⟨S7, ks, hM, hkl, hk1⟩
                      refine ⟨_, rfl, n, rfl, by omega, by omega, for_range (n := n.toNat) (fun i σ Hx => ∃ (m : Addr) (ks : List Nat) (x7 x8 : Option V), σ = [some (.ref a), some (.int n), some (.int i2), some (.int i3), some (.int i4), some (.int i5), some (.ref m), x7, x8, none, none, none] ∧ Same H Hx ∧ Hx m = some (.lst (vints ks)) ∧ ks.length = (i5 + 1 - i4).toNat)
                        ⟨M, ks, none, none, rfl, S6.trans S7, hM, hkl⟩ ?_ ?_⟩
                      · rintro i σ Hx hi ⟨m, ls, x7, x8, rfl, S, hm, hls⟩
                        refine ⟨(by show 1 ≤ sizeLine; decide), fun u nu => ⟨_, rfl, u, m, _, _, rfl, rfl, upd_same, same_new nu _ _ hm, ?_, fun v nv => ?_⟩⟩
                        · rw [vints_len, sizeLine_eq]
                          show 1 + ls.length ≤ _
                          omega
                        have Su := same_new (o := HO.lst [V.int 0]) nu
                        generalize upd Hx u (.lst [V.int 0]) = H8 at nv Su ⊢
                        have Sv := same_new (o := HO.lst ([V.int 0] ++ vints ls)) nv
                        have hv : upd H8 v (.lst ([V.int 0] ++ vints ls)) v = some (.lst ([V.int 0] ++ vints ls)) := upd_same
                        generalize upd H8 v (.lst ([V.int 0] ++ vints ls)) = H9 at Sv hv ⊢
                        refine ⟨(by show 1 ≤ sizeLine; decide), fun z nz => ⟨v, z, _, _, rfl, rfl, same_new nz _ _ hv, upd_same, ?_, fun wd nw => ?_⟩⟩
                        · rw [List.length_append, vints_len, sizeLine_eq]
                          show 1 + ls.length + 1 ≤ _
                          omega
                        have Sz := same_new (o := HO.lst [V.int 0]) nz
                        generalize upd H9 z (.lst [V.int 0]) = H10 at nw Sz ⊢
                        have Sw := same_new (o := HO.lst ([V.int 0] ++ vints ls ++ [V.int 0])) nw
                        have eV : [V.int 0] ++ vints ls ++ [V.int 0] = vints ([0] ++ ls ++ [0]) := by
                          rw [← vints_app, ← vints_app]
                          rfl
                        rw [eV] at Sw ⊢
                        have hw : upd H10 wd (.lst (vints ([0] ++ ls ++ [0]))) wd = some (.lst (vints ([0] ++ ls ++ [0]))) := upd_same
                        generalize upd H10 wd (.lst (vints ([0] ++ ls ++ [0]))) = H11 at Sw hw ⊢
                        have Sall := ((Su.trans Sv).trans Sz).trans Sw
                        have hm11 := Sall _ _ hm
                        refine ⟨_, rfl, m, _, rfl, .inl (SqL.of hm11), ((vints ls).length : Int), rfl, by rw [vints_len]; omega, by rw [vints_len]; omega, fun M2 nM2 => lc_it (walk_range (lo := 0) (n := (((vints ls).length : Nat) : Int).toNat)) (fun j Hy => Same H11 Hy ∧ ∃ ks : List Nat, Hy M2 = some (.lst (vints ks)) ∧ ks.length = j) ⟨same_new nM2, [], upd_same, rfl⟩ (fun _ _ _ _ => trivial) ?_ ?_⟩
                        · rintro j y Hy Hz hj ⟨Sy, ks2, hD2, hl2⟩ ⟨rfl, rfl⟩
                          have hlen : ([0] ++ ls ++ [0]).length = ls.length + 2 := by simp
                          rw [vints_len] at hj
                          obtain ⟨p, _, hp⟩ := vints_at (ks := [0] ++ ls ++ [0]) (j := j) (by omega)
                          obtain ⟨r, _, hr2⟩ := vints_at (ks := [0] ++ ls ++ [0]) (j := j + 2) (by omega)
                          refine ⟨rfl, _, rfl, _, rfl, wd, _, _, V.int (p : Nat), rfl, rfl, SqL.of (Sy _ _ hw), by rw [Int.zero_add]; exact hp, _, rfl, _, rfl, _, _, rfl, rfl, wd, _, _, V.int (r : Nat), rfl, rfl, SqL.of (Sy _ _ hw), ?_, _, _, rfl, rfl, _, hD2, ?_, grow nM2 Sy, ks2 ++ [p + r], ?_, ?_⟩
                          · rw [Int.zero_add]
                            exact hr2
                          · rw [vints_len, sizeLine_eq]
                            omega
                          · rw [upd_same, ← vints_app]
                            rfl
                          · rw [List.length_append, hl2]
                            rfl
                        · rintro H12 ⟨S12, ks2, hD2, hl2⟩
                          exact ⟨M2, ks2, _, _, rfl, (S.trans Sall).trans S12, hD2, by rw [hl2, vints_len]; omega⟩
                      · rintro σ Hx ⟨m, ls, x7, x8, rfl, S, hm, hls⟩
                        obtain ⟨p, _, hp⟩ := vints_at (ks := ls) (j := (i3 - i4).toNat) (by omega)
                        refine ⟨_, rfl, _, rfl, _, rfl, _, _, rfl, rfl, m, _, _, _, rfl, rfl, SqL.of hm, ?_, qq Hx p S⟩
                        rw [show i3 - i4 = (((i3 - i4).toNat : Nat) : Int) by omega]
                        exact hp
                  · rw [decide_eq_false k4] at q2 ⊢
                    exact if_t rfl (q2 H6 S6 rfl)
                · rw [decide_eq_false k3] at q2 ⊢
                  exact if_f rfl ⟨_, rfl, if_t rfl (q2 H6 S6 rfl)⟩
              · rw [decide_eq_false k2] at q2 ⊢
                exact if_t rfl (if_t rfl (q2 H6 S6 rfl))
            · rw [decide_eq_false k1] at q2 ⊢
              exact if_f rfl ⟨_, rfl, if_t rfl (if_t rfl (q2 H6 S6 rfl))⟩
    · rw [decide_eq_false (show ¬ ((xs.length : Nat) : Int) = 6 by omega)]
      refine if_t rfl (if_t rfl (q0 H (Same.refl H) ?_))
      show (decide (ds.length = 6) && pWalk ds) = false
      rw [decide_eq_false h6]
      rfl
end
end K2
set_option maxRecDepth 100000
set_option maxHeartbeats 4000000
namespace K2
open PySem PySem.Spec PyProof.Rows L2
/-! ### the law's permutation_size -/
abbrev s_permutation_size : Stmt := top 88
def permB : PyData → Bool
  | .tuple ds => decide (ds.length = 3) && pPerm ds
  | _ => false
theorem lt_int (i j : Int) : PySem.W.dataLt (.int i) (.int j) = decide (i < j) := by
  unfold PySem.W.dataLt PySem.W.keyToks
  show PyProof.Rows.lexLt itemOrd [Sum.inl i] [Sum.inl j] = _
  by_cases h : i < j
  · rw [decide_eq_true h]
    simp [PyProof.Rows.lexLt, itemOrd, itemLt, h]
  · rw [decide_eq_false h]
    simp [PyProof.Rows.lexLt, itemOrd, itemLt, h]
theorem ascF_len {m : Int} : ∀ (b : Int) (ds : List PyData), ascF (.int b) ds = true → (∀ d ∈ ds, btw 0 m d = true) → (ds.length : Int) ≤ m - b ∨ ds = []
  | _, [], _, _ => .inr rfl
  | b, d :: r, h, hb => by
    left
    obtain ⟨i, rfl, i0, i1⟩ := btw_int (hb d (by simp))
    have h' : (PySem.W.dataLt (.int b) (.int i) && ascF (.int i) r) = true := h
    rw [Bool.and_eq_true, lt_int] at h'
    have hlt : b < i := of_decide_eq_true h'.1
    rcases ascF_len i r h'.2 (fun d hd => hb d (by simp [hd])) with z | z
    · rw [List.length_cons]
      omega
    · rw [z]
      show (1 : Int) ≤ m - b
      omega
theorem asc_len {m : Int} {ds : List PyData} (h0 : -1 ≤ m) (hb : ds.all (btw 0 m) = true) (h : ascB ds = true) : (ds.length : Int) ≤ m + 1 := by
  have hall := List.all_eq_true.mp hb
  cases ds with
  | nil =>
    show (0 : Int) ≤ m + 1
    omega
  | cons d r =>
    obtain ⟨i, rfl, i0, i1⟩ := btw_int (hall d (by simp))
    rw [ascB_cons] at h
    rcases ascF_len i r h (fun d hd => hall d (by simp [hd])) with z | z
    · rw [List.length_cons]
      omega
    · rw [z]
      show (1 : Int) ≤ m + 1
      omega
theorem ints_last {rs : List Int} (h : 0 < rs.length) : ∃ (r : Int), r ∈ rs ∧ atI (rs.map V.int) (-1) = some (.int r) := by
  obtain ⟨l, z, e⟩ : ∃ (l : List Int) (z : Int), rs = l ++ [z] := ⟨rs.dropLast, rs.getLast (by intro e; rw [e] at h; cases h), (List.dropLast_concat_getLast _).symm⟩
  refine ⟨z, by rw [e]; simp, ?_⟩
  rw [e, List.map_append]
  exact atI_last _ _
theorem ints_at {rs : List Int} {j : Nat} (h : j < rs.length) : ∃ r, atI (rs.map V.int) ((j : Nat) : Int) = some (.int r) := ⟨rs[j], atI_nat (by rw [List.getElem?_map, List.getElem?_eq_getElem h]; rfl)⟩
section
variable {P : Program} {w : World} {K : PySem.W.Frag} {mg : Str → Option Value} {base : Heap}
theorem sc_permutation_size : FnScope ["_law_thing", "_law_row", "_law_n", "_law_turn", "_law_p"] ["_law_thing"] (defScope s_permutation_size) := ⟨rfl, rfl, rfl, by decide +kernel, rfl, by decide +kernel, by decide +kernel⟩
theorem okl_perm {f fI fR : Addr} {fd fdI fdR : FuncData} (F : Fun K "_law_permutation_size" "_law_permutation_size" s_permutation_size f fd) (T : Nm mg) (D_is_int : DefOk K mg "_law_is_int" s_is_int ["_law_thing", "_law_low", "_law_high"] fI fdI) (D_rises : DefOk K mg "_law_rises" s_rises ["_law_items"] fR fdR) : FnOk P w K mg base CX0 2 f fd ["_law_thing"] (spOptT permB) := by
  have G_is_int : FnOk P w K mg base CX0 1 fI fdI ["_law_thing", "_law_low", "_law_high"] spBtw := okl_int D_is_int.F T
  have G_rises : FnOk P w K mg base CX0 1 fR fdR ["_law_items"] spRises := okl_rises D_rises.F T
  refine F.ok sc_permutation_size (fun vs H Q E h => ?_) (fun cdv A outer s H vs Q E hr h => ?_)
  · obtain ⟨a, xs, ds, rfl, _⟩ := h
    rfl
  · obtain ⟨a, xs, ds, rfl, ha, hx, l1, lm, q0, q1⟩ := h
    have hu0 := hr.units0
    refine ⟨_, pss_cons (ps_if (PW.pt (pw_or (pt_cmpR op_ne (pe_callB call_len_seq (by rfl) T.len PySem.boot_len (pa_cons (pv 0) pa_nil)) pe_int (nomark _)) (pw_or (pt_not (pt_val (pe_call G_is_int hr rfl D_is_int.g D_is_int.F.kp D_is_int.b .nil pass0 (pa_cons (pe_ix ix_tup (pv 0) pe_int (fun _ _ => rfl)) (pa_cons pe_int (pa_cons pe_int pa_nil)))))) (pw_or1 (pt_not (pt_val (pe_callB call_isi (by rfl) T.isinstance boot_isinstance (pa_cons (pe_ix ix_tup (pv 0) pe_int (fun _ _ => rfl)) (pa_cons (pe_bltn (v := .ty "tuple") rfl T.tuple (by decide +kernel) rfl) pa_nil)))))))))
        (pss_one (ps_ret pe_non))
        pss_nil)
      (pss_cons (ps_if (PW.pt (pw_or (pt_cmpR (op_nempty hu0) (pe_lc (own := [("_law_p", 4)]) (g := (gName 4)) (tt := tNot (tB (tCall spBtw [] E0 (tCons (tVar 4) (tCons (tC (.int 0)) (tCons (tOp (rI0 fun i j => .int (i - j)) (tOp (rIxT K) (tVar 0) (tC (.int 1))) (tC (.int 1))) tNil)))))) rfl sc_permutation_size.nd (pi_tup (pe_ix ix_tup (pv 0) pe_int (fun _ _ => rfl))) (blkOk_by (N := ["_law_thing", "_law_row", "_law_n", "_law_turn", "_law_p"]) (sc := defScope s_permutation_size) (by decide +kernel))
          (fun _ _ _ _ _ => (pg_name (i := 4) sc_permutation_size.nd rfl (Or.inl rfl))) (fun _ _ _ _ _ => pts_one (pt_not (pt_val (pe_call G_is_int hr rfl D_is_int.g D_is_int.F.kp D_is_int.b .nil pass0 (pa_cons (pv 4) (pa_cons pe_int (pa_cons (pe_op op_sub (pe_ix ix_tup (pv 0) pe_int (fun _ _ => rfl)) pe_int) pa_nil))))))) (fun _ _ _ _ _ => (pv 4))) (pe_lst pa_nil) (nomark _)) (pw_or1 (pt_not (pt_val (pe_call G_rises hr rfl D_rises.g D_rises.F.kp D_rises.b .nil pass0 (pa_cons (pe_ix ix_tup (pv 0) pe_int (fun _ _ => rfl)) pa_nil)))))))
        (pss_one (ps_ret pe_non))
        pss_nil)
      (pss_cons (ps_set (i := 1) sc_permutation_size.nd rfl (Or.inr rfl) (pe_lst (pa_cons pe_int pa_nil)))
      (pss_cons (ps_for PassesOwn.never rfl (pi_range2 rfl T.range (pa_cons pe_int (pa_cons (pe_op op_add (pe_ix ix_tup (pv 0) pe_int (fun _ _ => rfl)) pe_int) pa_nil))) (pg_name (i := 2) sc_permutation_size.nd rfl (Or.inl rfl))
        (pss_one (ps_expr (pe_bm PySem.F.plainAttrs_list PySem.F.slot_list_append PySem.F.type_list_append mt_append (pv 1) (pa_cons (pe_op op_mulW (pe_ix ix_list (pv 1) (pe_un un_neg pe_int) (fun _ _ => rfl)) (pv 2)) pa_nil)))))
      (pss_cons (ps_for PassesOwn.never rfl (pi_range1 rfl T.range (pa_cons (pe_callB call_len_seq (by rfl) T.len PySem.boot_len (pa_cons (pe_ix ix_tup (pv 0) pe_int (fun _ _ => rfl)) pa_nil)) pa_nil)) (pg_name (i := 3) sc_permutation_size.nd rfl (Or.inl rfl))
        (pss_one (ps_set (i := 1) sc_permutation_size.nd rfl (Or.inr rfl) (pe_op op_cat (pe_lst (pa_cons pe_int pa_nil)) (pe_lc (own := [("_law_n", 2)]) (g := (gName 2)) (tt := tYes) (te := tOp (rI0 fun i j => .int (i - j)) (tOp (rIxL K) (tVar 1) (tVar 2)) (tOp (rIxL K) (tVar 1) (tOp (rI0 fun i j => .int (i - j)) (tVar 2) (tC (.int 1))))) rfl sc_permutation_size.nd (pi_range2 rfl T.range (pa_cons pe_int (pa_cons (pe_callB call_len_seq (by rfl) T.len PySem.boot_len (pa_cons (pv 1) pa_nil)) pa_nil))) (blkOk_by (N := ["_law_thing", "_law_row", "_law_n", "_law_turn", "_law_p"]) (sc := defScope s_permutation_size) (by decide +kernel))
          (fun _ _ _ _ _ => (pg_name (i := 2) sc_permutation_size.nd rfl (Or.inl rfl))) (fun _ _ _ _ _ => pts_nil) (fun _ _ _ _ _ => (pe_op op_sub (pe_ix ix_list (pv 1) (pv 2) (fun _ _ => rfl)) (pe_ix ix_list (pv 1) (pe_op op_sub (pv 2) pe_int) (fun _ _ => rfl)))))))))
      (pss_one (ps_ret (pe_ix ix_list (pv 1) (pe_un un_neg pe_int) (fun _ _ => rfl)))))))), ?_⟩
    have hl := hx.len
    refine ⟨_, rfl, a, xs, rfl, .inr (SqT.of ha), rfl, _, rfl, ?_⟩
    rw [dec_int]
    by_cases h3 : ds.length = 3
    · rw [decide_eq_true (show ((xs.length : Nat) : Int) = 3 by omega)]
      match ds, h3, hx with
      | [d0, d1, d2], _, .cons (v := x0) c0 (.cons (v := x1) c1 (.cons (v := x2) c2 .nil)) =>
        have eP : permB (.tuple [d0, d1, d2]) = (btw 0 60 d1 && tupOf 0 (intOf d1) d2 && ((tupItems d2).all (btw 0 (intOf d1 - 1)) && ascB (tupItems d2))) := rfl
        rw [eP] at q0 q1
        refine if_f rfl ⟨_, rfl, a, _, _, x1, rfl, rfl, SqT.of ha, atI_nat (j := 1) rfl, x1, d1, 0, 60, rfl, c1, fun H1 S1 => ⟨_, rfl, ?_⟩⟩
        cases hb1 : btw 0 60 d1 with
        | false =>
          rw [hb1] at q0
          exact if_t rfl (if_t rfl (q0 H1 S1 rfl))
        | true =>
          rw [hb1, Bool.true_and] at q0 q1
          obtain ⟨n, rfl, n0, n60⟩ := btw_int hb1
          obtain rfl := dat_int c1
          have qn : ∀ H', Same H H' → isTup d2 = false → Q .non H' := fun H' S z => q0 H' S (by
            cases d2 with
            | tuple _ => cases z
            | _ => rfl)
          refine if_f rfl ⟨_, rfl, a, _, _, x2, rfl, rfl, SqT.of (S1 _ _ ha), atI_nat (j := 2) rfl, x2, .ty "tuple", _, _, _, rfl, .ty _, (c2.same S1).ty, kit_tuple _ d2, _, rfl, ?_⟩
          cases d2 with
          | tuple es =>
            cases c2 with
            | @tup b ys _ hb hy =>
              have lmE : nodesAll es ≤ 2400 := by
                rw [nodes_tup, nodesAll, nodesAll, nodesAll, nodesAll, nodes_tup] at lm
                omega
              have lE := len_nodes es
              have hyl := hy.len
              have eQ : tupOf 0 (intOf (.int n)) (.tuple es) = (decide ((0 : Int) ≤ (es.length : Int)) && decide ((es.length : Int) ≤ n)) := rfl
              refine if_f rfl ⟨_, rfl, a, _, _, _, rfl, rfl, SqT.of (S1 _ _ ha), atI_nat (j := 2) rfl, b, rfl, ⟨_, SqT.of (S1 _ _ hb)⟩, fun D nD => lc_bad (K := K) (a := b) (xs := ys) (ds := es) (btw 0 (n - 1)) (S1 _ _ hb) (hy.same S1) (by omega) nD (fun i x d Hx N M hi hdi td S hN hM => ⟨rfl, _, rfl, _, rfl, a, _, _, _, rfl, rfl, SqT.of (S _ _ (S1 _ _ ha)), atI_nat (j := 1) rfl, _, _, rfl, rfl, x, d, 0, n - 1, rfl, td, fun H' S' => ⟨_, rfl, ?_⟩⟩) fun H3 acc S3 hD hacc => ?_⟩
              · cases hz : btw 0 (n - 1) d with
                | false => exact if_t rfl ⟨_, rfl, hN H' S' hz⟩
                | true => exact if_f rfl (hM H' S' hz)
              have S4 := S1.trans S3
              refine ⟨(by show 0 ≤ sizeLine; decide), fun e ne => ⟨D, e, acc, rfl, rfl, .inl ⟨same_new ne _ _ hD, upd_same⟩, _, rfl, ?_⟩⟩
              have S5 := S4.trans (same_new (o := HO.lst []) ne)
              generalize upd H3 e (.lst []) = H5 at S5 ⊢
              show (if (!acc.isEmpty) = true then _ else _)
              rw [hacc]
              cases hall : es.all (btw 0 (n - 1)) with
              | false =>
                refine if_t rfl (if_t rfl (q0 H5 S5 ?_))
                show (tupOf 0 (intOf (.int n)) (.tuple es) && (es.all (btw 0 (n - 1)) && ascB es)) = false
                rw [hall, Bool.false_and, Bool.and_false]
              | true =>
                refine if_f rfl ⟨_, rfl, a, _, _, _, rfl, rfl, SqT.of (S5 _ _ ha), atI_nat (j := 2) rfl, b, ys, es, rfl, S5 _ _ hb, hy.same S5, asc_ints (all_btw hall), by omega, fun H6 S6 => ⟨_, rfl, ?_⟩⟩
                have S56 := S5.trans S6
                cases hasc : ascB es with
                | false =>
                  refine if_t rfl (q0 H6 S56 ?_)
                  show (tupOf 0 (intOf (.int n)) (.tuple es) && (es.all (btw 0 (n - 1)) && ascB es)) = false
                  rw [hasc, Bool.and_false, Bool.and_false]
                | true =>
                  have hlen := asc_len (by omega) hall hasc
                  have qq : ∀ (H' : Hp) (m : Int), Same H H' → Q (.int m) H' := fun H' m S => q1 H' m S (by
                    show (tupOf 0 (intOf (.int n)) (.tuple es) && (es.all (btw 0 (n - 1)) && ascB es)) = true
                    rw [eQ, hall, hasc, decide_eq_true (by omega), decide_eq_true (by omega)]
                    rfl)
                  refine if_f rfl ⟨(by show 1 ≤ sizeLine; decide), fun M nM => ?_⟩
                  have S7 := S56.trans (same_new (o := HO.lst [V.int 1]) nM)
                  have hM : upd H6 M (.lst [V.int 1]) M = some (.lst ([1].map V.int)) := upd_same
                  have nM' : H M = none := S56.free nM
                  generalize upd H6 M (.lst [V.int 1]) = H7 at S7 hM ⊢
                  refine ⟨_, rfl, a, _, _, _, rfl, rfl, SqT.of (S7 _ _ ha), atI_nat (j := 1) rfl, _, _, rfl, rfl, 1, n + 1, rfl, ⟨by omega, by omega, by omega, by omega⟩, for_range (lo := 1) (n := (n + 1 - 1).toNat) (fun i σ Hx => ∃ (rs : List Int) (x2 : Option V), σ = [some (.ref a), some (.ref M), x2, none, none] ∧ Same H Hx ∧ Hx M = some (.lst (rs.map V.int)) ∧ rs.length = i + 1 ∧ ∀ r ∈ rs, r.natAbs ≤ 64 ^ i)
                    ⟨[1], none, rfl, S7, hM, rfl, by simp⟩ ?_ ?_⟩
                  · rintro i σ Hx hi ⟨rs, x2, rfl, S, hm, hrl, hrb⟩
                    obtain ⟨r, hr1, hr2⟩ := ints_last (rs := rs) (by omega)
                    have rb := hrb r hr1
                    have pb : 64 ^ i ≤ 2 ^ (6 * i) := pow_bits (by decide)
                    have pc : (2 : Nat) ^ (6 * i) < 2 ^ 400 := Nat.pow_lt_pow_right (by decide) (by omega)
                    refine ⟨_, rfl, .inl ⟨rfl, _, SqL.of hm⟩, _, rfl, _, rfl, M, _, _, V.int r, rfl, rfl, SqL.of hm, hr2, _, rfl, _, _, rfl, rfl, wide_mul (a := 400) (b := 10) (by omega) (by omega) (by decide) (by decide) (by decide), M, _, _, rfl, rfl, hm, by rw [List.length_map, sizeLine_eq]; omega, rs ++ [r * (1 + (i : Int))], _, rfl, keepNew nM' S, ?_, ?_, ?_⟩
                    · rw [upd_same, List.map_append]
                      rfl
                    · rw [List.length_append, hrl]
                      rfl
                    · intro r2 h2
                      rcases List.mem_append.mp h2 with z | z
                      · exact Nat.le_trans (hrb r2 z) (Nat.pow_le_pow_right (by decide) (by omega))
                      · rw [List.mem_singleton.mp z, Int.natAbs_mul, Nat.pow_succ]
                        exact Nat.mul_le_mul rb (by omega)
                  · rintro σ H8 ⟨rs, x2, rfl, S8, hm, hrl, hrb⟩
                    refine ⟨_, rfl, a, _, _, _, rfl, rfl, SqT.of (S8 _ _ ha), atI_nat (j := 2) rfl, b, ys, rfl, .inr (SqT.of (S8 _ _ hb)), ((ys.length : Nat) : Int), rfl, by omega, by omega, for_range (n := (((ys.length : Nat) : Int)).toNat) (fun i σ Hx => ∃ (m : Addr) (rs : List Int) (x2 x3 : Option V), σ = [some (.ref a), some (.ref m), x2, x3, none] ∧ Same H Hx ∧ Hx m = some (.lst (rs.map V.int)) ∧ rs.length = n.toNat + 1)
                      ⟨M, rs, x2, none, rfl, S8, hm, by omega⟩ ?_ ?_⟩
                    · rintro i σ Hx hi ⟨m, ls, y2, y3, rfl, S, hm2, hls⟩
                      refine ⟨(by show 1 ≤ sizeLine; decide), fun u nu => ?_⟩
                      have Su := same_new (o := HO.lst [V.int 0]) nu
                      have hu : upd Hx u (.lst [V.int 0]) u = some (.lst ([0].map V.int)) := upd_same
                      generalize upd Hx u (.lst [V.int 0]) = H9 at Su hu ⊢
                      have hm3 := Su _ _ hm2
                      refine ⟨_, rfl, m, _, rfl, .inl (SqL.of hm3), 1, (((ls.map V.int).length : Nat) : Int), rfl, ⟨by omega, by omega, by omega, by rw [List.length_map]; omega⟩, fun M2 nM2 => lc_it (walk_range (lo := 1) (n := ((((ls.map V.int).length : Nat) : Int) - 1).toNat)) (fun j Hy => Same H9 Hy ∧ ∃ ks : List Int, Hy M2 = some (.lst (ks.map V.int)) ∧ ks.length = j) ⟨same_new nM2, [], upd_same, rfl⟩ (fun _ _ _ _ => trivial) ?_ ?_⟩
                      · rintro j y Hy Hz hj ⟨Sy, ks, hD2, hl2⟩ ⟨rfl, rfl⟩
                        rw [List.length_map] at hj
                        obtain ⟨p, hp⟩ := ints_at (rs := ls) (j := j + 1) (by omega)
                        obtain ⟨r, hr2⟩ := ints_at (rs := ls) (j := j) (by omega)
                        refine ⟨rfl, _, rfl, _, rfl, m, _, _, V.int p, rfl, rfl, SqL.of (Sy _ _ hm3), ?_, _, rfl, _, rfl, _, _, rfl, rfl, m, _, _, V.int r, rfl, rfl, SqL.of (Sy _ _ hm3), ?_, _, _, rfl, rfl, _, hD2, ?_, grow nM2 Sy, ks ++ [p - r], ?_, ?_⟩
                        · rw [show (1 : Int) + (j : Int) = ((j + 1 : Nat) : Int) by omega]
                          exact hp
                        · rw [show (1 : Int) + (j : Int) - 1 = ((j : Nat) : Int) by omega]
                          exact hr2
                        · rw [List.length_map, sizeLine_eq]
                          omega
                        · rw [upd_same, List.map_append]
                          rfl
                        · rw [List.length_append, hl2]
                          rfl
                      · rintro H10 ⟨S10, ks, hD2, hl2⟩
                        rw [List.length_map] at hl2
                        refine ⟨u, M2, _, _, rfl, rfl, S10 _ _ hu, hD2, ?_, fun u2 nu2 => ⟨u2, 0 :: ks, _, _, rfl, ((S.trans Su).trans S10).trans (same_new nu2), ?_, ?_⟩⟩
                        · rw [List.length_map, List.length_map, sizeLine_eq]
                          show 1 + ks.length ≤ _
                          omega
                        · rw [upd_same]
                          rfl
                        · rw [List.length_cons]
                          omega
                    · rintro σ Hx ⟨m, ls, y2, y3, rfl, S, hm2, hls⟩
                      obtain ⟨r, _, hr2⟩ := ints_last (rs := ls) (by omega)
                      exact ⟨_, rfl, _, rfl, m, _, _, V.int r, rfl, rfl, SqL.of hm2, hr2, qq Hx r S⟩
          | int i => exact if_t rfl (qn H1 S1 rfl)
          | bool b => exact if_t rfl (qn H1 S1 rfl)
          | none => exact if_t rfl (qn H1 S1 rfl)
          | str x => exact if_t rfl (qn H1 S1 rfl)
          | list ds => exact if_t rfl (qn H1 S1 rfl)
          | dict kv => exact if_t rfl (qn H1 S1 rfl)
    · rw [decide_eq_false (show ¬ ((xs.length : Nat) : Int) = 3 by omega)]
      refine if_t rfl (if_t rfl (q0 H (Same.refl H) ?_))
      show (decide (ds.length = 3) && pPerm ds) = false
      rw [decide_eq_false h3]
      rfl
end
end K2
set_option maxRecDepth 100000
set_option maxHeartbeats 4000000
namespace K2
open PySem PySem.Spec PyProof.Rows L2
/-! ### moves in two ways: by their starts; whole, and no start twice -/
def sLt (a b : Str) : Bool := decide (a.cps.toList < b.cps.toList)
theorem eqv_i (a b : Int) : PyData.eqv (.int a) (.int b) = decide (a = b) := by
  by_cases h : a = b <;> simp [PyData.eqv, h]
theorem eqv_s (a b : Str) : PyData.eqv (.str a) (.str b) = decide (a = b) := by
  by_cases h : a = b <;> simp [PyData.eqv, h]
theorem al_i (a b : Int) : PySem.W.alike (.int a) (.int b) = true := by simp [PySem.W.alike]
theorem al_s (a b : Str) : PySem.W.alike (.str a) (.str b) = true := by simp [PySem.W.alike]
theorem lt_move (s s' : Int) (l l' : Str) (r r' : Int) : PySem.W.dataLt (.tuple [.int s, .str l, .int r]) (.tuple [.int s', .str l', .int r']) = if s = s' then (if l = l' then decide (r < r') else sLt l l') else decide (s < s') := by
  have e : ∀ xs ys : List PyData, PySem.W.dataLt (.tuple xs) (.tuple ys) = PyProof.Rows.lexLt itemOrd (PySem.W.keyToksAll xs) (PySem.W.keyToksAll ys) := fun xs ys => by
    unfold PySem.W.dataLt
    rw [PySem.W.keyToks, PySem.W.keyToks]
  rw [e]
  by_cases h1 : s = s'
  · rw [if_pos h1, PySem.W.dataLt_all_yes (al_i s s') (by rw [eqv_i]; exact decide_eq_true h1)]
    by_cases h2 : l = l'
    · rw [if_pos h2, PySem.W.dataLt_all_yes (al_s l l') (by rw [eqv_s]; exact decide_eq_true h2)]
      by_cases h3 : r = r'
      · rw [PySem.W.dataLt_all_yes (al_i r r') (by rw [eqv_i]; exact decide_eq_true h3), decide_eq_false (by omega)]
        exact lex_irrefl _
      · rw [PySem.W.dataLt_all_no (al_i r r') (by rw [eqv_i]; exact decide_eq_false h3)]
        exact lt_int r r'
    · rw [if_neg h2, PySem.W.dataLt_all_no (al_s l l') (by rw [eqv_s]; exact decide_eq_false h2)]
      exact PySem.W.dataLt_str l l'
  · rw [if_neg h1, PySem.W.dataLt_all_no (al_i s s') (by rw [eqv_i]; exact decide_eq_false h1)]
    exact lt_int s s'
theorem lt_start (s s' : Int) (l l' : Str) : PySem.W.dataLt (.tuple [.int s, .str l]) (.tuple [.int s', .str l']) = if s = s' then sLt l l' else decide (s < s') := by
  have e : ∀ xs ys : List PyData, PySem.W.dataLt (.tuple xs) (.tuple ys) = PyProof.Rows.lexLt itemOrd (PySem.W.keyToksAll xs) (PySem.W.keyToksAll ys) := fun xs ys => by
    unfold PySem.W.dataLt
    rw [PySem.W.keyToks, PySem.W.keyToks]
  rw [e]
  by_cases h1 : s = s'
  · rw [if_pos h1, PySem.W.dataLt_all_yes (al_i s s') (by rw [eqv_i]; exact decide_eq_true h1)]
    by_cases h2 : l = l'
    · rw [PySem.W.dataLt_all_yes (al_s l l') (by rw [eqv_s]; exact decide_eq_true h2)]
      unfold sLt
      rw [h2, decide_eq_false (List.lt_irrefl _)]
      exact lex_irrefl _
    · rw [PySem.W.dataLt_all_no (al_s l l') (by rw [eqv_s]; exact decide_eq_false h2)]
      exact PySem.W.dataLt_str l l'
  · rw [if_neg h1, PySem.W.dataLt_all_no (al_i s s') (by rw [eqv_i]; exact decide_eq_false h1)]
    exact lt_int s s'
/-- the start of a move, its key -/
def keyOf (d : PyData) : List Key := [Sum.inl (intOf (at0 (tupItems d) 0)), Sum.inr (strOf (at0 (tupItems d) 1))]
def kLt : List Key → List Key → Bool
  | [.inl s, .inr l], [.inl s', .inr l'] => if s = s' then sLt l l' else decide (s < s')
  | _, _ => false
theorem kLt_start {d e : PyData} (hd : moveB d = true) (he : moveB e = true) : PySem.W.dataLt (startOf d) (startOf e) = kLt (keyOf d) (keyOf e) := by
  obtain ⟨s, l, r, rfl, _⟩ := move_cases hd
  obtain ⟨s', l', r', rfl, _⟩ := move_cases he
  exact lt_start s s' l l'
theorem kLt_irrefl (s : Int) (l : Str) : kLt [.inl s, .inr l] [.inl s, .inr l] = false := by
  show (if s = s then sLt l l else decide (s < s)) = false
  rw [if_pos rfl]
  exact decide_eq_false (List.lt_irrefl _)
theorem kLt_trans {s1 s2 s3 : Int} {l1 l2 l3 : Str} (h1 : kLt [.inl s1, .inr l1] [.inl s2, .inr l2] = true) (h2 : kLt [.inl s2, .inr l2] [.inl s3, .inr l3] = true) : kLt [.inl s1, .inr l1] [.inl s3, .inr l3] = true := by
  have g1 : (if s1 = s2 then sLt l1 l2 else decide (s1 < s2)) = true := h1
  have g2 : (if s2 = s3 then sLt l2 l3 else decide (s2 < s3)) = true := h2
  show (if s1 = s3 then sLt l1 l3 else decide (s1 < s3)) = true
  by_cases e1 : s1 = s2
  · rw [if_pos e1] at g1
    by_cases e2 : s2 = s3
    · rw [if_pos e2] at g2
      rw [if_pos (e1.trans e2)]
      exact decide_eq_true (List.lt_trans (of_decide_eq_true g1) (of_decide_eq_true g2))
    · rw [if_neg e2] at g2
      have := of_decide_eq_true g2
      rw [if_neg (by omega)]
      exact decide_eq_true (by omega)
  · rw [if_neg e1] at g1
    have a1 := of_decide_eq_true g1
    by_cases e2 : s2 = s3
    · rw [if_neg (by omega)]
      exact decide_eq_true (by omega)
    · rw [if_neg e2] at g2
      have := of_decide_eq_true g2
      rw [if_neg (by omega)]
      exact decide_eq_true (by omega)
/-- from b on, b below all -/
theorem ascF_all : ∀ (b : PyData) (ds : List PyData), moveB b = true → (∀ d ∈ ds, moveB d = true) → ascF (startOf b) (ds.map startOf) = true → ∀ d ∈ ds, kLt (keyOf b) (keyOf d) = true
  | _, [], _, _, _, d, h => by cases h
  | b, e :: r, hb, hm, h, d, hd => by
    have h' : (PySem.W.dataLt (startOf b) (startOf e) && ascF (startOf e) (r.map startOf)) = true := h
    rw [Bool.and_eq_true, kLt_start hb (hm e (by simp))] at h'
    rcases List.mem_cons.mp hd with z | z
    · rw [z]
      exact h'.1
    · have y := ascF_all e r (hm e (by simp)) (fun d hd => hm d (by simp [hd])) h'.2 d z
      obtain ⟨s1, l1, r1, rfl, _⟩ := move_cases hb
      obtain ⟨s2, l2, r2, rfl, _⟩ := move_cases (hm e (by simp))
      obtain ⟨s3, l3, r3, rfl, _⟩ := move_cases (hm d hd)
      exact kLt_trans h'.1 y
theorem starts_two : ∀ (b : PyData) (ds : List PyData), moveB b = true → (∀ d ∈ ds, moveB d = true) → (ascF (startOf b) (ds.map startOf) = true ↔ (ascF b ds = true ∧ ((b :: ds).map keyOf).Nodup))
  | b, [], _, _ => by
    refine ⟨fun _ => ⟨rfl, by simp⟩, fun _ => rfl⟩
  | b, e :: r, hb, hm => by
    have he := hm e (by simp)
    have ih := starts_two e r he fun d hd => hm d (by simp [hd])
    obtain ⟨s, l, t, rfl, _⟩ := move_cases hb
    obtain ⟨s', l', t', rfl, _⟩ := move_cases he
    have e1 := lt_start s s' l l'
    have e2 := lt_move s s' l l' t t'
    constructor
    · intro h
      have below := ascF_all _ _ hb hm h
      have h' : (PySem.W.dataLt (.tuple [.int s, .str l]) (.tuple [.int s', .str l']) && ascF (startOf (.tuple [.int s', .str l', .int t'])) (r.map startOf)) = true := h
      rw [Bool.and_eq_true] at h'
      obtain ⟨i1, i2⟩ := ih.mp h'.2
      refine ⟨?_, ?_⟩
      · show (PySem.W.dataLt (.tuple [.int s, .str l, .int t]) (.tuple [.int s', .str l', .int t']) && ascF (.tuple [.int s', .str l', .int t']) r) = true
        rw [Bool.and_eq_true]
        refine ⟨?_, i1⟩
        have g := h'.1
        rw [e1] at g
        rw [e2]
        by_cases k : s = s'
        · rw [if_pos k] at g ⊢
          have nl : l ≠ l' := fun z => by
            rw [z] at g
            unfold sLt at g
            rw [decide_eq_false (List.lt_irrefl _)] at g
            cases g
          rw [if_neg nl]
          exact g
        · rw [if_neg k] at g ⊢
          exact g
      · rw [List.map_cons, List.nodup_cons]
        refine ⟨fun z => ?_, i2⟩
        obtain ⟨d, hd, ed⟩ := List.mem_map.mp z
        have y := below d hd
        rw [ed] at y
        rw [show keyOf (.tuple [.int s, .str l, .int t]) = [Sum.inl s, Sum.inr l] from rfl, kLt_irrefl] at y
        cases y
    · rintro ⟨h, nd⟩
      have h' : (PySem.W.dataLt (.tuple [.int s, .str l, .int t]) (.tuple [.int s', .str l', .int t']) && ascF (.tuple [.int s', .str l', .int t']) r) = true := h
      rw [Bool.and_eq_true, e2] at h'
      rw [List.map_cons, List.nodup_cons] at nd
      show (PySem.W.dataLt (.tuple [.int s, .str l]) (.tuple [.int s', .str l']) && ascF (startOf (.tuple [.int s', .str l', .int t'])) (r.map startOf)) = true
      rw [Bool.and_eq_true]
      refine ⟨?_, ih.mpr ⟨h'.2, nd.2⟩⟩
      have g := h'.1
      rw [e1]
      by_cases k : s = s'
      · rw [if_pos k] at g ⊢
        have nl : l ≠ l' := fun z => nd.1 (by rw [k, z]; simp [keyOf, at0, tupItems, intOf, strOf])
        rw [if_neg nl] at g
        exact g
      · rw [if_neg k] at g ⊢
        exact g
theorem starts_asc {ds : List PyData} (hm : ∀ d ∈ ds, moveB d = true) : ascB (ds.map startOf) = (ascB ds && decide ((ds.map keyOf).Nodup)) := by
  cases ds with
  | nil => simp [ascB]
  | cons b r =>
    rw [List.map_cons, ascB_cons, ascB_cons]
    have z := starts_two b r (hm b (by simp)) fun d hd => hm d (by simp [hd])
    by_cases h : ascF (startOf b) (r.map startOf) = true
    · obtain ⟨h1, h2⟩ := z.mp h
      rw [h, h1, decide_eq_true h2]
      rfl
    · have nh : ¬ (ascF b r = true ∧ ((b :: r).map keyOf).Nodup) := fun y => h (z.mpr y)
      rw [Bool.eq_false_iff.mpr h]
      by_cases h1 : ascF b r = true
      · rw [decide_eq_false fun y => nh ⟨h1, y⟩, Bool.and_false]
      · rw [Bool.eq_false_iff.mpr h1, Bool.false_and]
/-! ### how many keys -/
section
variable {κ : Type} [DecidableEq κ]
theorem put_len (kvs : List (κ × V)) (k : κ) (v : V) : (putK kvs k v).length = if (kvs.any fun kv => decide (kv.1 = k)) = true then kvs.length else kvs.length + 1 := by
  unfold putK
  split
  · rw [List.length_map]
  · rw [List.length_append]
    rfl
theorem put_any (kvs : List (κ × V)) (k j : κ) (v : V) : ((putK kvs k v).any fun kv => decide (kv.1 = j)) = (decide (k = j) || kvs.any fun kv => decide (kv.1 = j)) := by
  rw [valV_any, valV_put, valV_any]
  by_cases e : j = k
  · rw [if_pos e, decide_eq_true e.symm]
    rfl
  · rw [if_neg e, decide_eq_false (fun z => e z.symm), Bool.false_or]
theorem any_key (kvs : List (κ × V)) (k : κ) : (kvs.any fun kv => decide (kv.1 = k)) = decide (k ∈ kvs.map (·.1)) := by
  induction kvs with
  | nil => rfl
  | cons p r ih =>
    rw [List.any_cons, ih, List.map_cons]
    by_cases h : p.1 = k
    · have m : k ∈ p.1 :: r.map (·.1) := List.mem_cons.mpr (.inl h.symm)
      rw [decide_eq_true h, Bool.true_or]
      exact (decide_eq_true m).symm
    · rw [decide_eq_false h, Bool.false_or]
      by_cases h2 : k ∈ r.map (·.1)
      · have m : k ∈ p.1 :: r.map (·.1) := List.mem_cons.mpr (.inr h2)
        rw [decide_eq_true h2]
        exact (decide_eq_true m).symm
      · have m : ¬ k ∈ p.1 :: r.map (·.1) := fun z => by
          rcases List.mem_cons.mp z with y | y
          · exact h y.symm
          · exact h2 y
        rw [decide_eq_false h2]
        exact (decide_eq_false m).symm
end
theorem puts_nodup : ∀ (kvs acc : List (List Key × V)), (putsT acc kvs).length = acc.length + kvs.length ↔ ((kvs.map (·.1)).Nodup ∧ ∀ k ∈ kvs.map (·.1), (acc.any fun kv => decide (kv.1 = k)) = false)
  | [], acc => by
    refine ⟨fun _ => ⟨List.nodup_nil, by simp⟩, fun _ => rfl⟩
  | kv :: r, acc => by
    have ih := puts_nodup r (putK acc kv.1 kv.2)
    have le := putsT_le r (putK acc kv.1 kv.2)
    have pl := put_len acc kv.1 kv.2
    show (putsT (putK acc kv.1 kv.2) r).length = acc.length + (r.length + 1) ↔ _
    rw [List.map_cons, List.nodup_cons]
    cases ha : acc.any fun p => decide (p.1 = kv.1) with
    | true =>
      rw [ha, if_pos rfl] at pl
      refine ⟨fun h => by omega, fun h => ?_⟩
      have z := h.2 kv.1 (by simp)
      rw [ha] at z
      cases z
    | false =>
      rw [ha, if_neg Bool.false_ne_true] at pl
      rw [pl] at ih
      constructor
      · intro h
        obtain ⟨h1, h2⟩ := ih.mp (by omega)
        refine ⟨⟨fun m => ?_, h1⟩, fun k hk => ?_⟩
        · have z := h2 kv.1 m
          rw [put_any, decide_eq_true rfl] at z
          cases z
        · rcases List.mem_cons.mp hk with e | e
          · rw [e]
            exact ha
          · have z := h2 k e
            rw [put_any, Bool.or_eq_false_iff] at z
            exact z.2
      · rintro ⟨⟨h1, h2⟩, h3⟩
        have z := ih.mpr ⟨h2, fun k hk => by
          rw [put_any, Bool.or_eq_false_iff]
          exact ⟨decide_eq_false fun e => h1 (by rw [e]; exact hk), h3 k (by simp [hk])⟩⟩
        omega
/-- a dict of the texts: as many keys as there are texts -/
def textKv (xs : List Str) : List (Key × V) := xs.map fun x => (Sum.inr x, V.bl true)
theorem merge_snoc (a l : List (Key × V)) (kv : Key × V) : mergeK a (l ++ [kv]) = putK (mergeK a l) kv.1 kv.2 := by
  unfold mergeK
  rw [List.foldl_append]
  rfl
theorem merge_any (j : Key) : ∀ (l a : List (Key × V)), ((mergeK a l).any fun kv => decide (kv.1 = j)) = ((a.any fun kv => decide (kv.1 = j)) || l.any fun kv => decide (kv.1 = j))
  | [], a => by
    show (a.any fun kv => decide (kv.1 = j)) = _
    rw [List.any_nil, Bool.or_false]
  | p :: r, a => by
    show ((mergeK (putK a p.1 p.2) r).any fun kv => decide (kv.1 = j)) = _
    rw [merge_any j r, put_any, List.any_cons]
    cases (a.any fun kv => decide (kv.1 = j)) <;> cases decide (p.1 = j) <;> rfl
theorem merge_cnt (xs : List Str) : ∀ i, i ≤ xs.length → (mergeK [] (textKv (xs.take i))).length = S2.cnt xs i
  | 0, _ => by
    rw [List.take_zero]
    rfl
  | i + 1, h => by
    have ih := merge_cnt xs i (by omega)
    have hi : xs[i]? = some xs[i] := List.getElem?_eq_getElem (by omega)
    have e1 : textKv (xs.take (i + 1)) = textKv (xs.take i) ++ [(Sum.inr xs[i], V.bl true)] := by
      unfold textKv
      rw [List.take_add_one, hi, List.map_append]
      rfl
    have g : xs.getD i Str.empty = xs[i] := by rw [List.getD_eq_getElem?_getD, hi]; rfl
    have e2 : ((mergeK [] (textKv (xs.take i))).any fun kv => decide (kv.1 = Sum.inr xs[i])) = (xs.take i).any (· == xs[i]) := by
      rw [merge_any, List.any_nil, Bool.false_or]
      unfold textKv
      rw [List.any_map]
      congr 1
      funext x
      show decide (Sum.inr x = Sum.inr xs[i]) = (x == xs[i])
      by_cases h : x = xs[i]
      · rw [decide_eq_true (by rw [h]), h]
        exact (beq_self_eq_true _).symm
      · rw [decide_eq_false fun z => h (Sum.inr.inj z)]
        exact (beq_eq_false_iff_ne.mpr h).symm
    rw [e1, merge_snoc, put_len, e2, S2.cnt, g, ih]
theorem merge_all (xs : List Str) : (mergeK [] (textKv xs)).length = S2.cnt xs xs.length := by
  have z := merge_cnt xs xs.length (Nat.le_refl _)
  rw [List.take_length] at z
  exact z
end K2
set_option maxRecDepth 100000
set_option maxHeartbeats 4000000
namespace K2
open PySem PySem.Spec PyProof.Rows L2
/-! ### slices up to a place; lists of new tuples -/
theorem cutTo (k : Nat) (xs : List V) : cutV xs none (some (k : Int)) = xs.take k := by
  unfold cutV
  have e1 : HT.sIx xs.length 0 none = 0 := HT.sIx_none _ _
  have e2 : HT.sIx xs.length xs.length (some (k : Int)) = min k xs.length := HT.sIx_nat xs.length xs.length k
  rw [e1, e2, Nat.sub_zero, List.drop_zero]
  by_cases h : k ≤ xs.length
  · rw [Nat.min_eq_left h]
  · rw [Nat.min_eq_right (by omega), List.take_length, List.take_of_length_le (by omega)]
theorem slTo_of {K : PySem.W.Frag} {H : Hp} {a : Addr} {xs : List V} {Q : VK} (k : Nat) (ha : H a = some (.tup xs)) (hq : ∀ (b : Addr) (Hb : Hp), Same H Hb → Hb b = some (.tup (xs.take k)) → Q (.ref b) Hb) : rSlA K (.ref a) none (some (k : Int)) H Q := by
  refine ⟨a, xs, rfl, SqT.of ha, fun z => ?_, fun _ p np => ?_⟩
  · have e1 : HT.sIx xs.length xs.length (some (k : Int)) = min k xs.length := HT.sIx_nat xs.length xs.length k
    have e2 : min k xs.length = xs.length := e1.symm.trans z.2
    refine hq a H (Same.refl H) ?_
    rw [List.take_of_length_le (by omega)]
    exact ha
  · rw [cutTo]
    exact hq p _ (same_new np) upd_same
theorem lc_tups {J : It} {n : Nat} {G : Hp → Prop} {xs : List V} (w : Walk J n G (YAt xs)) {i : Nat} {te : TE} {vs : List Nat} {σ : L2.St} {D : Addr} {H : Hp} {Qd : Hp → Prop} (tf : Nat → List V) (hG : ∀ Hx, Same H Hx → G Hx) (hz : n ≤ 1000000) (nD : H D = none)
    (hs : ∀ (j : Nat) (x : V) (Hx : Hp) (N : VK), j < n → xs[j]? = some x → Same H Hx → (∀ b H', Same Hx H' → H' b = some (.tup (tf j)) → N (.ref b) H') → wipe ((wipe σ vs).set i (some x)) vs = wipe σ vs ∧ te ((wipe σ vs).set i (some x)) Hx N)
    (hd : ∀ (Hx : Hp) (bs : List Addr), Same H Hx → Hx D = some (.lst (bs.map V.ref)) → bs.length = n → (∀ (j : Nat) (b : Addr), bs[j]? = some b → Hx b = some (.tup (tf j))) → Qd Hx) :
    ∃ W : Nat → Nat → Hp → Prop, (∃ m, W 0 m (upd H D (.lst []))) ∧ ∀ i₁ m H, W i₁ m H →
      (J.stop i₁ H ∧ Qd H) ∨ (J.go i₁ H ∧ ∃ Nx : Hp → Prop, (∀ H', Nx H' → ∃ m', m' < m ∧ W (i₁ + 1) m' H') ∧ ∀ x H', J.yld i₁ H x H' → gName i x (wipe σ vs) H' fun σ2 H2 => wipe σ2 vs = wipe σ vs ∧ tYes σ2 H2 fun b H3 =>
        if b = true then te σ2 H3 fun y H4 => ∃ acc, H4 D = some (.lst acc) ∧ acc.length < sizeLine ∧ Nx (upd H4 D (.lst (acc ++ [y]))) else Nx H3) := by
  refine lc_it w (fun j Hx => Same H Hx ∧ ∃ bs : List Addr, Hx D = some (.lst (bs.map V.ref)) ∧ bs.length = j ∧ ∀ (k : Nat) (b : Addr), bs[k]? = some b → Hx b = some (.tup (tf k))) ⟨same_new nD, [], upd_same, rfl, by simp⟩ (fun j Hx _ ⟨S, _⟩ => hG Hx S) ?_ ?_
  · rintro j x Hx Hy hj ⟨S, bs, hD, hl, hb⟩ ⟨rfl, hx⟩
    have z := hs j x Hy (fun y H4 => ∃ acc, H4 D = some (.lst acc) ∧ acc.length < sizeLine ∧ Same H (upd H4 D (.lst (acc ++ [y]))) ∧ ∃ bs : List Addr, upd H4 D (.lst (acc ++ [y])) D = some (.lst (bs.map V.ref)) ∧ bs.length = j + 1 ∧ ∀ (k : Nat) (b : Addr), bs[k]? = some b → upd H4 D (.lst (acc ++ [y])) b = some (.tup (tf k))) hj hx S fun b H' S' hb' => ?_
    · refine ⟨z.1, ?_⟩
      dsimp only [tYes]
      first
        | exact if_t rfl z.2
        | exact z.2
    · have hD' := S' _ _ hD
      refine ⟨_, hD', ?_, grow nD (S.trans S'), bs ++ [b], ?_, ?_, ?_⟩
      · rw [List.length_map, sizeLine_eq]
        omega
      · rw [upd_same, List.map_append]
        rfl
      · rw [List.length_append, hl]
        rfl
      · intro k c hk
        have nd : c ≠ D ∧ H' c = some (.tup (tf k)) := by
          have hc : H' c = some (.tup (tf k)) := by
            by_cases hkj : k < bs.length
            · rw [List.getElem?_append_left hkj] at hk
              exact S' _ _ (hb k c hk)
            · rw [List.getElem?_append_right (by omega)] at hk
              obtain ⟨e1, e2⟩ : k - bs.length = 0 ∧ b = c := by
                cases hkz : k - bs.length with
                | zero =>
                  rw [hkz] at hk
                  exact ⟨rfl, Option.some.inj hk⟩
                | succ m =>
                  rw [hkz] at hk
                  simp at hk
              have ek : k = j := by omega
              rw [ek, ← e2]
              exact hb'
          refine ⟨fun e => ?_, hc⟩
          rw [e, hD'] at hc
          cases hc
        rw [upd_ne nd.1]
        exact nd.2
  · rintro Hx ⟨S, bs, hD, hl, hb⟩
    exact hd Hx bs S hD hl hb
theorem paired_of {α β : Type} {F : α → β → Prop} : ∀ {as : List α} {bs : List β}, as.length = bs.length → (∀ (i : Nat) (a : α) (b : β), as[i]? = some a → bs[i]? = some b → F a b) → Paired F as bs
  | [], [], _, _ => .nil
  | a :: as, b :: bs, hl, h => .cons (h 0 a b rfl rfl) (paired_of (by simpa using hl) fun i x y e1 e2 => h (i + 1) x y (by simpa using e1) (by simpa using e2))
/-- the moves one by one: the way that the law asks -/
theorem move_bad {e : PyData} (h : moveB e = false) (es : List PyData) (he : e = .tuple es) (h3 : es.length = 3) : nameB (at0 es 1) = false ∨ btw 0 7 (at0 es 0) = false ∨ btw 0 7 (at0 es 2) = false := by
  subst he
  have e1 : moveB (.tuple es) = (tupOf 3 3 (.tuple es) && (btw 0 7 (at0 es 0) && (nameB (at0 es 1) && btw 0 7 (at0 es 2)))) := rfl
  have e2 : tupOf 3 3 (.tuple es) = true := by
    show (decide ((3 : Int) ≤ (es.length : Int)) && decide ((es.length : Int) ≤ 3)) = true
    rw [decide_eq_true (by omega), decide_eq_true (by omega)]
    rfl
  rw [e1, e2] at h
  cases a : btw 0 7 (at0 es 0) <;> cases b : nameB (at0 es 1) <;> cases c : btw 0 7 (at0 es 2) <;> simp_all
theorem asc_moves {ds : List PyData} (h : ∀ d ∈ ds, moveB d = true) : AscOk ds := fun i hi => by
  have g : ∀ j, j < ds.length → ∃ s l r, ds.getD j .none = .tuple [.int s, .str l, .int r] := fun j hj => by
    obtain ⟨s, l, r, e, _⟩ := move_cases (h ds[j] (List.getElem_mem hj))
    refine ⟨s, l, r, ?_⟩
    rw [List.getD_eq_getElem?_getD, List.getElem?_eq_getElem hj, e]
    rfl
  obtain ⟨s1, l1, r1, e1⟩ := g i (by omega)
  obtain ⟨s2, l2, r2, e2⟩ := g (i + 1) hi
  rw [e1, e2]
  exact ⟨by simp [PySem.W.alike, PySem.W.alikeAll], by simp, by simp [PyData.depth, PyData.depthAll]⟩
end K2
set_option maxRecDepth 100000
set_option maxHeartbeats 4000000
namespace K2
open PySem PySem.Spec PyProof.Rows L2
/-! ### the law's string_size -/
abbrev s_string_size : Stmt := top 87
def stringB : PyData → Bool
  | .tuple ds => decide (ds.length = 3) && pString ds
  | _ => false
theorem moves_eq {ms : List PyData} (h48 : ms.length ≤ 48) (hm : ∀ e ∈ ms, moveB e = true) : movesB (.tuple ms) = (ascB ms && (decide ((ms.map keyOf).Nodup) && decide ((S2.cnt (lettersOf (.tuple ms)) (lettersOf (.tuple ms)).length : Int) ≤ 6))) := by
  have e1 : movesB (.tuple ms) = (tupOf 0 48 (.tuple ms) && ms.all moveB && (ascB (ms.map startOf) && decide ((S2.cnt (lettersOf (.tuple ms)) (lettersOf (.tuple ms)).length : Int) ≤ 6))) := rfl
  have e2 : tupOf 0 48 (.tuple ms) = true := by
    show (decide ((0 : Int) ≤ (ms.length : Int)) && decide ((ms.length : Int) ≤ 48)) = true
    rw [decide_eq_true (by omega), decide_eq_true (by omega)]
    rfl
  rw [e1, e2, List.all_eq_true.mpr hm, starts_asc hm]
  simp only [Bool.true_and, Bool.and_assoc]
theorem ix8 {i : Int} (h0 : 0 ≤ i) (h7 : i ≤ 7) {rs : List Int} (h : rs.length = 8) : ∃ r : Int, atI (rs.map V.int) i = some (.int r) := by
  obtain ⟨r, e⟩ := ints_at (rs := rs) (j := i.toNat) (by omega)
  rw [show i = ((i.toNat : Nat) : Int) by omega]
  exact ⟨r, e⟩
theorem ixn8 {i : Int} (h0 : 0 ≤ i) (h7 : i ≤ 7) : ixN 8 i = some i.toNat := by
  obtain ⟨j, rfl⟩ : ∃ j : Nat, i = j := ⟨i.toNat, by omega⟩
  have h8 : j < 8 := by omega
  match j, h8 with
  | 0, _ => rfl
  | 1, _ => rfl
  | 2, _ => rfl
  | 3, _ => rfl
  | 4, _ => rfl
  | 5, _ => rfl
  | 6, _ => rfl
  | 7, _ => rfl
section
variable {P : Program} {w : World} {K : PySem.W.Frag} {mg : Str → Option Value} {base : Heap}
theorem sc_string_size : FnScope ["_law_thing", "_law_moves", "_law_accepting", "_law_one", "_law_pairs", "_law_letters", "_law_many", "_law_turn", "_law_more", "_law_state", "_law_letter", "_law_target", "_law_pair"] ["_law_thing"] (defScope s_string_size) := ⟨rfl, rfl, rfl, by decide +kernel, rfl, by decide +kernel, by decide +kernel⟩
theorem okl_string {f fI fN fR : Addr} {fd fdI fdN fdR : FuncData} (F : Fun K "_law_string_size" "_law_string_size" s_string_size f fd) (T : Nm mg) (Td : mg "dict" = none) (D_is_int : DefOk K mg "_law_is_int" s_is_int ["_law_thing", "_law_low", "_law_high"] fI fdI) (D_is_name : DefOk K mg "_law_is_name" s_is_name ["_law_thing"] fN fdN) (D_rises : DefOk K mg "_law_rises" s_rises ["_law_items"] fR fdR) : FnOk P w K mg base CX0 2 f fd ["_law_thing"] (spOptT stringB) := by
  have G_is_int : FnOk P w K mg base CX0 1 fI fdI ["_law_thing", "_law_low", "_law_high"] spBtw := okl_int D_is_int.F T
  have G_is_name : FnOk P w K mg base CX0 1 fN fdN ["_law_thing"] (spP nameB) := okl_name D_is_name.F T
  have G_rises : FnOk P w K mg base CX0 1 fR fdR ["_law_items"] spRises := okl_rises D_rises.F T
  refine F.ok sc_string_size (fun vs H Q E h => ?_) (fun cdv A outer s H vs Q E hr h => ?_)
  · obtain ⟨a, xs, ds, rfl, _⟩ := h
    rfl
  · obtain ⟨a, xs, ds, rfl, ha, hx, l1, lm, q0, q1⟩ := h
    have hu0 := hr.units0
    have hu := hr.units
    refine ⟨_, pss_cons (ps_if (PW.pt (pw_or (pt_cmpR op_ne (pe_callB call_len_seq (by rfl) T.len PySem.boot_len (pa_cons (pv 0) pa_nil)) pe_int (nomark _)) (pw_or (pt_not (pt_val (pe_callB call_isi (by rfl) T.isinstance boot_isinstance (pa_cons (pe_ix ix_tup (pv 0) pe_int (fun _ _ => rfl)) (pa_cons (pe_bltn (v := .ty "tuple") rfl T.tuple (by decide +kernel) rfl) pa_nil))))) (pw_or (pt_cmpR op_ne (pe_callB call_len_seq (by rfl) T.len PySem.boot_len (pa_cons (pe_ix ix_tup (pv 0) pe_int (fun _ _ => rfl)) pa_nil)) pe_int (nomark _)) (pw_or1 (pt_not (pt_val (pe_call G_is_int hr rfl D_is_int.g D_is_int.F.kp D_is_int.b .nil pass0 (pa_cons (pe_ix ix_tup (pv 0) pe_int (fun _ _ => rfl)) (pa_cons pe_int (pa_cons pe_int pa_nil)))))))))))
        (pss_one (ps_ret pe_non))
        pss_nil)
      (pss_cons (ps_asg (pe_ix ix_tup (pv 0) pe_int (fun _ _ => rfl)) (pg_tup rfl (pgs_cons (pg_name (i := 1) sc_string_size.nd rfl (Or.inl rfl)) (pgs_cons (pg_name (i := 2) sc_string_size.nd rfl (Or.inl rfl)) pgs_nil))))
      (pss_cons (ps_if (PW.pt (pw_or (pt_not (pt_val (pe_callB call_isi (by rfl) T.isinstance boot_isinstance (pa_cons (pv 1) (pa_cons (pe_bltn (v := .ty "tuple") rfl T.tuple (by decide +kernel) rfl) pa_nil))))) (pw_or (pt_cmpR op_gt (pe_callB call_len_seq (by rfl) T.len PySem.boot_len (pa_cons (pv 1) pa_nil)) pe_int (nomark _)) (pw_or1 (pt_not (pt_val (pe_callB call_isi (by rfl) T.isinstance boot_isinstance (pa_cons (pv 2) (pa_cons (pe_bltn (v := .ty "tuple") rfl T.tuple (by decide +kernel) rfl) pa_nil)))))))))
        (pss_one (ps_ret pe_non))
        pss_nil)
      (pss_cons (ps_for PassesOwn.never rfl (pi_tup (pv 1)) (pg_name (i := 3) sc_string_size.nd rfl (Or.inl rfl))
        (pss_cons (ps_if (PW.pt (pw_or (pt_not (pt_val (pe_callB call_isi (by rfl) T.isinstance boot_isinstance (pa_cons (pv 3) (pa_cons (pe_bltn (v := .ty "tuple") rfl T.tuple (by decide +kernel) rfl) pa_nil))))) (pw_or (pt_cmpR op_ne (pe_callB call_len_seq (by rfl) T.len PySem.boot_len (pa_cons (pv 3) pa_nil)) pe_int (nomark _)) (pw_or1 (pt_not (pt_val (pe_call G_is_name hr rfl D_is_name.g D_is_name.F.kp D_is_name.b .nil pass0 (pa_cons (pe_ix ix_tup (pv 3) pe_int (fun _ _ => rfl)) pa_nil))))))))
          (pss_one (ps_ret pe_non))
          pss_nil)
        (pss_one (ps_if (PW.pt (pw_or (pt_not (pt_val (pe_call G_is_int hr rfl D_is_int.g D_is_int.F.kp D_is_int.b .nil pass0 (pa_cons (pe_ix ix_tup (pv 3) pe_int (fun _ _ => rfl)) (pa_cons pe_int (pa_cons pe_int pa_nil)))))) (pw_or1 (pt_not (pt_val (pe_call G_is_int hr rfl D_is_int.g D_is_int.F.kp D_is_int.b .nil pass0 (pa_cons (pe_ix ix_tup (pv 3) pe_int (fun _ _ => rfl)) (pa_cons pe_int (pa_cons pe_int pa_nil)))))))))
          (pss_one (ps_ret pe_non))
          pss_nil))))
      (pss_cons (ps_if (PW.pt (pw_or (pt_cmpR (op_nempty hu0) (pe_lc (own := [("_law_state", 9)]) (g := (gName 9)) rfl sc_string_size.nd (pi_tup (pv 2)) (blkOk_by (N := ["_law_thing", "_law_moves", "_law_accepting", "_law_one", "_law_pairs", "_law_letters", "_law_many", "_law_turn", "_law_more", "_law_state", "_law_letter", "_law_target", "_law_pair"]) (sc := defScope s_string_size) (by decide +kernel))
          (fun _ _ _ _ _ => (pg_name (i := 9) sc_string_size.nd rfl (Or.inl rfl))) (fun _ _ _ _ _ => pts_one (pt_not (pt_val (pe_call G_is_int hr rfl D_is_int.g D_is_int.F.kp D_is_int.b .nil pass0 (pa_cons (pv 9) (pa_cons pe_int (pa_cons pe_int pa_nil))))))) (fun _ _ _ _ _ => (pv 9))) (pe_lst pa_nil) (nomark _)) (pw_or1 (pt_not (pt_val (pe_call G_rises hr rfl D_rises.g D_rises.F.kp D_rises.b .nil pass0 (pa_cons (pv 2) pa_nil)))))))
        (pss_one (ps_ret pe_non))
        pss_nil)
      (pss_cons (ps_par (i := 4) (j := 5) rfl sc_string_size.nd rfl rfl (by decide) rfl rfl (pa_cons (pe_lc (own := [("_law_one", 3)]) (g := (gName 3)) (tt := tYes) (te := tSl (rSlA K) (tVar 3) tNoPart (tPart (tC (.int 2)))) rfl sc_string_size.nd (pi_tup (pv 1)) (blkOk_by (N := ["_law_thing", "_law_moves", "_law_accepting", "_law_one", "_law_pairs", "_law_letters", "_law_many", "_law_turn", "_law_more", "_law_state", "_law_letter", "_law_target", "_law_pair"]) (sc := defScope s_string_size) (by decide +kernel))
          (fun _ _ _ _ _ => (pg_name (i := 3) sc_string_size.nd rfl (Or.inl rfl))) (fun _ _ _ _ _ => pts_nil) (fun _ _ _ _ _ => (pe_slice sl_tupA (pv 3) po_none (po_some pe_int)))) (pa_cons (pe_callTy (call_dictP rfl) (by rfl) Td (by decide +kernel) (pa_cons (pe_lc (own := [("_law_one", 3)]) (g := (gName 3)) (tt := tYes) (te := tTup (tCons (tOp (rIxT K) (tVar 3) (tC (.int 1))) (tCons (tC (.bl true)) tNil))) rfl sc_string_size.nd (pi_tup (pv 1)) (blkOk_by (N := ["_law_thing", "_law_moves", "_law_accepting", "_law_one", "_law_pairs", "_law_letters", "_law_many", "_law_turn", "_law_more", "_law_state", "_law_letter", "_law_target", "_law_pair"]) (sc := defScope s_string_size) (by decide +kernel))
          (fun _ _ _ _ _ => (pg_name (i := 3) sc_string_size.nd rfl (Or.inl rfl))) (fun _ _ _ _ _ => pts_nil) (fun _ _ _ _ _ => (pe_tup (pa_cons (pe_ix ix_tup (pv 3) pe_int (fun _ _ => rfl)) (pa_cons pe_bl pa_nil))))) pa_nil)) pa_nil)) (by rfl))
      (pss_cons (ps_if (PW.pt (pw_or (pt_not (pt_val (pe_call G_rises hr rfl D_rises.g D_rises.F.kp D_rises.b .nil pass0 (pa_cons (pv 1) pa_nil)))) (pw_or (pt_cmpR op_ne (pe_callB call_len_dT (by rfl) T.len PySem.boot_len (pa_cons (pe_callTy (call_dictT rfl hu) (by rfl) Td (by decide +kernel) (pa_cons (pe_lc (own := [("_law_pair", 12)]) (g := (gName 12)) (tt := tYes) rfl sc_string_size.nd (pi_list (pv 4)) (blkOk_by (N := ["_law_thing", "_law_moves", "_law_accepting", "_law_one", "_law_pairs", "_law_letters", "_law_many", "_law_turn", "_law_more", "_law_state", "_law_letter", "_law_target", "_law_pair"]) (sc := defScope s_string_size) (by decide +kernel))
          (fun _ _ _ _ _ => (pg_name (i := 12) sc_string_size.nd rfl (Or.inl rfl))) (fun _ _ _ _ _ => pts_nil) (fun _ _ _ _ _ => (pe_tup (pa_cons (pv 12) (pa_cons pe_bl pa_nil))))) pa_nil)) pa_nil)) (pe_callB call_len_seq (by rfl) T.len PySem.boot_len (pa_cons (pv 1) pa_nil)) (nomark _)) (pw_or1 (pt_cmpR op_gt (pe_callB call_lenD (by rfl) T.len PySem.boot_len (pa_cons (pv 5) pa_nil)) pe_int (nomark _))))))
        (pss_one (ps_ret pe_non))
        pss_nil)
      (pss_cons (ps_set (i := 6) sc_string_size.nd rfl (Or.inr rfl) (pe_lst (pa_cons pe_int (pa_cons pe_int (pa_cons pe_int (pa_cons pe_int (pa_cons pe_int (pa_cons pe_int (pa_cons pe_int (pa_cons pe_int pa_nil))))))))))
      (pss_cons (ps_for PassesOwn.never rfl (pi_range1 rfl T.range (pa_cons (pe_ix ix_tup (pv 0) pe_int (fun _ _ => rfl)) pa_nil)) (pg_name (i := 7) sc_string_size.nd rfl (Or.inl rfl))
        (pss_cons (ps_set (i := 8) sc_string_size.nd rfl (Or.inl rfl) (pe_op op_rep (pe_lst (pa_cons pe_int pa_nil)) pe_int))
        (pss_cons (ps_for PassesOwn.never rfl (pi_tup (pv 1)) (pg_tup rfl (pgs_cons (pg_name (i := 9) sc_string_size.nd rfl (Or.inl rfl)) (pgs_cons (pg_name (i := 10) sc_string_size.nd rfl (Or.inl rfl)) (pgs_cons (pg_name (i := 11) sc_string_size.nd rfl (Or.inl rfl)) pgs_nil))))
          (pss_one (ps_asg (pe_op op_add (pe_ix ix_list (pv 8) (pv 11) (fun _ _ => rfl)) (pe_ix ix_list (pv 6) (pv 9) (fun _ _ => rfl))) (pg_sub (pv 8) (pv 11) set_list (fun _ => rfl)))))
        (pss_one (ps_set (i := 6) sc_string_size.nd rfl (Or.inr rfl) (pv 8))))))
      (pss_one (ps_ret (pe_callB (cr_sum rfl) (by rfl) T.sum boot_sum (pa_cons (pe_lc (own := [("_law_state", 9)]) (g := (gName 9)) (tt := tYes) (te := tOp (rIxL K) (tVar 6) (tVar 9)) rfl sc_string_size.nd (pi_tup (pv 2)) (blkOk_by (N := ["_law_thing", "_law_moves", "_law_accepting", "_law_one", "_law_pairs", "_law_letters", "_law_many", "_law_turn", "_law_more", "_law_state", "_law_letter", "_law_target", "_law_pair"]) (sc := defScope s_string_size) (by decide +kernel))
          (fun _ _ _ _ _ => (pg_name (i := 9) sc_string_size.nd rfl (Or.inl rfl))) (fun _ _ _ _ _ => pts_nil) (fun _ _ _ _ _ => (pe_ix ix_list (pv 6) (pv 9) (fun _ _ => rfl)))) pa_nil)))))))))))), ?_⟩
    have hl := hx.len
    refine ⟨_, rfl, a, xs, rfl, .inr (SqT.of ha), rfl, _, rfl, ?_⟩
    rw [dec_int]
    by_cases h3 : ds.length = 3
    · rw [decide_eq_true (show ((xs.length : Nat) : Int) = 3 by omega)]
      match ds, h3, hx with
      | [d0, d1, d2], _, .cons (v := x0) c0 (.cons (v := x1) c1 (.cons (v := x2) c2 .nil)) =>
        have eS : stringB (.tuple [d0, d1, d2]) = (btw 0 60 d2 && (tupOf 2 2 d1 && (movesB (at0 (tupItems d1) 0) && statesB (at0 (tupItems d1) 1)))) := rfl
        rw [eS] at q0 q1
        have qt : ∀ H', Same H H' → tupOf 2 2 d1 = false → Q .non H' := fun H' S z => q0 H' S (by rw [z, Bool.false_and, Bool.and_false])
        refine if_f rfl ⟨_, rfl, a, _, _, x1, rfl, rfl, SqT.of ha, atI_nat (j := 1) rfl, x1, .ty "tuple", _, _, _, rfl, .ty _, c1.ty, kit_tuple _ d1, _, rfl, ?_⟩
        cases d1 with
        | tuple es =>
          cases c1 with
          | @tup b ys _ hb hy =>
            have hyl := hy.len
            refine if_f rfl ⟨_, rfl, a, _, _, _, rfl, rfl, SqT.of ha, atI_nat (j := 1) rfl, b, ys, rfl, .inr (SqT.of hb), rfl, _, rfl, ?_⟩
            rw [dec_int]
            have eT : tupOf 2 2 (.tuple es) = (decide ((2 : Int) ≤ (es.length : Int)) && decide ((es.length : Int) ≤ 2)) := rfl
            by_cases h2 : es.length = 2
            · rw [decide_eq_true (show ((ys.length : Nat) : Int) = 2 by omega)]
              refine if_f rfl ⟨_, rfl, a, _, _, x2, rfl, rfl, SqT.of ha, atI_nat (j := 2) rfl, x2, d2, 0, 60, rfl, c2, fun H1 S1 => ⟨_, rfl, ?_⟩⟩
              cases hb2 : btw 0 60 d2 with
              | false =>
                rw [hb2] at q0
                exact if_t rfl (q0 H1 S1 rfl)
              | true =>
                match es, h2, hy with
                | [m0, s0], _, .cons (v := y0) e0 (.cons (v := y1) e1 .nil) =>
                  obtain ⟨n, rfl, n0, n60⟩ := btw_int hb2
                  obtain rfl := dat_int c2
                  have qe : ∀ H', Same H H' → (movesB m0 && statesB s0) = false → Q .non H' := fun H' S z => q0 H' S (by
                    show (btw 0 60 (.int n) && (true && (movesB m0 && statesB s0))) = false
                    rw [hb2, z]
                    rfl)
                  have qy : ∀ (H' : Hp) (k : Int), Same H H' → (movesB m0 && statesB s0) = true → Q (.int k) H' := fun H' k S z => q1 H' k S (by
                    show (btw 0 60 (.int n) && (true && (movesB m0 && statesB s0))) = true
                    rw [hb2, z]
                    rfl)
                  refine if_f rfl ⟨_, rfl, a, _, _, _, rfl, rfl, SqT.of (S1 _ _ ha), atI_nat (j := 1) rfl, b, _, rfl, SqT.of (S1 _ _ hb), rfl, _, _, rfl, _, _, rfl, rfl, ?_⟩
                  refine ⟨_, rfl, y0, .ty "tuple", _, _, _, rfl, .ty _, (e0.same S1).ty, kit_tuple _ m0, _, rfl, ?_⟩
                  cases m0 with
                  | tuple ms =>
                    cases e0 with
                    | @tup mb zs _ hmb hz =>
                      have hzl := hz.len
                      refine if_f rfl ⟨_, rfl, mb, zs, rfl, .inr (SqT.of (S1 _ _ hmb)), _, _, rfl, rfl, _, rfl, ?_⟩
                      by_cases h48 : (zs.length : Int) > 48
                      · refine if_t (decide_eq_true h48) (if_t rfl (qe H1 S1 ?_))
                        have z : movesB (.tuple ms) = false := by
                          have e : tupOf 0 48 (.tuple ms) = false := by
                            show (decide ((0 : Int) ≤ (ms.length : Int)) && decide ((ms.length : Int) ≤ 48)) = false
                            rw [decide_eq_false (show ¬ (ms.length : Int) ≤ 48 by omega), Bool.and_false]
                          unfold movesB
                          rw [e]
                          rfl
                        rw [z]
                        rfl
                      · refine if_f (decide_eq_false h48) ⟨_, rfl, y1, .ty "tuple", _, _, _, rfl, .ty _, (e1.same S1).ty, kit_tuple _ s0, _, rfl, ?_⟩
                        cases s0 with
                        | tuple ss =>
                          cases e1 with
                          | @tup sb us _ hsb hw =>
                            have hwl := hw.len
                            have lS : ss.length ≤ 2400 := by
                              have z := len_nodes ss
                              rw [nodes_tup, nodesAll, nodesAll, nodes_tup, nodesAll, nodesAll, nodes_tup ss] at lm
                              omega
                            refine if_f rfl ⟨_, rfl, mb, rfl, ⟨_, SqT.of (S1 _ _ hmb)⟩, for_tup (K := K) (a := mb) (xs := zs) (fun i σ Hx => ∃ x3 : Option V, σ = [some (.ref a), some (.ref mb), some (.ref sb), x3, none, none, none, none, none, none, none, none, none] ∧ Same H Hx ∧ ∀ e ∈ ms.take i, moveB e = true)
                              ⟨none, rfl, S1, by simp⟩ (fun i σ Hx _ ⟨_, _, S, _⟩ => SqT.of (S _ _ hmb)) ?_ ?_⟩
                            · rintro i x σ Hx hi ⟨x3, rfl, S, hm⟩
                              obtain ⟨e, hei, te⟩ := hz.get hi
                              have tx := te.same S
                              have bad : ∀ H', Same Hx H' → moveB e = false → Q .non H' := fun H' S' z => qe H' (S.trans S') (by
                                have y : ms.all moveB = false := by
                                  cases w : ms.all moveB with
                                  | false => rfl
                                  | true =>
                                    rw [List.all_eq_true.mp w e (List.mem_of_getElem? hei)] at z
                                    cases z
                                have e2 : movesB (.tuple ms) = (tupOf 0 48 (.tuple ms) && ms.all moveB && (ascB (ms.map startOf) && decide ((S2.cnt (lettersOf (.tuple ms)) (lettersOf (.tuple ms)).length : Int) ≤ 6))) := rfl
                                rw [e2, y, Bool.and_false, Bool.false_and, Bool.false_and])
                              have nt : isTup e = false → moveB e = false := fun z => by
                                cases e with
                                | tuple _ => cases z
                                | _ => rfl
                              refine ⟨_, rfl, x, .ty "tuple", _, _, _, rfl, .ty _, tx.ty, kit_tuple _ e, _, rfl, ?_⟩
                              cases e with
                              | tuple ts =>
                                cases tx with
                                | @tup tb vs _ htb hv =>
                                  have hvl := hv.len
                                  refine if_f rfl ⟨_, rfl, tb, vs, rfl, .inr (SqT.of htb), rfl, _, rfl, ?_⟩
                                  rw [dec_int]
                                  by_cases ht3 : ts.length = 3
                                  · rw [decide_eq_true (show ((vs.length : Nat) : Int) = 3 by omega)]
                                    have mB : moveB (.tuple ts) = (btw 0 7 (at0 ts 0) && (nameB (at0 ts 1) && btw 0 7 (at0 ts 2))) := by
                                      have z : tupOf 3 3 (.tuple ts) = true := by
                                        show (decide ((3 : Int) ≤ (ts.length : Int)) && decide ((ts.length : Int) ≤ 3)) = true
                                        rw [decide_eq_true (by omega), decide_eq_true (by omega)]
                                        rfl
                                      have z2 : moveB (.tuple ts) = (tupOf 3 3 (.tuple ts) && (btw 0 7 (at0 ts 0) && (nameB (at0 ts 1) && btw 0 7 (at0 ts 2)))) := rfl
                                      rw [z2, z, Bool.true_and]
                                    match ts, ht3, hv with
                                    | [t0, t1, t2], _, .cons (v := v0) g0 (.cons (v := v1) g1 (.cons (v := v2) g2 .nil)) =>
                                      have mB' : moveB (.tuple [t0, t1, t2]) = (btw 0 7 t0 && (nameB t1 && btw 0 7 t2)) := mB
                                      rw [mB'] at bad
                                      refine if_f rfl ⟨_, rfl, tb, _, _, v1, rfl, rfl, SqT.of htb, atI_nat (j := 1) rfl, v1, t1, rfl, g1, fun H2 S2 => ⟨_, rfl, ?_⟩⟩
                                      cases k1 : nameB t1 with
                                      | false =>
                                        refine if_t rfl (bad H2 S2 ?_)
                                        rw [k1, Bool.false_and, Bool.and_false]
                                      | true =>
                                        refine if_f rfl ⟨_, rfl, tb, _, _, v0, rfl, rfl, SqT.of (S2 _ _ htb), atI_nat (j := 0) rfl, v0, t0, 0, 7, rfl, g0.same S2, fun H3 S3 => ⟨_, rfl, ?_⟩⟩
                                        have S23 := S2.trans S3
                                        cases k0 : btw 0 7 t0 with
                                        | false =>
                                          refine if_t rfl (if_t rfl (bad H3 S23 ?_))
                                          rw [k0, Bool.false_and]
                                        | true =>
                                          refine if_f rfl ⟨_, rfl, tb, _, _, v2, rfl, rfl, SqT.of (S23 _ _ htb), atI_nat (j := 2) rfl, v2, t2, 0, 7, rfl, g2.same S23, fun H4 S4 => ⟨_, rfl, ?_⟩⟩
                                          have S24 := S23.trans S4
                                          cases k2 : btw 0 7 t2 with
                                          | false =>
                                            refine if_t rfl (bad H4 S24 ?_)
                                            rw [k2, Bool.and_false, Bool.and_false]
                                          | true =>
                                            refine if_f rfl ⟨_, rfl, S.trans S24, fun e he => ?_⟩
                                            rw [List.take_add_one, hei] at he
                                            rcases List.mem_append.mp he with z | z
                                            · exact hm e z
                                            · have z2 : e = .tuple [t0, t1, t2] := by simpa using z
                                              rw [z2, mB', k0, k1, k2]
                                              rfl
                                  · rw [decide_eq_false (show ¬ ((vs.length : Nat) : Int) = 3 by omega)]
                                    refine if_t rfl (if_t rfl (bad Hx (Same.refl _) ?_))
                                    have z : tupOf 3 3 (.tuple ts) = false := by
                                      show (decide ((3 : Int) ≤ (ts.length : Int)) && decide ((ts.length : Int) ≤ 3)) = false
                                      by_cases w : (3 : Int) ≤ (ts.length : Int)
                                      · rw [decide_eq_false (show ¬ (ts.length : Int) ≤ 3 by omega), Bool.and_false]
                                      · rw [decide_eq_false w, Bool.false_and]
                                    unfold moveB
                                    rw [z, Bool.false_and]
                              | int i => exact if_t rfl (if_t rfl (bad Hx (Same.refl _) (nt rfl)))
                              | bool b => exact if_t rfl (if_t rfl (bad Hx (Same.refl _) (nt rfl)))
                              | none => exact if_t rfl (if_t rfl (bad Hx (Same.refl _) (nt rfl)))
                              | str x => exact if_t rfl (if_t rfl (bad Hx (Same.refl _) (nt rfl)))
                              | list ds => exact if_t rfl (if_t rfl (bad Hx (Same.refl _) (nt rfl)))
                              | dict kv => exact if_t rfl (if_t rfl (bad Hx (Same.refl _) (nt rfl)))
                            · rintro σ H2 ⟨x3, rfl, Sa2, hm⟩
                              rw [hzl, List.take_length] at hm
                              have eM := moves_eq (ms := ms) (by omega) hm
                              have eSt : statesB (.tuple ss) = (tupOf 0 8 (.tuple ss) && (ss.all (btw 0 7) && ascB ss)) := rfl
                              have qs : ∀ H', Same H H' → (ss.all (btw 0 7) && ascB ss) = false → Q .non H' := fun H' S z => qe H' S (by rw [eSt, z, Bool.and_false, Bool.and_false])
                              refine ⟨_, rfl, sb, rfl, ⟨_, SqT.of (Sa2 _ _ hsb)⟩, fun D nD => lc_bad (K := K) (a := sb) (xs := us) (ds := ss) (btw 0 7) (Sa2 _ _ hsb) (hw.same Sa2) (by omega) nD (fun i x d Hx N M hi hdi td S hN hM => ⟨rfl, _, rfl, x, d, 0, 7, rfl, td, fun H' S' => ⟨_, rfl, ?_⟩⟩) fun H3 acc S3 hD hacc => ?_⟩
                              · cases hq : btw 0 7 d with
                                | false => exact if_t rfl ⟨_, rfl, hN H' S' hq⟩
                                | true => exact if_f rfl (hM H' S' hq)
                              have S4 := Sa2.trans S3
                              refine ⟨(by show 0 ≤ sizeLine; decide), fun e ne => ⟨D, e, acc, rfl, rfl, .inl ⟨same_new ne _ _ hD, upd_same⟩, _, rfl, ?_⟩⟩
                              have S5 := S4.trans (same_new (o := HO.lst []) ne)
                              generalize upd H3 e (.lst []) = H5 at S5 ⊢
                              show (if (!acc.isEmpty) = true then _ else _)
                              rw [hacc]
                              cases hall : ss.all (btw 0 7) with
                              | false => exact if_t rfl (if_t rfl (qs H5 S5 (by rw [hall]; rfl)))
                              | true =>
                                refine if_f rfl ⟨_, rfl, sb, us, ss, rfl, S5 _ _ hsb, hw.same S5, asc_ints (all_btw hall), by omega, fun H6 S6 => ⟨_, rfl, ?_⟩⟩
                                have S56 := S5.trans S6
                                cases hasc : ascB ss with
                                | false => exact if_t rfl (qs H6 S56 (by rw [hasc, Bool.and_false]))
                                | true =>
                                  have hl8 := asc_len (by decide) hall hasc
                                  have stT : statesB (.tuple ss) = true := by
                                    rw [eSt, hall, hasc]
                                    show (decide ((0 : Int) ≤ (ss.length : Int)) && decide ((ss.length : Int) ≤ 8) && (true && true)) = true
                                    rw [decide_eq_true (by omega), decide_eq_true (by omega)]
                                    rfl
                                  rw [stT, Bool.and_true, eM] at qe qy
                                  refine if_f rfl ?_
                                  have item : ∀ (j : Nat) (x : V) (Hx : Hp), zs[j]? = some x → Same H Hx → ∃ (tb : Addr) (s : Int) (l : Str) (r : Int), x = .ref tb ∧ ms[j]? = some (.tuple [.int s, .str l, .int r]) ∧ Hx tb = some (.tup [.int s, .str l, .int r]) ∧ 0 ≤ s ∧ s ≤ 7 ∧ 0 ≤ r ∧ r ≤ 7 := by
                                    intro j x Hx hj S
                                    obtain ⟨e, hej, te⟩ := hz.get hj
                                    obtain ⟨s, l, r, rfl, s0, s7, r0, r7, _⟩ := move_cases (hm e (List.mem_of_getElem? hej))
                                    cases te with
                                    | @tup tb vs _ htb hv =>
                                      cases hv with
                                      | cons g0 t0 =>
                                        cases t0 with
                                        | cons g1 t1 =>
                                          cases t1 with
                                          | cons g2 t2 =>
                                            cases t2
                                            cases g0
                                            cases g1
                                            cases g2
                                            exact ⟨tb, s, l, r, rfl, hej, S _ _ htb, s0, s7, r0, r7⟩
                                  refine ⟨_, rfl, mb, rfl, ⟨_, SqT.of (S56 _ _ hmb)⟩, fun D1 nD1 => lc_tups (walk_tup (K := K) (a := mb) (xs := zs)) (i := 3) (fun j => (keyOf (ms.getD j .none)).map kV) (fun Hx S => SqT.of (S _ _ (S56 _ _ hmb))) (by omega) nD1 (fun j x Hx N hj hxj S hN => ?_) fun H7 bs S7 hD1 hbl hbs => ?_⟩
                                  · obtain ⟨tb, s, l, r, rfl, hmj, htb, _⟩ := item j x Hx hxj (S56.trans S)
                                    have g : ms.getD j .none = .tuple [.int s, .str l, .int r] := by rw [List.getD_eq_getElem?_getD, hmj]; rfl
                                    refine ⟨rfl, _, rfl, 2, rfl, slTo_of 2 htb fun b Hb Sb hbb => hN b Hb Sb ?_⟩
                                    rw [g]
                                    exact hbb
                                  have T7 := S56.trans S7
                                  refine ⟨_, rfl, mb, rfl, ⟨_, SqT.of (T7 _ _ hmb)⟩, fun D2 nD2 => lc_tups (walk_tup (K := K) (a := mb) (xs := zs)) (i := 3) (fun j => [V.str (strOf (at0 (tupItems (ms.getD j .none)) 1)), V.bl true]) (fun Hx S => SqT.of (S _ _ (T7 _ _ hmb))) (by omega) nD2 (fun j x Hx N hj hxj S hN => ?_) fun H8 bs2 S8 hD2 hbl2 hbs2 => ?_⟩
                                  · obtain ⟨tb, s, l, r, rfl, hmj, htb, _⟩ := item j x Hx hxj (T7.trans S)
                                    have g : ms.getD j .none = .tuple [.int s, .str l, .int r] := by rw [List.getD_eq_getElem?_getD, hmj]; rfl
                                    refine ⟨rfl, _, rfl, tb, _, _, V.str l, rfl, rfl, SqT.of htb, atI_nat (j := 1) rfl, (by show 2 ≤ sizeLine; decide), fun p np => hN p _ (same_new np) ?_⟩
                                    rw [upd_same, g]
                                    rfl
                                  have T8 := T7.trans S8
                                  refine ⟨D2, bs2, textKv (lettersOf (.tuple ms)), rfl, SqL.of hD2, paired_of ?_ fun i p kv hp hkv => ?_, fun pd npd => ?_⟩
                                  · show bs2.length = ((ms.map fun m => strOf (at0 (tupItems m) 1)).map fun x => ((Sum.inr x : Key), V.bl true)).length
                                    rw [List.length_map, List.length_map]
                                    omega
                                  · have hp2 := hbs2 i p hp
                                    have hkv' : ((ms.map fun m => strOf (at0 (tupItems m) 1)).map fun x => ((Sum.inr x : Key), V.bl true))[i]? = some kv := hkv
                                    rw [List.getElem?_map, List.getElem?_map] at hkv'
                                    cases hmi : ms[i]? with
                                    | none =>
                                      rw [hmi] at hkv'
                                      cases hkv'
                                    | some m =>
                                      rw [hmi] at hkv'
                                      have ek := Option.some.inj hkv'
                                      have g : ms.getD i .none = m := by rw [List.getD_eq_getElem?_getD, hmi]; rfl
                                      rw [g] at hp2
                                      rw [← ek]
                                      exact SqT.of hp2
                                  have Spd := same_new (o := HO.dK (mergeK [] (textKv (lettersOf (.tuple ms))))) npd
                                  have T9 := T8.trans Spd
                                  have hpd : upd H8 pd (.dK (mergeK [] (textKv (lettersOf (.tuple ms))))) pd = some (.dK (mergeK [] (textKv (lettersOf (.tuple ms))))) := upd_same
                                  have hD9 : upd H8 pd (.dK (mergeK [] (textKv (lettersOf (.tuple ms))))) D1 = some (.lst (bs.map V.ref)) := Spd _ _ (S8 _ _ hD1)
                                  have hb9 : ∀ (j : Nat) (b : Addr), bs[j]? = some b → upd H8 pd (.dK (mergeK [] (textKv (lettersOf (.tuple ms))))) b = some (.tup ((keyOf (ms.getD j .none)).map kV)) := fun j b h => Spd _ _ (S8 _ _ (hbs j b h))
                                  generalize upd H8 pd (.dK (mergeK [] (textKv (lettersOf (.tuple ms))))) = H9 at T9 hpd hD9 hb9 ⊢
                                  refine ⟨_, _, rfl, ?_⟩
                                  refine ⟨_, rfl, mb, zs, ms, rfl, T9 _ _ hmb, hz.same T9, asc_moves hm, by omega, fun H10 S10 => ⟨_, rfl, ?_⟩⟩
                                  have T10 := T9.trans S10
                                  cases hascM : ascB ms with
                                  | false => exact if_t rfl (if_t rfl (qe H10 T10 (by rw [hascM]; rfl)))
                                  | true =>
                                    rw [hascM, Bool.true_and] at qe qy
                                    refine if_f rfl ⟨_, rfl, D1, rfl, ⟨_, SqL.of (S10 _ _ hD9)⟩, fun D3 nD3 => lc_tups (walk_list (K := K) (a := D1) (xs := bs.map V.ref)) (i := 12) (fun j => [(bs.map V.ref).getD j .non, V.bl true]) (fun Hx S => SqL.of (S _ _ (S10 _ _ hD9))) (by rw [List.length_map]; omega) nD3 (fun j x Hx N hj hxj S hN => ?_) fun H11 bs3 S11 hD3 hbl3 hbs3 => ?_⟩
                                    · have g : (bs.map V.ref).getD j .non = x := by rw [List.getD_eq_getElem?_getD, hxj]; rfl
                                      refine ⟨rfl, _, rfl, (by show 2 ≤ sizeLine; decide), fun p np => hN p _ (same_new np) ?_⟩
                                      rw [upd_same, g]
                                    rw [List.length_map] at hbl3
                                    have T11 := T10.trans S11
                                    refine ⟨D3, bs3, ms.map (fun m => (keyOf m, V.bl true)), rfl, SqL.of hD3, paired_of (by rw [List.length_map]; omega) fun i p kv hp hkv => ?_, fun pt npt => ?_⟩
                                    · have hp3 := hbs3 i p hp
                                      rw [List.getElem?_map] at hkv
                                      have hi3 : i < bs3.length := (List.getElem?_eq_some_iff.mp hp).1
                                      have hbi : bs[i]? = some bs[i] := List.getElem?_eq_getElem (by omega)
                                      have hmi : ms[i]? = some ms[i] := List.getElem?_eq_getElem (by omega)
                                      rw [hmi] at hkv
                                      have ek := Option.some.inj hkv
                                      have g : ms.getD i .none = ms[i] := by rw [List.getD_eq_getElem?_getD, hmi]; rfl
                                      have g2 : (bs.map V.ref).getD i .non = V.ref bs[i] := by rw [List.getD_eq_getElem?_getD, List.getElem?_map, hbi]; rfl
                                      have hk := S11 _ _ (S10 _ _ (hb9 i _ hbi))
                                      rw [g] at hk
                                      rw [g2] at hp3
                                      rw [← ek]
                                      exact ⟨bs[i], hk, SqT.of hp3⟩
                                    have Spt := same_new (o := HO.dT (putsT [] (ms.map fun m => (keyOf m, V.bl true)))) npt
                                    have T12 := T11.trans Spt
                                    have hpd12 := Spt _ _ (S11 _ _ (S10 _ _ hpd))
                                    refine ⟨pt, _, rfl, upd_same, _, rfl, mb, zs, rfl, .inr (SqT.of (T12 _ _ hmb)), rfl, _, rfl, ?_⟩
                                    generalize upd H11 pt (.dT (putsT [] (ms.map fun m => (keyOf m, V.bl true)))) = H12 at T12 hpd12 ⊢
                                    rw [dec_int]
                                    have kn := puts_nodup (ms.map fun m => (keyOf m, V.bl true)) []
                                    rw [List.length_map, List.length_nil, Nat.zero_add, List.map_map] at kn
                                    have kn2 : (putsT [] (ms.map fun m => (keyOf m, V.bl true))).length = ms.length ↔ (ms.map keyOf).Nodup := by
                                      rw [kn]
                                      exact ⟨fun h => h.1, fun h => ⟨h, fun _ _ => rfl⟩⟩
                                    by_cases hnd : (ms.map keyOf).Nodup
                                    · have eL := kn2.mpr hnd
                                      rw [decide_eq_true hnd, Bool.true_and] at qe qy
                                      rw [decide_eq_true (show (((putsT [] (ms.map fun m => (keyOf m, V.bl true))).length : Nat) : Int) = ((zs.length : Nat) : Int) by omega)]
                                      refine if_f rfl ⟨_, rfl, pd, _, rfl, hpd12, _, _, rfl, rfl, _, rfl, ?_⟩
                                      rw [merge_all]
                                      by_cases h6 : (S2.cnt (lettersOf (.tuple ms)) (lettersOf (.tuple ms)).length : Int) ≤ 6
                                      · rw [decide_eq_true h6] at qy
                                        have qq : ∀ (H' : Hp) (k : Int), Same H H' → Q (.int k) H' := fun H' k S => qy H' k S rfl
                                        refine if_f (decide_eq_false (by omega)) ⟨(by show 8 ≤ sizeLine; decide), fun M nM => ?_⟩
                                        have T13 := T12.trans (same_new (o := HO.lst [V.int 1, V.int 0, V.int 0, V.int 0, V.int 0, V.int 0, V.int 0, V.int 0]) nM)
                                        have hM : upd H12 M (.lst [V.int 1, V.int 0, V.int 0, V.int 0, V.int 0, V.int 0, V.int 0, V.int 0]) M = some (.lst (([1, 0, 0, 0, 0, 0, 0, 0] : List Int).map V.int)) := upd_same
                                        generalize upd H12 M (.lst [V.int 1, V.int 0, V.int 0, V.int 0, V.int 0, V.int 0, V.int 0, V.int 0]) = H13 at T13 hM ⊢
                                        refine ⟨_, rfl, a, _, _, _, rfl, rfl, SqT.of (T13 _ _ ha), atI_nat (j := 2) rfl, n, rfl, by omega, by omega, for_range (n := n.toNat) (fun i σ Hx => ∃ (m : Addr) (rs : List Int) (x3 x7 x8 x9 x10 x11 x12 : Option V), σ = [some (.ref a), some (.ref mb), some (.ref sb), x3, some (.ref D1), some (.ref pd), some (.ref m), x7, x8, x9, x10, x11, x12] ∧ Same H Hx ∧ Hx m = some (.lst (rs.map V.int)) ∧ rs.length = 8)
                                          ⟨M, [1, 0, 0, 0, 0, 0, 0, 0], _, none, none, none, none, none, none, rfl, T13, hM, rfl⟩ ?_ ?_⟩
                                        · rintro i σ Hx hi ⟨m, rs, x3, x7, x8, x9, x10, x11, x12, rfl, S, hmm, hrs⟩
                                          refine ⟨(by show 1 ≤ sizeLine; decide), fun u nu => ⟨u, 8, _, rfl, rfl, upd_same, by decide, by decide, (by show 1 * 8 ≤ sizeLine; decide), fun p np => ?_⟩⟩
                                          have Su := same_new (o := HO.lst [V.int 0]) nu
                                          generalize upd Hx u (.lst [V.int 0]) = H14 at Su np ⊢
                                          have Sp := same_new (o := HO.lst (List.replicate (8 : Int).toNat [V.int 0]).flatten) np
                                          have hp : upd H14 p (.lst (List.replicate (8 : Int).toNat [V.int 0]).flatten) p = some (.lst (([0, 0, 0, 0, 0, 0, 0, 0] : List Int).map V.int)) := by
                                            rw [upd_same]
                                            rfl
                                          have np0 : H p = none := (S.trans Su).free np
                                          have mp : m ≠ p := ne_of_none (Su _ _ hmm) np
                                          have Sall := (S.trans Su).trans Sp
                                          have hm15 := Sp _ _ (Su _ _ hmm)
                                          generalize upd H14 p (.lst (List.replicate (8 : Int).toNat [V.int 0]).flatten) = H15 at Sall hp hm15 ⊢
                                          refine ⟨_, rfl, mb, rfl, ⟨_, SqT.of (Sall _ _ hmb)⟩, for_tup (K := K) (a := mb) (xs := zs) (fun j σ Hy => ∃ (ts : List Int) (x9 x10 x11 : Option V), σ = [some (.ref a), some (.ref mb), some (.ref sb), x3, some (.ref D1), some (.ref pd), some (.ref m), some (.int (0 + (i : Int))), some (.ref p), x9, x10, x11, x12] ∧ Same H Hy ∧ Hy m = some (.lst (rs.map V.int)) ∧ Hy p = some (.lst (ts.map V.int)) ∧ ts.length = 8)
                                            ⟨[0, 0, 0, 0, 0, 0, 0, 0], x9, x10, x11, rfl, Sall, hm15, hp, rfl⟩ (fun j σ Hy _ ⟨_, _, _, _, _, S, _⟩ => SqT.of (S _ _ hmb)) ?_ ?_⟩
                                          · rintro j x σ Hy hj ⟨ts, y9, y10, y11, rfl, Sy, hmy, hpy, hts⟩
                                            obtain ⟨tb, s, l, r, rfl, _, htb, s0, s7, r0, r7⟩ := item j x Hy hj Sy
                                            obtain ⟨w1, e1⟩ := ix8 r0 r7 hts
                                            obtain ⟨w2, e2⟩ := ix8 s0 s7 hrs
                                            refine ⟨tb, _, rfl, SqT.of htb, rfl, _, _, rfl, _, _, rfl, _, _, rfl, rfl, ?_⟩
                                            refine ⟨_, rfl, _, rfl, p, _, _, V.int w1, rfl, rfl, SqL.of hpy, e1, _, rfl, _, rfl, m, _, _, V.int w2, rfl, rfl, SqL.of hmy, e2, _, _, rfl, rfl, _, rfl, _, rfl, p, _, _, r.toNat, rfl, rfl, hpy, ?_, ?_⟩
                                            · rw [List.length_map, hts]
                                              exact ixn8 r0 r7
                                            · refine ⟨ts.set r.toNat (w1 + w2), _, _, _, rfl, keepNew np0 Sy, ?_, ?_, ?_⟩
                                              · rw [upd_ne mp]
                                                exact hmy
                                              · rw [upd_same, List.map_set]
                                              · rw [List.length_set]
                                                exact hts
                                          · rintro σ Hy ⟨ts, y9, y10, y11, rfl, Sy, hmy, hpy, hts⟩
                                            exact ⟨_, rfl, p, ts, _, _, _, _, _, _, _, rfl, Sy, hpy, hts⟩
                                        · rintro σ Hx ⟨m, rs, x3, x7, x8, x9, x10, x11, x12, rfl, S, hmm, hrs⟩
                                          refine ⟨_, rfl, sb, rfl, ⟨_, SqT.of (S _ _ hsb)⟩, fun D4 nD4 => lc_vals (K := K) (a := sb) (xs := us) (fun i => V.int (rs.getD (intOf (ss.getD i .none)).toNat 0)) (S _ _ hsb) (by omega) nD4 (fun i x Hy hi S4 R hR => ?_) mono_name fun Hy S4 hD4 => ?_⟩
                                          · obtain ⟨e, hei, te⟩ := hw.get hi
                                            obtain ⟨k, rfl, k0, k7⟩ := btw_int (List.all_eq_true.mp hall e (List.mem_of_getElem? hei))
                                            obtain rfl := dat_int te
                                            have g : intOf (ss.getD i .none) = k := by rw [List.getD_eq_getElem?_getD, hei]; rfl
                                            have zr := hR Hy (Same.refl _)
                                            rw [g] at zr
                                            refine ⟨rfl, _, rfl, _, rfl, m, _, _, V.int (rs.getD k.toNat 0), rfl, rfl, SqL.of (S4 _ _ hmm), ?_, zr⟩
                                            have hk8 : k.toNat < rs.length := by omega
                                            rw [show k = ((k.toNat : Nat) : Int) by omega, Int.toNat_natCast]
                                            refine atI_nat ?_
                                            rw [List.getElem?_map, List.getElem?_eq_getElem hk8, List.getD_eq_getElem?_getD, List.getElem?_eq_getElem hk8]
                                            rfl
                                          · have eL2 : (List.range us.length).map (fun i => V.int (rs.getD (intOf (ss.getD i .none)).toNat 0)) = ((List.range us.length).map fun i => rs.getD (intOf (ss.getD i .none)).toNat 0).map V.int := by
                                              rw [List.map_map]
                                              rfl
                                            rw [eL2] at hD4
                                            exact ⟨D4, _, rfl, SqL.of hD4, qq Hy _ (S.trans S4)⟩
                                      · refine if_t (decide_eq_true (by omega)) (qe H12 T12 ?_)
                                        exact decide_eq_false h6
                                    · have nL : ¬ (((putsT [] (ms.map fun m => (keyOf m, V.bl true))).length : Nat) : Int) = ((zs.length : Nat) : Int) := fun z => hnd (kn2.mp (by omega))
                                      rw [decide_eq_false nL]
                                      refine if_t rfl (if_t rfl (qe H12 T12 ?_))
                                      rw [decide_eq_false hnd]
                                      rfl
                        | int i => exact if_t rfl (qe H1 S1 (by rw [show statesB (.int i) = false from rfl, Bool.and_false]))
                        | bool b => exact if_t rfl (qe H1 S1 (by rw [show statesB (.bool b) = false from rfl, Bool.and_false]))
                        | none => exact if_t rfl (qe H1 S1 (by rw [show statesB .none = false from rfl, Bool.and_false]))
                        | str x => exact if_t rfl (qe H1 S1 (by rw [show statesB (.str x) = false from rfl, Bool.and_false]))
                        | list ds => exact if_t rfl (qe H1 S1 (by rw [show statesB (.list ds) = false from rfl, Bool.and_false]))
                        | dict kv => exact if_t rfl (qe H1 S1 (by rw [show statesB (.dict kv) = false from rfl, Bool.and_false]))
                  | int i => exact if_t rfl (if_t rfl (qe H1 S1 rfl))
                  | bool b => exact if_t rfl (if_t rfl (qe H1 S1 rfl))
                  | none => exact if_t rfl (if_t rfl (qe H1 S1 rfl))
                  | str x => exact if_t rfl (if_t rfl (qe H1 S1 rfl))
                  | list ds => exact if_t rfl (if_t rfl (qe H1 S1 rfl))
                  | dict kv => exact if_t rfl (if_t rfl (qe H1 S1 rfl))
            · rw [decide_eq_false (show ¬ ((ys.length : Nat) : Int) = 2 by omega)]
              refine if_t rfl (if_t rfl (qt H (Same.refl H) ?_))
              rw [eT]
              by_cases w : (2 : Int) ≤ (es.length : Int)
              · rw [decide_eq_false (show ¬ (es.length : Int) ≤ 2 by omega), Bool.and_false]
              · rw [decide_eq_false w, Bool.false_and]
        | int i => exact if_t rfl (if_t rfl (qt H (Same.refl H) rfl))
        | bool b => exact if_t rfl (if_t rfl (qt H (Same.refl H) rfl))
        | none => exact if_t rfl (if_t rfl (qt H (Same.refl H) rfl))
        | str x => exact if_t rfl (if_t rfl (qt H (Same.refl H) rfl))
        | list ds => exact if_t rfl (if_t rfl (qt H (Same.refl H) rfl))
        | dict kv => exact if_t rfl (if_t rfl (qt H (Same.refl H) rfl))
    · rw [decide_eq_false (show ¬ ((xs.length : Nat) : Int) = 3 by omega)]
      refine if_t rfl (if_t rfl (q0 H (Same.refl H) ?_))
      show (decide (ds.length = 3) && pString ds) = false
      rw [decide_eq_false h3]
      rfl
end
end K2
set_option maxRecDepth 100000
set_option maxHeartbeats 4000000
namespace K2
open PySem PySem.Spec PyProof.Rows L2
/-! ### the law's order_size -/
abbrev s_order_size : Stmt := top 85
theorem names_nodes : ∀ (n : Nat) (d : PyData), orderB n d = true → 3 * (namesN n d).length ≤ nodes d
  | 0, _, h => Bool.noConfusion h
  | n + 1, d, h => by
    obtain ⟨d0, d1, rfl, hh⟩ := order_cases h
    have eN : namesN (n + 1) (.tuple [d0, d1]) = if eqStr "item" d0 = true then [strOf d1] else (tupItems d1).flatMap (namesN n) := by rw [namesN]; rfl
    have p0 := nodes_pos d0
    have p1 := nodes_pos d1
    rw [eN, nodes_tup, nodesAll, nodesAll, nodesAll]
    rcases hh with ⟨h0, _⟩ | ⟨h0, es, rfl, _, _, hes⟩
    · rw [h0, if_pos rfl]
      show 3 * 1 ≤ _
      omega
    · rw [h0, if_neg Bool.false_ne_true, nodes_tup]
      have z : ∀ l : List PyData, (∀ e ∈ l, orderB n e = true) → 3 * (l.flatMap (namesN n)).length ≤ nodesAll l := by
        intro l
        induction l with
        | nil => intro _; simp [nodesAll]
        | cons e r ih =>
          intro hl
          have a := names_nodes n e (hl e (by simp))
          have b := ih fun e he => hl e (by simp [he])
          rw [List.flatMap_cons, List.length_append, nodesAll]
          omega
      have y := z es hes
      show 3 * (es.flatMap (namesN n)).length ≤ _
      omega
theorem ten_mul (m a b : Nat) : 10 * (m + 1) * a + 10 * m * b + 10 * b = 10 * (m + 1) * (a + b) := by
  rw [Nat.mul_add (10 * (m + 1)) a b, Nat.add_assoc, show 10 * (m + 1) = 10 * m + 10 by omega, Nat.add_mul (10 * m) 10 b]
def spLO (k : Nat) : Sp := fun vs H Q _ => ∃ (v : V) (d : PyData), vs = [v, .int (7 - (k : Int))] ∧ k ≤ 6 ∧ Dat H v d ∧ nodes d ≤ 2400 ∧ (∀ H', Same H H' → orderB k d = false → Q .non H') ∧
  (∀ (p t : Addr) (sz : Nat) (H' : Hp), Same H H' → orderB k d = true → H' p = some (.tup [.ref t, .int (sz : Nat)]) → H' t = some (.lst ((namesN k d).map V.str)) → sz ≤ 2 ^ (10 * k * (namesN k d).length) → Q (.ref p) H')
section
variable {P : Program} {w : World} {K : PySem.W.Frag} {mg : Str → Option Value} {base : Heap}
theorem sc_order_size : FnScope ["_law_order_here", "_law_depth", "_law_names_here", "_law_size", "_law_part", "_law_found"] ["_law_order_here", "_law_depth"] (defScope s_order_size) := ⟨rfl, rfl, rfl, by decide +kernel, rfl, by decide +kernel, by decide +kernel⟩
theorem lo_body {f fN fC : Addr} {fd fdN fdC : FuncData} {sp : Sp} (n : Nat) (F : Fun K "_law_order_size" "_law_order_size" s_order_size f fd) (b : L2.Binds K fd ["_law_order_here", "_law_depth"] []) (g : mg "_law_order_size" = some (.ref f)) (G : FnOk P w K mg base CX0 (1 + n) f fd ["_law_order_here", "_law_depth"] sp) (T : Nm mg)
    (D_is_name : DefOk K mg "_law_is_name" s_is_name ["_law_thing"] fN fdN) (D_choose : DefOk K mg "_law_choose" s_choose ["_law_n", "_law_k"] fC fdC)
    (hn : ∀ m, n = m + 1 → n ≤ 6 → ∀ (x : V) (d : PyData) (H : Hp) (R : VK), Dat H x d → nodes d ≤ 2400 → (∀ H', Same H H' → orderB m d = false → R .non H') →
      (∀ (p t : Addr) (sz : Nat) (H' : Hp), Same H H' → orderB m d = true → H' p = some (.tup [.ref t, .int (sz : Nat)]) → H' t = some (.lst ((namesN m d).map V.str)) → sz ≤ 2 ^ (10 * m * (namesN m d).length) → R (.ref p) H') → sp [x, .int (7 - ((m + 1 : Nat) : Int) + 1)] H R E0) :
    FnOk P w K mg base CX0 (2 + n) f fd ["_law_order_here", "_law_depth"] (spLO n) := by
  have G_is_name : FnOk P w K mg base CX0 1 fN fdN ["_law_thing"] (spP nameB) := okl_name D_is_name.F T
  have G_choose : FnOk P w K mg base CX0 1 fC fdC ["_law_n", "_law_k"] spChoose := okl_choose D_choose.F T
  rw [show 2 + n = (1 + n) + 1 by omega]
  refine F.ok sc_order_size (fun vs H Q E h => ?_) (fun cdv A outer s H vs Q E hr h => ?_)
  · obtain ⟨v, d, rfl, _⟩ := h
    rfl
  · obtain ⟨v, d, rfl, h6, hd, hnd, q0, q1⟩ := h
    have hu0 := hr.units0
    have hu1 := hu_of hr
    have hr1 : Room 1 _ := hr.mono (by omega)
    refine ⟨_, pss_cons (ps_if (PW.pt (pw_or (pt_not (pt_val (pe_callB call_isi (by rfl) T.isinstance boot_isinstance (pa_cons (pv 0) (pa_cons (pe_bltn (v := .ty "tuple") rfl T.tuple (by decide +kernel) rfl) pa_nil))))) (pw_or (pt_cmpR op_ne (pe_callB call_len_seq (by rfl) T.len PySem.boot_len (pa_cons (pv 0) pa_nil)) pe_int (nomark _)) (pw_or (pt_cmpR op_gt (pv 1) pe_int (nomark _)) (pw_or1 (pt_cmpR (op_notInStrs hu1) (pe_ix ix_tup (pv 0) pe_int (fun _ _ => rfl)) (pe_tup (pa_cons pe_str (pa_cons pe_str (pa_cons pe_str pa_nil)))) rfl))))))
        (pss_one (ps_ret pe_non))
        pss_nil)
      (pss_cons (ps_if (pt_cmpR (op_eqStr hu0) (pe_ix ix_tup (pv 0) pe_int (fun _ _ => rfl)) pe_str (nomark _))
        (pss_one (ps_ret (pe_ifExp (pt_val (pe_call G_is_name hr1 rfl D_is_name.g D_is_name.F.kp D_is_name.b .nil pass0 (pa_cons (pe_ix ix_tup (pv 0) pe_int (fun _ _ => rfl)) pa_nil))) (pe_tup (pa_cons (pe_lst (pa_cons (pe_ix ix_tup (pv 0) pe_int (fun _ _ => rfl)) pa_nil)) (pa_cons pe_int pa_nil))) pe_non)))
        pss_nil)
      (pss_cons (ps_if (PW.pt (pw_or (pt_not (pt_val (pe_callB call_isi (by rfl) T.isinstance boot_isinstance (pa_cons (pe_ix ix_tup (pv 0) pe_int (fun _ _ => rfl)) (pa_cons (pe_bltn (v := .ty "tuple") rfl T.tuple (by decide +kernel) rfl) pa_nil))))) (pw_or1 (pt_not (pt_chain op_le op_le pe_int (pe_callB call_len_seq (by rfl) T.len PySem.boot_len (pa_cons (pe_ix ix_tup (pv 0) pe_int (fun _ _ => rfl)) pa_nil)) pe_int)))))
        (pss_one (ps_ret pe_non))
        pss_nil)
      (pss_cons (ps_par (i := 2) (j := 3) rfl sc_order_size.nd rfl rfl (by decide) rfl rfl (pa_cons (pe_lst pa_nil) (pa_cons pe_int pa_nil)) (by rfl))
      (pss_cons (ps_for PassesOwn.never rfl (pi_tup (pe_ix ix_tup (pv 0) pe_int (fun _ _ => rfl))) (pg_name (i := 4) sc_order_size.nd rfl (Or.inl rfl))
        (pss_cons (ps_set (i := 5) sc_order_size.nd rfl (Or.inl rfl) (pe_call G hr rfl g F.kp b .nil pass0 (pa_cons (pv 4) (pa_cons (pe_op op_add (pv 1) pe_int) pa_nil))))
        (pss_cons (ps_if (pt_cmpR op_isN (pv 5) pe_non (nomark _))
          (pss_one (ps_ret pe_non))
          pss_nil)
        (pss_cons (ps_set (i := 2) sc_order_size.nd rfl (Or.inl rfl) (pe_op op_cat (pv 2) (pe_ix ix_tup (pv 5) pe_int (fun _ _ => rfl))))
        (pss_one (ps_set (i := 3) sc_order_size.nd rfl (Or.inl rfl) (pe_op op_mulW (pe_op op_mulW (pv 3) (pe_ix ix_tup (pv 5) pe_int (fun _ _ => rfl))) (pe_ifExp (pt_cmpR (op_eqStr hu0) (pe_ix ix_tup (pv 0) pe_int (fun _ _ => rfl)) pe_str (nomark _)) (pe_call G_choose hr1 rfl D_choose.g D_choose.F.kp D_choose.b .nil pass0 (pa_cons (pe_callB call_len_seq (by rfl) T.len PySem.boot_len (pa_cons (pv 2) pa_nil)) (pa_cons (pe_callB call_len_seq (by rfl) T.len PySem.boot_len (pa_cons (pe_ix ix_tup (pv 5) pe_int (fun _ _ => rfl)) pa_nil)) pa_nil))) pe_int))))))))
      (pss_one (ps_ret (pe_tup (pa_cons (pv 2) (pa_cons (pv 3) pa_nil))))))))), ?_⟩
    have qn := q0 H (Same.refl H)
    have not2 : tupOf 2 2 d = false → orderB n d = false := fun z => by
      cases n with
      | zero => rfl
      | succ m => rw [orderB, z, Bool.false_and]
    refine ⟨_, rfl, v, .ty "tuple", _, _, _, rfl, .ty _, hd.ty, kit_tuple _ d, _, rfl, ?_⟩
    cases d with
    | tuple ds =>
      cases hd with
      | @tup a xs _ ha hx =>
        have hl := hx.len
        refine if_f rfl ⟨_, rfl, a, xs, rfl, .inr (SqT.of ha), rfl, _, rfl, ?_⟩
        rw [dec_int]
        have eT : tupOf 2 2 (.tuple ds) = (decide ((2 : Int) ≤ (ds.length : Int)) && decide ((ds.length : Int) ≤ 2)) := rfl
        by_cases h2 : ds.length = 2
        · rw [decide_eq_true (show ((xs.length : Nat) : Int) = 2 by omega)]
          refine if_f rfl ⟨_, rfl, _, _, rfl, rfl, _, rfl, ?_⟩
          cases n with
          | zero => exact if_t (decide_eq_true (by decide)) (if_t rfl (qn rfl))
          | succ m =>
            refine if_f (decide_eq_false (by omega)) ?_
            match ds, h2, hx with
            | [d0, d1], _, .cons (v := x0) c0 (.cons (v := x1) c1 .nil) =>
              have eO : orderB (m + 1) (.tuple [d0, d1]) = (if eqStr "item" d0 = true then nameB d1 else ((eqStr "series" d0 || eqStr "parallel" d0) && (tupOf 2 6 d1 && (tupItems d1).all (orderB m)))) := by
                rw [orderB]
                rfl
              have eN : namesN (m + 1) (.tuple [d0, d1]) = if eqStr "item" d0 = true then [strOf d1] else (tupItems d1).flatMap (namesN m) := by rw [namesN]; rfl
              rw [eO] at q0 q1 qn
              rw [eN] at q1
              refine ⟨_, rfl, a, _, _, x0, rfl, rfl, SqT.of ha, atI_nat (j := 0) rfl, (by show 3 ≤ sizeLine; decide), fun p np => ?_⟩
              have Sp := same_new (o := HO.tup [.str "item", .str "series", .str "parallel"]) np
              have hpp : upd H p (.tup [.str "item", .str "series", .str "parallel"]) p = some (.tup [.str "item", .str "series", .str "parallel"]) := upd_same
              generalize upd H p (.tup [.str "item", .str "series", .str "parallel"]) = H1 at Sp hpp ⊢
              have eAny : (["item", "series", "parallel"] : List Str).any (fun z => eqStr z d0) = (eqStr "item" d0 || (eqStr "series" d0 || eqStr "parallel" d0)) := by
                rw [List.any_cons, List.any_cons, List.any_cons, List.any_nil, Bool.or_false]
              refine ⟨d0, p, ["item", "series", "parallel"], c0.same Sp, rfl, hpp, _, rfl, ?_⟩
              rw [eAny]
              cases h0 : eqStr "item" d0 with
              | true =>
                rw [h0, if_pos rfl] at q0 q1 qn
                refine if_f rfl ⟨_, rfl, a, _, _, x0, rfl, rfl, SqT.of (Sp _ _ ha), atI_nat (j := 0) rfl, d0, "item", c0.same Sp, rfl, _, rfl, ?_⟩
                rw [h0]
                refine if_t rfl ⟨_, rfl, a, _, _, x1, rfl, rfl, SqT.of (Sp _ _ ha), atI_nat (j := 1) rfl, x1, d1, rfl, c1.same Sp, fun H2 S2 => ⟨_, rfl, ?_⟩⟩
                have S12 := Sp.trans S2
                cases hnm : nameB d1 with
                | false => exact if_f rfl (q0 H2 S12 hnm)
                | true =>
                  refine if_t rfl ⟨_, rfl, a, _, _, x1, rfl, rfl, SqT.of (S12 _ _ ha), atI_nat (j := 1) rfl, (by show 1 ≤ sizeLine; decide), fun t nt => ⟨(by show 2 ≤ sizeLine; decide), fun u nu => ?_⟩⟩
                  have St := same_new (o := HO.lst [x1]) nt
                  have Su := same_new (o := HO.tup [V.ref t, V.int 1]) nu
                  refine q1 u t 1 _ ((S12.trans St).trans Su) hnm upd_same (Su _ _ ?_) (Nat.pow_pos (by decide))
                  rw [upd_same, dat_name c1 hnm]
                  rfl
              | false =>
                rw [h0, if_neg Bool.false_ne_true] at q0 q1 qn
                rw [Bool.false_or]
                cases hsp : (eqStr "series" d0 || eqStr "parallel" d0) with
                | false =>
                  rw [hsp] at q0
                  exact if_t rfl (q0 H1 Sp rfl)
                | true =>
                  rw [hsp, Bool.true_and] at q0 q1
                  refine if_f rfl ⟨_, rfl, a, _, _, x0, rfl, rfl, SqT.of (Sp _ _ ha), atI_nat (j := 0) rfl, d0, "item", c0.same Sp, rfl, _, rfl, ?_⟩
                  rw [h0]
                  refine if_f rfl ⟨_, rfl, a, _, _, x1, rfl, rfl, SqT.of (Sp _ _ ha), atI_nat (j := 1) rfl, x1, .ty "tuple", _, _, _, rfl, .ty _, (c1.same Sp).ty, kit_tuple _ d1, _, rfl, ?_⟩
                  cases d1 with
                  | tuple es =>
                    cases c1 with
                    | @tup a2 ys _ ha2 hy =>
                      have hyl := hy.len
                      have e26 : tupOf 2 6 (.tuple es) = (decide ((2 : Int) ≤ (es.length : Int)) && decide ((es.length : Int) ≤ 6)) := rfl
                      have lmE : nodesAll es ≤ 2400 := by
                        rw [nodes_tup, nodesAll, nodesAll, nodesAll, nodes_tup] at hnd
                        omega
                      rw [e26] at q0 q1
                      refine if_f rfl ⟨_, rfl, a, _, _, _, rfl, rfl, SqT.of (Sp _ _ ha), atI_nat (j := 1) rfl, a2, ys, rfl, .inr (SqT.of (Sp _ _ ha2)), _, _, rfl, rfl, _, rfl, ?_⟩
                      by_cases g2 : (2 : Int) ≤ (ys.length : Int)
                      · refine if_t (decide_eq_true g2) ⟨_, _, rfl, rfl, _, rfl, ?_⟩
                        by_cases g6 : (ys.length : Int) ≤ 6
                        · rw [decide_eq_true (show (2 : Int) ≤ (es.length : Int) by omega), decide_eq_true (show (es.length : Int) ≤ 6 by omega), Bool.true_and] at q0 q1
                          have q0' : ∀ H', Same H H' → es.all (orderB m) = false → Q .non H' := q0
                          have q1' : ∀ (p t : Addr) (sz : Nat) (H' : Hp), Same H H' → es.all (orderB m) = true → H' p = some (.tup [.ref t, .int (sz : Nat)]) → H' t = some (.lst ((es.flatMap (namesN m)).map V.str)) → sz ≤ 2 ^ (10 * (m + 1) * (es.flatMap (namesN m)).length) → Q (.ref p) H' := q1
                          refine if_f (by rw [decide_eq_true g6]; rfl) ⟨(by show 0 ≤ sizeLine; decide), fun t nt => ⟨_, _, rfl, ?_⟩⟩
                          have S3 := Sp.trans (same_new (o := HO.lst []) nt)
                          have ht : upd H1 t (.lst []) t = some (.lst ((([] : List PyData).flatMap (namesN m)).map V.str)) := upd_same
                          generalize upd H1 t (.lst []) = H3 at S3 ht ⊢
                          refine ⟨_, rfl, a, _, _, _, rfl, rfl, SqT.of (S3 _ _ ha), atI_nat (j := 1) rfl, a2, rfl, ⟨_, SqT.of (S3 _ _ ha2)⟩, for_tup (K := K) (a := a2) (xs := ys) (fun i σ Hx => ∃ (t : Addr) (sz : Nat) (x4 x5 : Option V), σ = [some (.ref a), some (.int (7 - ((m + 1 : Nat) : Int))), some (.ref t), some (.int (sz : Nat)), x4, x5] ∧ Same H Hx ∧ Hx t = some (.lst (((es.take i).flatMap (namesN m)).map V.str)) ∧ sz ≤ 2 ^ (10 * (m + 1) * ((es.take i).flatMap (namesN m)).length) ∧ ∀ e ∈ es.take i, orderB m e = true)
                            ⟨t, 1, none, none, rfl, S3, ht, Nat.pow_pos (by decide), by simp⟩ (fun i σ Hx _ ⟨_, _, _, _, _, S, _⟩ => SqT.of (S _ _ ha2)) ?_ ?_⟩
                          · rintro i x σ Hx hi ⟨t, sz, x4, x5, rfl, S, ht, hsz, hall⟩
                            obtain ⟨e, hei, te⟩ := hy.get hi
                            have hem := List.mem_of_getElem? hei
                            have hil : i < es.length := (List.getElem?_eq_some_iff.mp hei).1
                            have ne := mem_nodes hem
                            refine ⟨_, rfl, _, rfl, _, _, rfl, rfl, hn m rfl h6 x e Hx _ (te.same S) (by omega) (fun H4 S4 ho => ⟨_, rfl, rfl, _, rfl, if_t rfl (q0' H4 (S.trans S4) ?_)⟩) fun p t2 s2 H4 S4 ho hp ht2 hs2 => ⟨_, rfl, rfl, _, rfl, if_f rfl ?_⟩⟩
                            · cases w : es.all (orderB m) with
                              | false => rfl
                              | true =>
                                rw [List.all_eq_true.mp w e hem] at ho
                                cases ho
                            · have ft := flat_pre (f := namesN m) hei
                              have fl : (((es.take i).flatMap (namesN m)).length + (namesN m e).length) * 3 ≤ 2400 := by
                                have hall2 : ∀ l : List PyData, (∀ e ∈ l, orderB m e = true) → 3 * (l.flatMap (namesN m)).length ≤ nodesAll l := by
                                  intro l
                                  induction l with
                                  | nil => intro _; simp [nodesAll]
                                  | cons e r ih =>
                                    intro hl
                                    have a := names_nodes m e (hl e (by simp))
                                    have b := ih fun e he => hl e (by simp [he])
                                    rw [List.flatMap_cons, List.length_append, nodesAll]
                                    omega
                                have nt : ∀ l r : List PyData, nodesAll (l ++ r) = nodesAll l + nodesAll r := by
                                  intro l r
                                  induction l with
                                  | nil => simp [nodesAll]
                                  | cons e l ih => rw [List.cons_append, nodesAll, nodesAll, ih]; omega
                                have z := hall2 (es.take (i + 1)) (fun e' he => by
                                  rw [List.take_add_one, hei] at he
                                  rcases List.mem_append.mp he with y | y
                                  · exact hall e' y
                                  · have z3 : e' = e := by simpa using y
                                    rw [z3]
                                    exact ho)
                                have y := nt (es.take (i + 1)) (es.drop (i + 1))
                                rw [List.take_append_drop] at y
                                rw [ft, List.length_append] at z
                                omega
                              have ht4 := S4 _ _ ht
                              refine ⟨_, rfl, _, rfl, p, _, _, V.ref t2, rfl, rfl, SqT.of hp, atI_nat (j := 0) rfl, t, t2, _, _, rfl, rfl, ht4, ht2, by rw [List.length_map, List.length_map, sizeLine_eq]; omega, fun u nu => ?_⟩
                              have Su := same_new (o := HO.lst (((es.take i).flatMap (namesN m)).map V.str ++ (namesN m e).map V.str)) nu
                              have hu : upd H4 u (.lst (((es.take i).flatMap (namesN m)).map V.str ++ (namesN m e).map V.str)) u = some (.lst (((es.take (i + 1)).flatMap (namesN m)).map V.str)) := by
                                rw [upd_same, ft, List.map_append]
                              have hpu := Su _ _ hp
                              have ht2u := Su _ _ ht2
                              generalize upd H4 u (.lst (((es.take i).flatMap (namesN m)).map V.str ++ (namesN m e).map V.str)) = H5 at Su hu hpu ht2u ⊢
                              have S5 := (S.trans S4).trans Su
                              have b1 : sz ≤ 2 ^ (10 * (m + 1) * ((es.take i).flatMap (namesN m)).length) := hsz
                              have lim1 : 10 * (m + 1) * ((es.take i).flatMap (namesN m)).length ≤ 60 * 800 := Nat.mul_le_mul (by omega) (by omega)
                              have lim2 : 10 * m * (namesN m e).length ≤ 60 * 800 := Nat.mul_le_mul (by omega) (by omega)
                              have w1 : sz < 2 ^ 100000 := Nat.lt_of_le_of_lt b1 (Nat.pow_lt_pow_right (by decide) (by omega))
                              have w2 : s2 < 2 ^ 100000 := Nat.lt_of_le_of_lt hs2 (Nat.pow_lt_pow_right (by decide) (by omega))
                              have c1 : CMulW (sz : Int) (s2 : Int) := wide_mul (a := 100000) (b := 100000) (by rw [Int.natAbs_natCast]; exact w1) (by rw [Int.natAbs_natCast]; exact w2) (by decide) (by decide) (by decide)
                              have w3 : ((sz : Int) * (s2 : Int)).natAbs < 2 ^ (100000 + 100000) := wide_lt (by rw [Int.natAbs_natCast]; exact w1) (by rw [Int.natAbs_natCast]; exact w2)
                              have fin : ∀ (r : Nat) (H6 : Hp), Same H5 H6 → r ≤ 2 ^ (10 * (namesN m e).length) → ∃ v, CMulW ((sz : Int) * (s2 : Int)) (r : Int) ∧ v = sz * s2 * r ∧ v ≤ 2 ^ (10 * (m + 1) * ((es.take (i + 1)).flatMap (namesN m)).length) := by
                                intro r H6 S6 hr6
                                have w4 : r < 2 ^ 100000 := Nat.lt_of_le_of_lt hr6 (Nat.pow_lt_pow_right (by decide) (by omega))
                                refine ⟨_, wide_mul w3 (b := 100000) (by rw [Int.natAbs_natCast]; exact w4) (by decide) (by decide) (by decide), rfl, ?_⟩
                                have m1 := Nat.mul_le_mul (Nat.mul_le_mul b1 hs2) hr6
                                rw [← Nat.pow_add, ← Nat.pow_add] at m1
                                have e1 : 10 * (m + 1) * ((es.take i).flatMap (namesN m)).length + 10 * m * (namesN m e).length + 10 * (namesN m e).length = 10 * (m + 1) * ((es.take (i + 1)).flatMap (namesN m)).length := by
                                  rw [ft, List.length_append]
                                  exact ten_mul _ _ _
                                rw [← e1]
                                exact m1
                              refine ⟨_, rfl, _, rfl, p, _, _, V.int (s2 : Nat), rfl, rfl, SqT.of hpu, atI_nat (j := 1) rfl, _, _, rfl, rfl, c1, _, rfl, a, _, _, x0, rfl, rfl, SqT.of (S5 _ _ ha), atI_nat (j := 0) rfl, d0, "parallel", c0.same S5, rfl, _, rfl, ?_⟩
                              have done : ∀ (r : Nat) (H6 : Hp), Same H5 H6 → r ≤ 2 ^ (10 * (namesN m e).length) → ∃ (t : Addr) (sz' : Nat) (x4' x5' : Option V), [some (V.ref a), some (.int (7 - ((m + 1 : Nat) : Int))), some (.ref u), some (.int ((sz : Int) * (s2 : Int) * (r : Int))), some x, some (V.ref p)] = [some (V.ref a), some (.int (7 - ((m + 1 : Nat) : Int))), some (.ref t), some (.int (sz' : Nat)), x4', x5'] ∧ Same H H6 ∧ H6 t = some (.lst (((es.take (i + 1)).flatMap (namesN m)).map V.str)) ∧ sz' ≤ 2 ^ (10 * (m + 1) * ((es.take (i + 1)).flatMap (namesN m)).length) ∧ ∀ e ∈ es.take (i + 1), orderB m e = true := by
                                intro r H6 S6 hr6
                                obtain ⟨v, _, ev, hv⟩ := fin r H6 S6 hr6
                                refine ⟨u, v, some x, some (.ref p), ?_, S5.trans S6, S6 _ _ hu, hv, fun e' he' => ?_⟩
                                · rw [ev, Int.natCast_mul, Int.natCast_mul]
                                · rw [List.take_add_one, hei] at he'
                                  rcases List.mem_append.mp he' with y | y
                                  · exact hall e' y
                                  · have : e' = e := by simpa using y
                                    rw [this]
                                    exact ho
                              cases hpar : eqStr "parallel" d0 with
                              | true =>
                                refine if_t rfl ⟨_, rfl, u, _, rfl, .inl (SqL.of hu), _, rfl, p, _, _, V.ref t2, rfl, rfl, SqT.of hpu, atI_nat (j := 0) rfl, t2, _, rfl, .inl (SqL.of ht2u), ((es.take (i + 1)).flatMap (namesN m)).length, (namesN m e).length, ?_, ?_, ?_, fun r H6 S6 hr6 => ?_⟩
                                · rw [List.length_map, List.length_map]
                                  rfl
                                · rw [ft, List.length_append]
                                  omega
                                · rw [ft, List.length_append]
                                  omega
                                · have hr7 : r ≤ 2 ^ (10 * (namesN m e).length) := Nat.le_trans hr6 (pow_bits (by rw [ft, List.length_append]; omega))
                                  obtain ⟨v, cv, _⟩ := fin r H6 S6 hr7
                                  exact ⟨_, _, rfl, rfl, cv, done r H6 S6 hr7⟩
                              | false =>
                                have h1 : 1 ≤ 2 ^ (10 * (namesN m e).length) := Nat.pow_pos (by decide)
                                obtain ⟨v, cv, _⟩ := fin 1 H5 (Same.refl _) h1
                                exact if_f rfl ⟨_, _, rfl, rfl, cv, done 1 H5 (Same.refl _) h1⟩
                          · rintro σ Hx ⟨t, sz, x4, x5, rfl, S, ht, hsz, hall⟩
                            rw [hyl, List.take_length] at ht hsz hall
                            refine ⟨_, rfl, _, rfl, (by show 2 ≤ sizeLine; decide), fun u nu => ?_⟩
                            exact q1' u t sz _ (S.trans (same_new nu)) (List.all_eq_true.mpr hall) upd_same (same_new nu _ _ ht) hsz
                        · refine if_t (by rw [decide_eq_false g6]; rfl) (q0 H1 Sp ?_)
                          rw [decide_eq_false (show ¬ (es.length : Int) ≤ 6 by omega), Bool.and_false]
                          rfl
                      · refine if_f (decide_eq_false g2) ⟨_, rfl, if_t rfl (q0 H1 Sp ?_)⟩
                        rw [decide_eq_false (show ¬ (2 : Int) ≤ (es.length : Int) by omega)]
                        rfl
                  | int i => exact if_t rfl (if_t rfl (q0 H1 Sp rfl))
                  | bool b => exact if_t rfl (if_t rfl (q0 H1 Sp rfl))
                  | none => exact if_t rfl (if_t rfl (q0 H1 Sp rfl))
                  | str x => exact if_t rfl (if_t rfl (q0 H1 Sp rfl))
                  | list ds => exact if_t rfl (if_t rfl (q0 H1 Sp rfl))
                  | dict kv => exact if_t rfl (if_t rfl (q0 H1 Sp rfl))
        · rw [decide_eq_false (show ¬ ((xs.length : Nat) : Int) = 2 by omega)]
          refine if_t rfl (if_t rfl (qn (not2 ?_)))
          rw [eT]
          by_cases w : (2 : Int) ≤ (ds.length : Int)
          · rw [decide_eq_false (show ¬ (ds.length : Int) ≤ 2 by omega), Bool.and_false]
          · rw [decide_eq_false w, Bool.false_and]
    | int i => exact if_t rfl (if_t rfl (qn (not2 rfl)))
    | bool b => exact if_t rfl (if_t rfl (qn (not2 rfl)))
    | none => exact if_t rfl (if_t rfl (qn (not2 rfl)))
    | str x => exact if_t rfl (if_t rfl (qn (not2 rfl)))
    | list ds => exact if_t rfl (if_t rfl (qn (not2 rfl)))
    | dict kv => exact if_t rfl (if_t rfl (qn (not2 rfl)))
theorem okl_order {f fN fC : Addr} {fd fdN fdC : FuncData} (F : Fun K "_law_order_size" "_law_order_size" s_order_size f fd) (b : L2.Binds K fd ["_law_order_here", "_law_depth"] []) (g : mg "_law_order_size" = some (.ref f)) (T : Nm mg)
    (D_is_name : DefOk K mg "_law_is_name" s_is_name ["_law_thing"] fN fdN) (D_choose : DefOk K mg "_law_choose" s_choose ["_law_n", "_law_k"] fC fdC) : ∀ n : Nat, FnOk P w K mg base CX0 (2 + n) f fd ["_law_order_here", "_law_depth"] (spLO n)
  | 0 => lo_body (sp := fun _ _ _ _ => False) 0 F b g fn_none T D_is_name D_choose fun m e => by cases e
  | n + 1 => by
    have G := okl_order F b g T D_is_name D_choose n
    rw [show 2 + n = 1 + (n + 1) by omega] at G
    refine lo_body (n + 1) F b g G T D_is_name D_choose fun m e l6 x d H R hd hnd r0 r1 => ?_
    obtain rfl : n = m := Nat.succ.inj e
    exact ⟨x, d, by rw [show (7 : Int) - ((n + 1 : Nat) : Int) + 1 = 7 - (n : Int) by omega], by omega, hd, hnd, r0, r1⟩
end
end K2
set_option maxRecDepth 100000
set_option maxHeartbeats 8000000
namespace K2
open PySem PySem.Spec PyProof.Rows L2
/-! ### the law's leaf_size -/
abbrev s_leaf_size : Stmt := top 89
/-- a leaf that is a space -/
def leafB (d : PyData) : Bool := partB d && leafD d
theorem lookup_none {z : Str} (h : ∀ w ∈ (["subset", "word", "arrangement", "walk", "cycle", "matching", "permutation", "tree", "string"] : List Str), (z == w) = false) (hn : nestW z = false) : kinds.lookup z = none := by
  unfold nestW at hn
  rw [Bool.or_eq_false_iff, Bool.or_eq_false_iff, Bool.or_eq_false_iff] at hn
  obtain ⟨n1, n2, n3, n4⟩ := hn
  have a1 := h "subset" (by simp)
  have a2 := h "word" (by simp)
  have a3 := h "arrangement" (by simp)
  have a4 := h "walk" (by simp)
  have a5 := h "cycle" (by simp)
  have a6 := h "matching" (by simp)
  have a7 := h "permutation" (by simp)
  have a8 := h "tree" (by simp)
  have a9 := h "string" (by simp)
  simp only [kinds, List.lookup, n1, n2, n3, n4, a1, a2, a3, a4, a5, a6, a7, a8, a9]
theorem leaf_none {d0 : PyData} {ds : List PyData} (h : ∀ w ∈ (["subset", "word", "arrangement", "walk", "cycle", "matching", "permutation", "tree", "string"] : List Str), eqStr w d0 = false) : leafB (.tuple (d0 :: ds)) = false := by
  cases d0 with
  | str z =>
    cases hn : nestW z with
    | true =>
      have e : leafD (.tuple (.str z :: ds)) = !nestW z := rfl
      unfold leafB
      rw [e, hn, Bool.not_true, Bool.and_false]
    | false =>
      have e : partB (.tuple (.str z :: ds)) = match kinds.lookup z with
        | some c => decide (ds.length + 1 = c.1) && c.2 (.str z :: ds)
        | none => false := rfl
      unfold leafB
      rw [e, lookup_none h hn]
      rfl
  | _ => rfl
theorem leaf_at {z : Str} {ds : List PyData} {m : Nat} {p : List PyData → Bool} (hk : kinds.lookup z = some (m, p)) (hn : nestW z = false) : leafB (.tuple (.str z :: ds)) = (decide (ds.length + 1 = m) && p (.str z :: ds)) := by
  have e : partB (.tuple (.str z :: ds)) = match kinds.lookup z with
    | some c => decide (ds.length + 1 = c.1) && c.2 (.str z :: ds)
    | none => false := rfl
  have e2 : leafD (.tuple (.str z :: ds)) = !nestW z := rfl
  unfold leafB
  rw [e, e2, hk, hn, Bool.not_false, Bool.and_true]
section
variable {P : Program} {w : World} {K : PySem.W.Frag} {mg : Str → Option Value} {base : Heap}
theorem sc_leaf_size : FnScope ["_law_thing", "_law_word", "_law_size", "_law_found", "_law_n", "_law_factors", "_law_factor", "_law_name", "_law_k"] ["_law_thing"] (defScope s_leaf_size) := ⟨rfl, rfl, rfl, by decide +kernel, rfl, by decide +kernel, by decide +kernel⟩
theorem okl_leaf {f fI fC fW fO fK fS fP : Addr} {fd fdI fdC fdW fdO fdK fdS fdP : FuncData} (F : Fun K "_law_leaf_size" "_law_leaf_size" s_leaf_size f fd) (T : Nm mg) (Td : mg "dict" = none) (Tl : mg "list" = none) (Tm : mg "max" = none)
    (D_is_int : DefOk K mg "_law_is_int" s_is_int ["_law_thing", "_law_low", "_law_high"] fI fdI) (D_choose : DefOk K mg "_law_choose" s_choose ["_law_n", "_law_k"] fC fdC)
    (D_word_size : DefOk K mg "_law_word_size" s_word_size ["_law_counts_here"] fW fdW) (G_word_size : FnOk P w K mg base CX0 2 fW fdW ["_law_counts_here"] (spOpt countsB))
    (D_order_size : DefOk K mg "_law_order_size" s_order_size ["_law_order_here", "_law_depth"] fO fdO) (G_order_size : FnOk P w K mg base CX0 8 fO fdO ["_law_order_here", "_law_depth"] (spLO 6))
    (D_walk_size : DefOk K mg "_law_walk_size" s_walk_size ["_law_thing"] fK fdK) (G_walk_size : FnOk P w K mg base CX0 2 fK fdK ["_law_thing"] (spOptT walkB))
    (D_string_size : DefOk K mg "_law_string_size" s_string_size ["_law_thing"] fS fdS) (G_string_size : FnOk P w K mg base CX0 2 fS fdS ["_law_thing"] (spOptT stringB))
    (D_permutation_size : DefOk K mg "_law_permutation_size" s_permutation_size ["_law_thing"] fP fdP) (G_permutation_size : FnOk P w K mg base CX0 2 fP fdP ["_law_thing"] (spOptT permB)) : FnOk P w K mg base CX0 9 f fd ["_law_thing"] (spOptT leafB) := by
  have G_is_int : FnOk P w K mg base CX0 1 fI fdI ["_law_thing", "_law_low", "_law_high"] spBtw := okl_int D_is_int.F T
  have G_choose : FnOk P w K mg base CX0 1 fC fdC ["_law_n", "_law_k"] spChoose := okl_choose D_choose.F T
  refine F.ok sc_leaf_size (fun vs H Q E h => ?_) (fun cdv A outer s H vs Q E hr h => ?_)
  · obtain ⟨a, xs, ds, rfl, _⟩ := h
    rfl
  · obtain ⟨a, xs, ds, rfl, ha, hx, l1, lm, q0, q1⟩ := h
    have hu0 := hr.units0
    have hu1 := hu_of hr
    have hr1 : Room 1 _ := hr.mono (by decide)
    have hr2 : Room 2 _ := hr.mono (by decide)
    refine ⟨_, pss_cons (ps_par (i := 1) (j := 2) rfl sc_leaf_size.nd rfl rfl (by decide) rfl rfl (pa_cons (pe_ix ix_tup (pv 0) pe_int (fun _ _ => rfl)) (pa_cons pe_int pa_nil)) (by rfl))
      (pss_cons (ps_if (PW.pt (pw_and (pt_cmpR (op_eqStr hu0) (pv 1) pe_str (nomark _)) (pw_and (pt_cmpR op_eq (pe_callB call_len_seq (by rfl) T.len PySem.boot_len (pa_cons (pv 0) pa_nil)) pe_int (nomark _)) (pw_and (pt_val (pe_call G_is_int hr1 rfl D_is_int.g D_is_int.F.kp D_is_int.b .nil pass0 (pa_cons (pe_ix ix_tup (pv 0) pe_int (fun _ _ => rfl)) (pa_cons pe_int (pa_cons pe_int pa_nil))))) (pw_and1 (pt_val (pe_call G_is_int hr1 rfl D_is_int.g D_is_int.F.kp D_is_int.b .nil pass0 (pa_cons (pe_ix ix_tup (pv 0) pe_int (fun _ _ => rfl)) (pa_cons pe_int (pa_cons (pe_ix ix_tup (pv 0) pe_int (fun _ _ => rfl)) pa_nil))))))))))
        (pss_one (ps_ret (pe_call G_choose hr1 rfl D_choose.g D_choose.F.kp D_choose.b .nil pass0 (pa_cons (pe_ix ix_tup (pv 0) pe_int (fun _ _ => rfl)) (pa_cons (pe_ix ix_tup (pv 0) pe_int (fun _ _ => rfl)) pa_nil)))))
        pss_nil)
      (pss_cons (ps_if (pt_cmpR (op_eqStr hu0) (pv 1) pe_str (nomark _))
        (pss_one (ps_ret (pe_ifExp (pt_cmpR op_eq (pe_callB call_len_seq (by rfl) T.len PySem.boot_len (pa_cons (pv 0) pa_nil)) pe_int (nomark _)) (pe_call G_word_size hr2 rfl D_word_size.g D_word_size.F.kp D_word_size.b .nil pass0 (pa_cons (pe_ix ix_tup (pv 0) pe_int (fun _ _ => rfl)) pa_nil)) pe_non)))
        pss_nil)
      (pss_cons (ps_if (pt_cmpR (op_eqStr hu0) (pv 1) pe_str (nomark _))
        (pss_cons (ps_set (i := 3) sc_leaf_size.nd rfl (Or.inl rfl) (pe_ifExp (pt_cmpR op_eq (pe_callB call_len_seq (by rfl) T.len PySem.boot_len (pa_cons (pv 0) pa_nil)) pe_int (nomark _)) (pe_call G_order_size hr rfl D_order_size.g D_order_size.F.kp D_order_size.b .nil pass0 (pa_cons (pe_ix ix_tup (pv 0) pe_int (fun _ _ => rfl)) (pa_cons pe_int pa_nil))) pe_non))
        (pss_cons (ps_if (PW.pt (pw_or (pt_cmpR op_isN (pv 3) pe_non (nomark _)) (pw_or (pt_cmpR op_gt (pe_callB call_len_seq (by rfl) T.len PySem.boot_len (pa_cons (pe_ix ix_tup (pv 3) pe_int (fun _ _ => rfl)) pa_nil)) pe_int (nomark _)) (pw_or1 (pt_cmpR op_ne (pe_callB call_lenD (by rfl) T.len PySem.boot_len (pa_cons (pe_callTy (call_dictP rfl) (by rfl) Td (by decide +kernel) (pa_cons (pe_lc (own := [("_law_name", 7)]) (g := (gName 7)) (tt := tYes) rfl sc_leaf_size.nd (pi_list (pe_ix ix_tup (pv 3) pe_int (fun _ _ => rfl))) (blkOk_by (N := ["_law_thing", "_law_word", "_law_size", "_law_found", "_law_n", "_law_factors", "_law_factor", "_law_name", "_law_k"]) (sc := defScope s_leaf_size) (by decide +kernel))
          (fun _ _ _ _ _ => (pg_name (i := 7) sc_leaf_size.nd rfl (Or.inl rfl))) (fun _ _ _ _ _ => pts_nil) (fun _ _ _ _ _ => (pe_tup (pa_cons (pv 7) (pa_cons pe_bl pa_nil))))) pa_nil)) pa_nil)) (pe_callB call_len_seq (by rfl) T.len PySem.boot_len (pa_cons (pe_ix ix_tup (pv 3) pe_int (fun _ _ => rfl)) pa_nil)) (nomark _))))))
          (pss_one (ps_ret pe_non))
          pss_nil)
        (pss_one (ps_ret (pe_ix ix_tup (pv 3) pe_int (fun _ _ => rfl))))))
        pss_nil)
      (pss_cons (ps_if (PW.pt (pw_or (pt_cmpR (op_eqStr hu0) (pv 1) pe_str (nomark _)) (pw_or1 (pt_cmpR (op_eqStr hu0) (pv 1) pe_str (nomark _)))))
        (pss_one (ps_ret (pe_ifExp (pt_cmpR (op_eqStr hu0) (pv 1) pe_str (nomark _)) (pe_call G_walk_size hr2 rfl D_walk_size.g D_walk_size.F.kp D_walk_size.b .nil pass0 (pa_cons (pv 0) pa_nil)) (pe_call G_string_size hr2 rfl D_string_size.g D_string_size.F.kp D_string_size.b .nil pass0 (pa_cons (pv 0) pa_nil)))))
        pss_nil)
      (pss_cons (ps_if (pt_cmpR (op_eqStr hu0) (pv 1) pe_str (nomark _))
        (pss_one (ps_ret (pe_call G_permutation_size hr2 rfl D_permutation_size.g D_permutation_size.F.kp D_permutation_size.b .nil pass0 (pa_cons (pv 0) pa_nil))))
        pss_nil)
      (pss_cons (ps_if (PW.pt (pw_or (pt_cmpR (op_notInStrs hu1) (pv 1) (pe_tup (pa_cons pe_str (pa_cons pe_str (pa_cons pe_str pa_nil)))) rfl) (pw_or1 (pt_cmpR op_ne (pe_callB call_len_seq (by rfl) T.len PySem.boot_len (pa_cons (pv 0) pa_nil)) pe_int (nomark _)))))
        (pss_one (ps_ret pe_non))
        pss_nil)
      (pss_cons (ps_set (i := 4) sc_leaf_size.nd rfl (Or.inl rfl) (pe_ix ix_tup (pv 0) pe_int (fun _ _ => rfl)))
      (pss_cons (ps_if (pt_not (pt_val (pe_call G_is_int hr1 rfl D_is_int.g D_is_int.F.kp D_is_int.b .nil pass0 (pa_cons (pv 4) (pa_cons (pe_callTy call_int1 (by rfl) T.int (by decide +kernel) (pa_cons (pe_cmpR op_ne (pv 1) pe_str (nomark _)) pa_nil)) (pa_cons (pe_ifExp (pt_cmpR (op_eqStr hu0) (pv 1) pe_str (nomark _)) pe_int pe_int) pa_nil))))))
        (pss_one (ps_ret pe_non))
        pss_nil)
      (pss_cons (ps_set (i := 5) sc_leaf_size.nd rfl (Or.inl rfl) (pe_ifExp (pt_cmpR (op_eqStr hu0) (pv 1) pe_str (nomark _)) (pe_listRg rfl (by rfl) Tl (prg_2 (by rfl) T.range pe_int (pv 4))) (pe_op op_rep (pe_lst (pa_cons (pv 4) pa_nil)) (pe_callB (call_max2 rfl) (by rfl) Tm (by decide +kernel) (pa_cons pe_int (pa_cons (pe_op op_sub (pv 4) pe_int) pa_nil))))))
      (pss_cons (ps_for PassesOwn.never rfl (pi_list (pe_ifExp (pt_cmpR (op_eqStr hu0) (pv 1) pe_str (nomark _)) (pe_lc (own := [("_law_k", 8)]) (g := (gName 8)) (tt := tYes) rfl sc_leaf_size.nd (pi_range1 rfl T.range (pa_cons (pv 4) pa_nil)) (blkOk_by (N := ["_law_thing", "_law_word", "_law_size", "_law_found", "_law_n", "_law_factors", "_law_factor", "_law_name", "_law_k"]) (sc := defScope s_leaf_size) (by decide +kernel))
          (fun _ _ _ _ _ => (pg_name (i := 8) sc_leaf_size.nd rfl (Or.inl rfl))) (fun _ _ _ _ _ => pts_nil) (fun _ _ _ _ _ => (pe_op op_add (pe_op op_mul pe_int (pv 8)) pe_int))) (pv 5))) (pg_name (i := 6) sc_leaf_size.nd rfl (Or.inl rfl))
        (pss_one (ps_set (i := 2) sc_leaf_size.nd rfl (Or.inl rfl) (pe_op op_mulW (pv 2) (pv 6)))))
      (pss_one (ps_ret (pv 2))))))))))))), ?_⟩
    match ds, l1, hx with
    | d0 :: ds, _, .cons (v := x0) (vs := xs) c0 cs =>
     have hl : xs.length = ds.length := cs.len
     refine ⟨_, rfl, a, _, _, x0, rfl, rfl, SqT.of ha, atI_nat (j := 0) rfl, _, _, rfl, ?_⟩
     have words : d0 = .str "subset" ∨ d0 = .str "word" ∨ d0 = .str "arrangement" ∨ d0 = .str "walk" ∨ d0 = .str "string" ∨ d0 = .str "permutation" ∨ d0 = .str "cycle" ∨ d0 = .str "matching" ∨ d0 = .str "tree" ∨ ∀ w ∈ (["subset", "word", "arrangement", "walk", "cycle", "matching", "permutation", "tree", "string"] : List Str), eqStr w d0 = false := by
       cases d0 with
       | str z =>
         by_cases a1 : z = "subset"
         · exact .inl (by rw [a1])
         by_cases a2 : z = "word"
         · exact .inr (.inl (by rw [a2]))
         by_cases a3 : z = "arrangement"
         · exact .inr (.inr (.inl (by rw [a3])))
         by_cases a4 : z = "walk"
         · exact .inr (.inr (.inr (.inl (by rw [a4]))))
         by_cases a5 : z = "string"
         · exact .inr (.inr (.inr (.inr (.inl (by rw [a5])))))
         by_cases a6 : z = "permutation"
         · exact .inr (.inr (.inr (.inr (.inr (.inl (by rw [a6]))))))
         by_cases a7 : z = "cycle"
         · exact .inr (.inr (.inr (.inr (.inr (.inr (.inl (by rw [a7])))))))
         by_cases a8 : z = "matching"
         · exact .inr (.inr (.inr (.inr (.inr (.inr (.inr (.inl (by rw [a8]))))))))
         by_cases a9 : z = "tree"
         · exact .inr (.inr (.inr (.inr (.inr (.inr (.inr (.inr (.inl (by rw [a9])))))))))
         refine .inr (.inr (.inr (.inr (.inr (.inr (.inr (.inr (.inr fun w hw => ?_))))))))
         show (z == w) = false
         refine beq_eq_false_iff_ne.mpr fun e => ?_
         subst e
         simp only [List.mem_cons, List.not_mem_nil, or_false] at hw
         rcases hw with h | h | h | h | h | h | h | h | h
         · exact a1 h
         · exact a2 h
         · exact a3 h
         · exact a4 h
         · exact a7 h
         · exact a8 h
         · exact a6 h
         · exact a9 h
         · exact a5 h
       | _ => exact .inr (.inr (.inr (.inr (.inr (.inr (.inr (.inr (.inr fun w _ => rfl))))))))
     rcases words with rfl | rfl | rfl | rfl | rfl | rfl | rfl | rfl | rfl | nw
     · have eL := leaf_at (ds := ds) (m := 3) (p := pSubset) (show kinds.lookup ("subset" : Str) = some (3, pSubset) from rfl) (show nestW "subset" = false from rfl)
       rw [eL] at q0 q1
       refine ⟨_, rfl, .str "subset", "subset", c0, rfl, _, rfl, if_t rfl ⟨_, rfl, a, _, rfl, .inr (SqT.of ha), rfl, _, rfl, ?_⟩⟩
       rw [dec_int]
       by_cases h3 : ds.length + 1 = 3
       · rw [decide_eq_true (show (((x0 :: xs).length : Nat) : Int) = 3 by rw [List.length_cons]; omega)]
         rw [decide_eq_true h3, Bool.true_and] at q0 q1
         match ds, h3, cs with
         | [d1, d2], _, .cons (v := x1) c1 (.cons (v := x2) c2 .nil) =>
           have eP : pSubset [.str "subset", d1, d2] = (btw 0 400 d1 && btw 0 (intOf d1) d2) := rfl
           rw [eP] at q0 q1
           refine if_t rfl ⟨_, rfl, a, _, _, x1, rfl, rfl, SqT.of ha, atI_nat (j := 1) rfl, x1, d1, 0, 400, rfl, c1, fun H1 S1 => ⟨_, rfl, ?_⟩⟩
           cases b1 : btw 0 400 d1 with
           | false => exact if_f rfl (if_f rfl ⟨_, rfl, .str "subset", "word", c0.same S1, rfl, _, rfl, if_f rfl ⟨_, rfl, .str "subset", "arrangement", c0.same S1, rfl, _, rfl, if_f rfl ⟨_, rfl, .str "subset", "walk", c0.same S1, rfl, _, rfl, if_f rfl ⟨_, rfl, .str "subset", "string", c0.same S1, rfl, _, rfl, if_f rfl ⟨_, rfl, .str "subset", "permutation", c0.same S1, rfl, _, rfl, if_f rfl ⟨_, rfl, (by show 3 ≤ sizeLine; decide), fun p np => ⟨.str "subset", p, ["cycle", "matching", "tree"], (c0.same S1).same (same_new np), rfl, upd_same, _, rfl, if_t rfl (if_t rfl (q0 _ (S1.trans (same_new np)) (by rw [b1]; rfl)))⟩⟩⟩⟩⟩⟩⟩)
           | true =>
             rw [b1, Bool.true_and] at q0 q1
             obtain ⟨n, rfl, n0, n4⟩ := btw_int b1
             obtain rfl := dat_int c1
             refine if_t rfl ⟨_, rfl, a, _, _, x2, rfl, rfl, SqT.of (S1 _ _ ha), atI_nat (j := 2) rfl, _, rfl, a, _, _, V.int n, rfl, rfl, SqT.of (S1 _ _ ha), atI_nat (j := 1) rfl, x2, d2, 0, n, rfl, c2.same S1, fun H2 S2 => ⟨_, rfl, ?_⟩⟩
             have S12 := S1.trans S2
             cases b2 : btw 0 n d2 with
             | false => exact if_f rfl ⟨_, rfl, .str "subset", "word", c0.same S12, rfl, _, rfl, if_f rfl ⟨_, rfl, .str "subset", "arrangement", c0.same S12, rfl, _, rfl, if_f rfl ⟨_, rfl, .str "subset", "walk", c0.same S12, rfl, _, rfl, if_f rfl ⟨_, rfl, .str "subset", "string", c0.same S12, rfl, _, rfl, if_f rfl ⟨_, rfl, .str "subset", "permutation", c0.same S12, rfl, _, rfl, if_f rfl ⟨_, rfl, (by show 3 ≤ sizeLine; decide), fun p np => ⟨.str "subset", p, ["cycle", "matching", "tree"], (c0.same S12).same (same_new np), rfl, upd_same, _, rfl, if_t rfl (if_t rfl (q0 _ (S12.trans (same_new np)) b2))⟩⟩⟩⟩⟩⟩⟩
             | true =>
               obtain ⟨k, rfl, k0, kn⟩ := btw_int b2
               obtain rfl := dat_int c2
               obtain ⟨n', rfl⟩ : ∃ m : Nat, n = m := ⟨n.toNat, by omega⟩
               obtain ⟨k', rfl⟩ : ∃ m : Nat, k = m := ⟨k.toNat, by omega⟩
               exact if_t rfl ⟨_, rfl, a, _, _, V.int n', rfl, rfl, SqT.of (S12 _ _ ha), atI_nat (j := 1) rfl, _, rfl, a, _, _, V.int k', rfl, rfl, SqT.of (S12 _ _ ha), atI_nat (j := 2) rfl, n', k', rfl, by omega, by omega, fun r H3 S3 _ => q1 H3 _ (S12.trans S3) b2⟩
       · rw [decide_eq_false (show ¬ (((x0 :: xs).length : Nat) : Int) = 3 by rw [List.length_cons]; omega)]
         exact if_f rfl (if_f rfl ⟨_, rfl, .str "subset", "word", c0, rfl, _, rfl, if_f rfl ⟨_, rfl, .str "subset", "arrangement", c0, rfl, _, rfl, if_f rfl ⟨_, rfl, .str "subset", "walk", c0, rfl, _, rfl, if_f rfl ⟨_, rfl, .str "subset", "string", c0, rfl, _, rfl, if_f rfl ⟨_, rfl, .str "subset", "permutation", c0, rfl, _, rfl, if_f rfl ⟨_, rfl, (by show 3 ≤ sizeLine; decide), fun p np => ⟨.str "subset", p, ["cycle", "matching", "tree"], (c0).same (same_new np), rfl, upd_same, _, rfl, if_t rfl (if_t rfl (q0 _ (same_new np) (by rw [decide_eq_false h3]; rfl)))⟩⟩⟩⟩⟩⟩⟩)
     · have eL := leaf_at (ds := ds) (m := 2) (p := pWord) (show kinds.lookup ("word" : Str) = some (2, pWord) from rfl) (show nestW "word" = false from rfl)
       rw [eL] at q0 q1
       refine ⟨_, rfl, .str "word", "subset", c0, rfl, _, rfl, if_f rfl (if_f rfl ⟨_, rfl, .str "word", "word", c0, rfl, _, rfl, if_t rfl ⟨_, rfl, a, _, rfl, .inr (SqT.of ha), rfl, _, rfl, ?_⟩⟩)⟩
       rw [dec_int]
       by_cases h2 : ds.length + 1 = 2
       · rw [decide_eq_true (show (((x0 :: xs).length : Nat) : Int) = 2 by rw [List.length_cons]; omega)]
         rw [decide_eq_true h2, Bool.true_and] at q0 q1
         match ds, h2, cs with
         | [d1], _, .cons (v := x1) c1 .nil =>
           exact if_t rfl ⟨_, rfl, a, _, _, x1, rfl, rfl, SqT.of ha, atI_nat (j := 1) rfl, x1, d1, rfl, c1, fun H1 S1 z => q0 H1 S1 z, fun H1 n S1 z => q1 H1 n S1 z⟩
       · rw [decide_eq_false (show ¬ (((x0 :: xs).length : Nat) : Int) = 2 by rw [List.length_cons]; omega)]
         exact if_f rfl (q0 H (Same.refl H) (by rw [decide_eq_false h2]; rfl))
     · have eL := leaf_at (ds := ds) (m := 2) (p := pArr) (show kinds.lookup ("arrangement" : Str) = some (2, pArr) from rfl) (show nestW "arrangement" = false from rfl)
       rw [eL] at q0 q1
       refine ⟨_, rfl, .str "arrangement", "subset", c0, rfl, _, rfl, if_f rfl (if_f rfl ⟨_, rfl, .str "arrangement", "word", c0, rfl, _, rfl, if_f rfl ⟨_, rfl, .str "arrangement", "arrangement", c0, rfl, _, rfl, if_t rfl ⟨_, rfl, a, _, rfl, .inr (SqT.of ha), rfl, _, rfl, ?_⟩⟩⟩)⟩
       rw [dec_int]
       by_cases h2 : ds.length + 1 = 2
       · rw [decide_eq_true (show (((x0 :: xs).length : Nat) : Int) = 2 by rw [List.length_cons]; omega)]
         rw [decide_eq_true h2, Bool.true_and] at q0 q1
         match ds, h2, cs with
         | [d1], _, .cons (v := x1) c1 .nil =>
           have eP : pArr [.str "arrangement", d1] = (orderB 6 d1 && (decide (((namesN 6 d1).length : Int) ≤ 400) && decide ((S2.cnt (namesN 6 d1) (namesN 6 d1).length : Int) = ((namesN 6 d1).length : Int)))) := rfl
           rw [eP] at q0 q1
           have lm1 : nodes d1 ≤ 2400 := by
             rw [nodes_tup, nodesAll, nodesAll, nodesAll] at lm
             omega
           refine if_t rfl ⟨_, rfl, a, _, _, x1, rfl, rfl, SqT.of ha, atI_nat (j := 1) rfl, x1, d1, rfl, by decide, c1, lm1, fun H1 Sa ho => ⟨_, rfl, rfl, _, rfl, if_t rfl (if_t rfl (q0 H1 Sa (by rw [ho]; rfl)))⟩, fun u t sz H1 Sa ho hu ht hsz => ⟨_, rfl, rfl, _, rfl, if_f rfl ?_⟩⟩
           rw [ho, Bool.true_and] at q0 q1
           have n8 := names_nodes 6 d1 ho
           refine ⟨_, rfl, u, _, _, V.ref t, rfl, rfl, SqT.of hu, atI_nat (j := 0) rfl, t, _, rfl, .inl (SqL.of ht), _, _, rfl, rfl, _, rfl, ?_⟩
           rw [List.length_map]
           by_cases h4 : ((namesN 6 d1).length : Int) ≤ 400
           · rw [decide_eq_true h4, Bool.true_and] at q0 q1
             refine if_f (decide_eq_false (by omega)) ⟨_, rfl, u, _, _, V.ref t, rfl, rfl, SqT.of hu, atI_nat (j := 0) rfl, t, rfl, ⟨_, SqL.of ht⟩, fun D nD => lc_tups (walk_list (K := K) (a := t) (xs := (namesN 6 d1).map V.str)) (i := 7) (fun j => [((namesN 6 d1).map V.str).getD j .non, V.bl true]) (fun Hx S => SqL.of (S _ _ ht)) (by rw [List.length_map]; omega) nD (fun j x Hx N hj hxj S hN => ?_) fun H2 bs Sb hD hbl hbs => ?_⟩
             · have g : ((namesN 6 d1).map V.str).getD j .non = x := by rw [List.getD_eq_getElem?_getD, hxj]; rfl
               refine ⟨rfl, _, rfl, (by show 2 ≤ sizeLine; decide), fun p np => hN p _ (same_new np) ?_⟩
               rw [upd_same, g]
             rw [List.length_map] at hbl
             refine ⟨D, bs, textKv (namesN 6 d1), rfl, SqL.of hD, paired_of (by unfold textKv; rw [List.length_map]; omega) fun i p kv hp hkv => ?_, fun pd npd => ?_⟩
             · have hp2 := hbs i p hp
               have hi : i < (namesN 6 d1).length := by
                 have := (List.getElem?_eq_some_iff.mp hp).1
                 omega
               have hni : (namesN 6 d1)[i]? = some (namesN 6 d1)[i] := List.getElem?_eq_getElem hi
               unfold textKv at hkv
               rw [List.getElem?_map, hni] at hkv
               have ek := Option.some.inj hkv
               have g : ((namesN 6 d1).map V.str).getD i .non = V.str (namesN 6 d1)[i] := by rw [List.getD_eq_getElem?_getD, List.getElem?_map, hni]; rfl
               rw [g] at hp2
               rw [← ek]
               exact SqT.of hp2
             have Sd := Sb.trans (same_new (o := HO.dK (mergeK [] (textKv (namesN 6 d1)))) npd)
             have hpd : upd H2 pd (.dK (mergeK [] (textKv (namesN 6 d1)))) pd = some (.dK (mergeK [] (textKv (namesN 6 d1)))) := upd_same
             generalize upd H2 pd (.dK (mergeK [] (textKv (namesN 6 d1)))) = H3 at Sd hpd ⊢
             have S3 := Sa.trans Sd
             refine ⟨pd, _, rfl, hpd, _, rfl, u, _, _, V.ref t, rfl, rfl, SqT.of (Sd _ _ hu), atI_nat (j := 0) rfl, t, _, rfl, .inl (SqL.of (Sd _ _ ht)), rfl, _, rfl, ?_⟩
             rw [dec_int, merge_all, List.length_map]
             cases hc : decide ((S2.cnt (namesN 6 d1) (namesN 6 d1).length : Int) = ((namesN 6 d1).length : Int)) with
             | false => exact if_t rfl (q0 H3 S3 hc)
             | true => exact if_f rfl ⟨_, rfl, u, _, _, V.int sz, rfl, rfl, SqT.of (Sd _ _ hu), atI_nat (j := 1) rfl, q1 H3 _ S3 hc⟩
           · refine if_t (decide_eq_true (by omega)) (if_t rfl (q0 H1 Sa ?_))
             rw [decide_eq_false h4]
             rfl
       · rw [decide_eq_false (show ¬ (((x0 :: xs).length : Nat) : Int) = 2 by rw [List.length_cons]; omega)]
         exact if_f rfl ⟨_, rfl, rfl, _, rfl, if_t rfl (if_t rfl (q0 H (Same.refl H) (by rw [decide_eq_false h2]; rfl)))⟩
     · have eL := leaf_at (ds := ds) (m := 6) (p := pWalk) (show kinds.lookup ("walk" : Str) = some (6, pWalk) from rfl) (show nestW "walk" = false from rfl)
       rw [eL] at q0 q1
       exact ⟨_, rfl, .str "walk", "subset", c0, rfl, _, rfl, if_f rfl (if_f rfl ⟨_, rfl, .str "walk", "word", c0, rfl, _, rfl, if_f rfl ⟨_, rfl, .str "walk", "arrangement", c0, rfl, _, rfl, if_f rfl ⟨_, rfl, .str "walk", "walk", c0, rfl, _, rfl, if_t rfl (if_t rfl ⟨_, rfl, .str "walk", "walk", c0, rfl, _, rfl, if_t rfl ⟨_, rfl, a, x0 :: xs, .str "walk" :: ds, rfl, ha, .cons c0 cs, (by rw [List.length_cons]; omega), lm, fun H1 S1 z => q0 H1 S1 z, fun H1 n S1 z => q1 H1 n S1 z⟩⟩)⟩⟩⟩)⟩
     · have eL := leaf_at (ds := ds) (m := 3) (p := pString) (show kinds.lookup ("string" : Str) = some (3, pString) from rfl) (show nestW "string" = false from rfl)
       rw [eL] at q0 q1
       exact ⟨_, rfl, .str "string", "subset", c0, rfl, _, rfl, if_f rfl (if_f rfl ⟨_, rfl, .str "string", "word", c0, rfl, _, rfl, if_f rfl ⟨_, rfl, .str "string", "arrangement", c0, rfl, _, rfl, if_f rfl ⟨_, rfl, .str "string", "walk", c0, rfl, _, rfl, if_f rfl ⟨_, rfl, .str "string", "string", c0, rfl, _, rfl, if_t rfl ⟨_, rfl, .str "string", "walk", c0, rfl, _, rfl, if_f rfl ⟨_, rfl, a, x0 :: xs, .str "string" :: ds, rfl, ha, .cons c0 cs, (by rw [List.length_cons]; omega), lm, fun H1 S1 z => q0 H1 S1 z, fun H1 n S1 z => q1 H1 n S1 z⟩⟩⟩⟩⟩⟩)⟩
     · have eL := leaf_at (ds := ds) (m := 3) (p := pPerm) (show kinds.lookup ("permutation" : Str) = some (3, pPerm) from rfl) (show nestW "permutation" = false from rfl)
       rw [eL] at q0 q1
       exact ⟨_, rfl, .str "permutation", "subset", c0, rfl, _, rfl, if_f rfl (if_f rfl ⟨_, rfl, .str "permutation", "word", c0, rfl, _, rfl, if_f rfl ⟨_, rfl, .str "permutation", "arrangement", c0, rfl, _, rfl, if_f rfl ⟨_, rfl, .str "permutation", "walk", c0, rfl, _, rfl, if_f rfl ⟨_, rfl, .str "permutation", "string", c0, rfl, _, rfl, if_f rfl ⟨_, rfl, .str "permutation", "permutation", c0, rfl, _, rfl, if_t rfl ⟨_, rfl, a, x0 :: xs, .str "permutation" :: ds, rfl, ha, .cons c0 cs, (by rw [List.length_cons]; omega), lm, fun H1 S1 z => q0 H1 S1 z, fun H1 n S1 z => q1 H1 n S1 z⟩⟩⟩⟩⟩⟩)⟩
     · have eL := leaf_at (ds := ds) (m := 2) (p := pCycle) (show kinds.lookup ("cycle" : Str) = some (2, pCycle) from rfl) (show nestW "cycle" = false from rfl)
       rw [eL] at q0 q1
       refine ⟨_, rfl, .str "cycle", "subset", c0, rfl, _, rfl, if_f rfl (if_f rfl ⟨_, rfl, .str "cycle", "word", c0, rfl, _, rfl, if_f rfl ⟨_, rfl, .str "cycle", "arrangement", c0, rfl, _, rfl, if_f rfl ⟨_, rfl, .str "cycle", "walk", c0, rfl, _, rfl, if_f rfl ⟨_, rfl, .str "cycle", "string", c0, rfl, _, rfl, if_f rfl ⟨_, rfl, .str "cycle", "permutation", c0, rfl, _, rfl, if_f rfl ⟨_, rfl, (by show 3 ≤ sizeLine; decide), fun p np => ⟨.str "cycle", p, ["cycle", "matching", "tree"], c0.same (same_new np), rfl, upd_same, _, rfl, if_f rfl ?_⟩⟩⟩⟩⟩⟩⟩)⟩
       have Sp := same_new (o := HO.tup [V.str "cycle", V.str "matching", V.str "tree"]) np
       generalize upd H p (.tup [V.str "cycle", V.str "matching", V.str "tree"]) = H1 at Sp ⊢
       refine ⟨_, rfl, a, _, rfl, .inr (SqT.of (Sp _ _ ha)), rfl, _, rfl, ?_⟩
       rw [dec_int]
       by_cases h2 : ds.length + 1 = 2
       · rw [decide_eq_true (show (((x0 :: xs).length : Nat) : Int) = 2 by rw [List.length_cons]; omega)]
         rw [decide_eq_true h2, Bool.true_and] at q0 q1
         match ds, h2, cs with
         | [d1], _, .cons (v := x1) c1 .nil =>
           cases c0 with
           | str _ hz =>
             have cW : ∀ Hx, Dat Hx (.str "cycle") (.str "cycle") := fun Hx => .str _ hz
             refine if_f rfl ⟨_, rfl, a, _, _, x1, rfl, rfl, SqT.of (Sp _ _ ha), atI_nat (j := 1) rfl, _, rfl, _, rfl, rfl, .inr ⟨_, rfl, _, rfl, .str "cycle", "matching", cW _, rfl, _, rfl, if_f rfl ⟨x1, d1, 1, 400, rfl, c1.same Sp, fun H2 S2 => ⟨_, rfl, ?_⟩⟩⟩⟩
             have S12 := Sp.trans S2
             cases hb : btw 1 400 d1 with
             | false => exact if_t rfl (q0 H2 S12 hb)
             | true =>
               obtain ⟨n, rfl, n0, n4⟩ := btw_int hb
               obtain rfl := dat_int c1
               obtain ⟨m, rfl⟩ : ∃ m : Nat, n = m := ⟨n.toNat, by omega⟩
               have qq : ∀ (H' : Hp) (k : Int), Same H H' → Q (.int k) H' := fun H' k S => q1 H' k S hb
               refine if_f rfl ?_
               refine ⟨_, rfl, .str "cycle", "cycle", cW _, rfl, _, rfl, if_t rfl ⟨_, rfl, 1, (m : Int), rfl, rfl, ⟨by omega, by omega, by omega, by omega, by omega⟩, fun L nL => ?_⟩⟩
               have eR : rgV 1 (m : Int) = vints ((List.range ((m : Int) - 1).toNat).map fun i => 1 + i) := by
                 unfold rgV vints
                 rw [List.map_map]
                 refine List.map_congr_left fun k _ => ?_
                 show V.int (1 + (k : Int)) = V.int (((1 + k : Nat) : Nat) : Int)
                 congr 1
               rw [eR]
               have hL : upd H2 L (.lst (vints ((List.range ((m : Int) - 1).toNat).map fun i => 1 + i))) L = some (.lst (vints ((List.range ((m : Int) - 1).toNat).map fun i => 1 + i))) := upd_same
               have SL := S12.trans (same_new (o := HO.lst (vints ((List.range ((m : Int) - 1).toNat).map fun i => 1 + i))) nL)
               have bn : ∀ k ∈ (List.range ((m : Int) - 1).toNat).map (fun i => 1 + i), k ≤ 512 := fun k hk => by
                 obtain ⟨i, hi, rfl⟩ := List.mem_map.mp hk
                 have := List.mem_range.mp hi
                 omega
               have ln : ((List.range ((m : Int) - 1).toNat).map fun i => 1 + i).length ≤ 500 := by
                 rw [List.length_map, List.length_range]
                 omega
               generalize (List.range ((m : Int) - 1).toNat).map (fun i => 1 + i) = ns at hL SL bn ln ⊢
               generalize upd H2 L (.lst (vints ns)) = H5 at hL SL ⊢
               refine ⟨_, rfl, .str "cycle", "matching", cW _, rfl, _, rfl, if_f rfl ⟨_, rfl, L, rfl, ⟨_, SqL.of hL⟩, ?_⟩⟩
               refine for_list (K := K) (a := L) (xs := vints ns) (fun i σ Hx => ∃ (sz : Nat) (y0 y1 y3 y4 y5 y6 y7 y8 : Option V), σ = [y0, y1, some (.int (sz : Nat)), y3, y4, y5, y6, y7, y8] ∧ Hx = H5 ∧ sz ≤ 512 ^ i) ⟨1, _, _, _, _, _, _, _, _, rfl, rfl, Nat.le_refl _⟩ (fun i σ Hx _ ⟨_, _, _, _, _, _, _, _, _, _, e, _⟩ => by rw [e]; exact SqL.of hL) ?_ ?_
               · rintro i y σ Hx hi ⟨sz, y0, y1, y3, y4, y5, y6, y7, y8, rfl, rfl, hsz⟩
                 have hi2 : i < ns.length := by
                   have := (List.getElem?_eq_some_iff.mp hi).1
                   rw [vints_len] at this
                   exact this
                 have ey : y = V.int ((ns[i] : Nat) : Int) := by
                   unfold vints at hi
                   rw [List.getElem?_map, List.getElem?_eq_getElem hi2] at hi
                   exact (Option.some.inj hi).symm
                 subst ey
                 have bk := bn ns[i] (List.getElem_mem hi2)
                 have b1 : sz ≤ 2 ^ (9 * i) := Nat.le_trans hsz (pow_bits (by decide))
                 have b2 : (2 : Nat) ^ (9 * i) < 2 ^ 5000 := Nat.pow_lt_pow_right (by decide) (by omega)
                 refine ⟨_, rfl, _, rfl, _, _, rfl, rfl, wide_mul (a := 5000) (b := 10) (by rw [Int.natAbs_natCast]; omega) (by rw [Int.natAbs_natCast]; omega) (by decide) (by decide) (by decide), sz * ns[i], y0, y1, y3, y4, y5, some (V.int ((ns[i] : Nat) : Int)), y7, y8, ?_, rfl, ?_⟩
                 · show [y0, y1, some (V.int ((sz : Int) * ((ns[i] : Nat) : Int))), y3, y4, y5, some (V.int ((ns[i] : Nat) : Int)), y7, y8] = _
                   rw [Int.natCast_mul]
                 · rw [Nat.pow_succ]
                   exact Nat.mul_le_mul hsz bk
               · rintro σ Hx ⟨sz, y0, y1, y3, y4, y5, y6, y7, y8, rfl, rfl, hsz⟩
                 exact ⟨_, rfl, qq Hx sz SL⟩
       · rw [decide_eq_false (show ¬ (((x0 :: xs).length : Nat) : Int) = 2 by rw [List.length_cons]; omega)]
         exact if_t rfl (q0 H1 Sp (by rw [decide_eq_false h2]; rfl))
     · have eL := leaf_at (ds := ds) (m := 2) (p := pMatching) (show kinds.lookup ("matching" : Str) = some (2, pMatching) from rfl) (show nestW "matching" = false from rfl)
       rw [eL] at q0 q1
       refine ⟨_, rfl, .str "matching", "subset", c0, rfl, _, rfl, if_f rfl (if_f rfl ⟨_, rfl, .str "matching", "word", c0, rfl, _, rfl, if_f rfl ⟨_, rfl, .str "matching", "arrangement", c0, rfl, _, rfl, if_f rfl ⟨_, rfl, .str "matching", "walk", c0, rfl, _, rfl, if_f rfl ⟨_, rfl, .str "matching", "string", c0, rfl, _, rfl, if_f rfl ⟨_, rfl, .str "matching", "permutation", c0, rfl, _, rfl, if_f rfl ⟨_, rfl, (by show 3 ≤ sizeLine; decide), fun p np => ⟨.str "matching", p, ["cycle", "matching", "tree"], c0.same (same_new np), rfl, upd_same, _, rfl, if_f rfl ?_⟩⟩⟩⟩⟩⟩⟩)⟩
       have Sp := same_new (o := HO.tup [V.str "cycle", V.str "matching", V.str "tree"]) np
       generalize upd H p (.tup [V.str "cycle", V.str "matching", V.str "tree"]) = H1 at Sp ⊢
       refine ⟨_, rfl, a, _, rfl, .inr (SqT.of (Sp _ _ ha)), rfl, _, rfl, ?_⟩
       rw [dec_int]
       by_cases h2 : ds.length + 1 = 2
       · rw [decide_eq_true (show (((x0 :: xs).length : Nat) : Int) = 2 by rw [List.length_cons]; omega)]
         rw [decide_eq_true h2, Bool.true_and] at q0 q1
         match ds, h2, cs with
         | [d1], _, .cons (v := x1) c1 .nil =>
           cases c0 with
           | str _ hz =>
             have cW : ∀ Hx, Dat Hx (.str "matching") (.str "matching") := fun Hx => .str _ hz
             refine if_f rfl ⟨_, rfl, a, _, _, x1, rfl, rfl, SqT.of (Sp _ _ ha), atI_nat (j := 1) rfl, _, rfl, _, rfl, rfl, .inr ⟨_, rfl, _, rfl, .str "matching", "matching", cW _, rfl, _, rfl, if_t rfl ⟨x1, d1, 0, 200, rfl, c1.same Sp, fun H2 S2 => ⟨_, rfl, ?_⟩⟩⟩⟩
             have S12 := Sp.trans S2
             cases hb : btw 0 200 d1 with
             | false => exact if_t rfl (q0 H2 S12 hb)
             | true =>
               obtain ⟨n, rfl, n0, n4⟩ := btw_int hb
               obtain rfl := dat_int c1
               obtain ⟨m, rfl⟩ : ∃ m : Nat, n = m := ⟨n.toNat, by omega⟩
               have qq : ∀ (H' : Hp) (k : Int), Same H H' → Q (.int k) H' := fun H' k S => q1 H' k S hb
               refine if_f rfl ?_
               refine ⟨_, rfl, .str "matching", "cycle", cW _, rfl, _, rfl, if_f rfl ⟨_, rfl, (by show 1 ≤ sizeLine; decide), fun u nu => ⟨_, rfl, _, _, rfl, rfl, _, _, rfl, u, _, _, rfl, rfl, upd_same, ?_, ?_, ?_, fun L nL => ?_⟩⟩⟩
               · show -(2 ^ 63) ≤ (if (m : Int) - 2 > 0 then (m : Int) - 2 else 0)
                 split <;> omega
               · show (if (m : Int) - 2 > 0 then (m : Int) - 2 else 0) < 2 ^ 63
                 split <;> omega
               · show 1 * (if (m : Int) - 2 > 0 then (m : Int) - 2 else 0).toNat ≤ sizeLine
                 rw [sizeLine_eq]
                 split <;> omega
               have SL0 := (S12.trans (same_new (o := HO.lst [V.int (m : Int)]) nu)).trans (same_new (o := HO.lst (List.replicate (if (m : Int) - 2 > 0 then (m : Int) - 2 else 0).toNat [V.int (m : Int)]).flatten) nL)
               generalize upd (upd H2 u (.lst [V.int (m : Int)])) L (.lst (List.replicate (if (m : Int) - 2 > 0 then (m : Int) - 2 else 0).toNat [V.int (m : Int)]).flatten) = H4 at SL0 ⊢
               refine ⟨_, rfl, .str "matching", "matching", cW _, rfl, _, rfl, if_t rfl ⟨_, rfl, (m : Int), rfl, by omega, by omega, fun D nD => lc_it (walk_range (lo := 0) (n := ((m : Nat) : Int).toNat)) (fun j Hx => Same H4 Hx ∧ ∃ ns : List Nat, Hx D = some (.lst (vints ns)) ∧ ns.length = j ∧ ∀ k ∈ ns, k ≤ 512) ⟨same_new nD, [], upd_same, rfl, by simp⟩ (fun _ _ _ _ => trivial) ?_ ?_⟩⟩
               · rintro j y Hx Hy hj ⟨Sx, ns, hD, hl2, hk⟩ ⟨rfl, rfl⟩
                 refine ⟨rfl, _, rfl, _, _, rfl, rfl, .inl ⟨by decide, by decide⟩, _, _, rfl, rfl, _, hD, ?_, grow nD Sx, ns ++ [2 * j + 1], ?_, ?_, ?_⟩
                 · rw [vints_len, sizeLine_eq]
                   omega
                 · rw [upd_same, ← vints_app]
                   congr 3
                   show [V.int (2 * (0 + (j : Int)) + 1)] = [V.int ((2 * j + 1 : Nat) : Int)]
                   congr 2
                   omega
                 · rw [List.length_append, hl2]
                   rfl
                 · intro k hk2
                   rcases List.mem_append.mp hk2 with z | z
                   · exact hk k z
                   · rw [List.mem_singleton.mp z]
                     omega
               rintro H5 ⟨S5, ns, hL, hl2, bn⟩
               have SL := SL0.trans S5
               have ln : ns.length ≤ 500 := by omega
               refine ⟨D, rfl, ⟨_, SqL.of hL⟩, ?_⟩
               refine for_list (K := K) (a := D) (xs := vints ns) (fun i σ Hx => ∃ (sz : Nat) (y0 y1 y3 y4 y5 y6 y7 y8 : Option V), σ = [y0, y1, some (.int (sz : Nat)), y3, y4, y5, y6, y7, y8] ∧ Hx = H5 ∧ sz ≤ 512 ^ i) ⟨1, _, _, _, _, _, _, _, _, rfl, rfl, Nat.le_refl _⟩ (fun i σ Hx _ ⟨_, _, _, _, _, _, _, _, _, _, e, _⟩ => by rw [e]; exact SqL.of hL) ?_ ?_
               · rintro i y σ Hx hi ⟨sz, y0, y1, y3, y4, y5, y6, y7, y8, rfl, rfl, hsz⟩
                 have hi2 : i < ns.length := by
                   have := (List.getElem?_eq_some_iff.mp hi).1
                   rw [vints_len] at this
                   exact this
                 have ey : y = V.int ((ns[i] : Nat) : Int) := by
                   unfold vints at hi
                   rw [List.getElem?_map, List.getElem?_eq_getElem hi2] at hi
                   exact (Option.some.inj hi).symm
                 subst ey
                 have bk := bn ns[i] (List.getElem_mem hi2)
                 have b1 : sz ≤ 2 ^ (9 * i) := Nat.le_trans hsz (pow_bits (by decide))
                 have b2 : (2 : Nat) ^ (9 * i) < 2 ^ 5000 := Nat.pow_lt_pow_right (by decide) (by omega)
                 refine ⟨_, rfl, _, rfl, _, _, rfl, rfl, wide_mul (a := 5000) (b := 10) (by rw [Int.natAbs_natCast]; omega) (by rw [Int.natAbs_natCast]; omega) (by decide) (by decide) (by decide), sz * ns[i], y0, y1, y3, y4, y5, some (V.int ((ns[i] : Nat) : Int)), y7, y8, ?_, rfl, ?_⟩
                 · show [y0, y1, some (V.int ((sz : Int) * ((ns[i] : Nat) : Int))), y3, y4, y5, some (V.int ((ns[i] : Nat) : Int)), y7, y8] = _
                   rw [Int.natCast_mul]
                 · rw [Nat.pow_succ]
                   exact Nat.mul_le_mul hsz bk
               · rintro σ Hx ⟨sz, y0, y1, y3, y4, y5, y6, y7, y8, rfl, rfl, hsz⟩
                 exact ⟨_, rfl, qq Hx sz SL⟩
       · rw [decide_eq_false (show ¬ (((x0 :: xs).length : Nat) : Int) = 2 by rw [List.length_cons]; omega)]
         exact if_t rfl (q0 H1 Sp (by rw [decide_eq_false h2]; rfl))
     · have eL := leaf_at (ds := ds) (m := 2) (p := pTree) (show kinds.lookup ("tree" : Str) = some (2, pTree) from rfl) (show nestW "tree" = false from rfl)
       rw [eL] at q0 q1
       refine ⟨_, rfl, .str "tree", "subset", c0, rfl, _, rfl, if_f rfl (if_f rfl ⟨_, rfl, .str "tree", "word", c0, rfl, _, rfl, if_f rfl ⟨_, rfl, .str "tree", "arrangement", c0, rfl, _, rfl, if_f rfl ⟨_, rfl, .str "tree", "walk", c0, rfl, _, rfl, if_f rfl ⟨_, rfl, .str "tree", "string", c0, rfl, _, rfl, if_f rfl ⟨_, rfl, .str "tree", "permutation", c0, rfl, _, rfl, if_f rfl ⟨_, rfl, (by show 3 ≤ sizeLine; decide), fun p np => ⟨.str "tree", p, ["cycle", "matching", "tree"], c0.same (same_new np), rfl, upd_same, _, rfl, if_f rfl ?_⟩⟩⟩⟩⟩⟩⟩)⟩
       have Sp := same_new (o := HO.tup [V.str "cycle", V.str "matching", V.str "tree"]) np
       generalize upd H p (.tup [V.str "cycle", V.str "matching", V.str "tree"]) = H1 at Sp ⊢
       refine ⟨_, rfl, a, _, rfl, .inr (SqT.of (Sp _ _ ha)), rfl, _, rfl, ?_⟩
       rw [dec_int]
       by_cases h2 : ds.length + 1 = 2
       · rw [decide_eq_true (show (((x0 :: xs).length : Nat) : Int) = 2 by rw [List.length_cons]; omega)]
         rw [decide_eq_true h2, Bool.true_and] at q0 q1
         match ds, h2, cs with
         | [d1], _, .cons (v := x1) c1 .nil =>
           cases c0 with
           | str _ hz =>
             have cW : ∀ Hx, Dat Hx (.str "tree") (.str "tree") := fun Hx => .str _ hz
             refine if_f rfl ⟨_, rfl, a, _, _, x1, rfl, rfl, SqT.of (Sp _ _ ha), atI_nat (j := 1) rfl, _, rfl, _, rfl, rfl, .inr ⟨_, rfl, _, rfl, .str "tree", "matching", cW _, rfl, _, rfl, if_f rfl ⟨x1, d1, 1, 400, rfl, c1.same Sp, fun H2 S2 => ⟨_, rfl, ?_⟩⟩⟩⟩
             have S12 := Sp.trans S2
             cases hb : btw 1 400 d1 with
             | false => exact if_t rfl (q0 H2 S12 hb)
             | true =>
               obtain ⟨n, rfl, n0, n4⟩ := btw_int hb
               obtain rfl := dat_int c1
               obtain ⟨m, rfl⟩ : ∃ m : Nat, n = m := ⟨n.toNat, by omega⟩
               have qq : ∀ (H' : Hp) (k : Int), Same H H' → Q (.int k) H' := fun H' k S => q1 H' k S hb
               refine if_f rfl ?_
               refine ⟨_, rfl, .str "tree", "cycle", cW _, rfl, _, rfl, if_f rfl ⟨_, rfl, (by show 1 ≤ sizeLine; decide), fun u nu => ⟨_, rfl, _, _, rfl, rfl, _, _, rfl, u, _, _, rfl, rfl, upd_same, ?_, ?_, ?_, fun L nL => ?_⟩⟩⟩
               · show -(2 ^ 63) ≤ (if (m : Int) - 2 > 0 then (m : Int) - 2 else 0)
                 split <;> omega
               · show (if (m : Int) - 2 > 0 then (m : Int) - 2 else 0) < 2 ^ 63
                 split <;> omega
               · show 1 * (if (m : Int) - 2 > 0 then (m : Int) - 2 else 0).toNat ≤ sizeLine
                 rw [sizeLine_eq]
                 split <;> omega
               have eR : (List.replicate (if (m : Int) - 2 > 0 then (m : Int) - 2 else 0).toNat [V.int (m : Int)]).flatten = vints (List.replicate (if (m : Int) - 2 > 0 then (m : Int) - 2 else 0).toNat m) := by
                 generalize (if (m : Int) - 2 > 0 then (m : Int) - 2 else 0).toNat = k
                 induction k with
                 | zero => rfl
                 | succ k ih =>
                   rw [List.replicate_succ, List.flatten_cons, ih, List.replicate_succ]
                   rfl
               have km : (if (m : Int) - 2 > 0 then (m : Int) - 2 else 0).toNat ≤ 500 := by split <;> omega
               generalize (if (m : Int) - 2 > 0 then (m : Int) - 2 else 0).toNat = k at nL eR km ⊢
               rw [eR]
               have Su := same_new (o := HO.lst [V.int (m : Int)]) nu
               generalize upd H2 u (.lst [V.int (m : Int)]) = H4 at Su nL ⊢
               have hL : upd H4 L (.lst (vints (List.replicate k m))) L = some (.lst (vints (List.replicate k m))) := upd_same
               have SL := (S12.trans Su).trans (same_new (o := HO.lst (vints (List.replicate k m))) nL)
               have bn : ∀ j ∈ List.replicate k m, j ≤ 512 := fun j hj => by
                 rw [(List.mem_replicate.mp hj).2]
                 omega
               have ln : (List.replicate k m).length ≤ 500 := by
                 rw [List.length_replicate]
                 exact km
               generalize List.replicate k m = ns at hL SL bn ln ⊢
               generalize upd H4 L (.lst (vints ns)) = H5 at hL SL ⊢
               refine ⟨_, rfl, .str "tree", "matching", cW _, rfl, _, rfl, if_f rfl ⟨_, rfl, L, rfl, ⟨_, SqL.of hL⟩, ?_⟩⟩
               refine for_list (K := K) (a := L) (xs := vints ns) (fun i σ Hx => ∃ (sz : Nat) (y0 y1 y3 y4 y5 y6 y7 y8 : Option V), σ = [y0, y1, some (.int (sz : Nat)), y3, y4, y5, y6, y7, y8] ∧ Hx = H5 ∧ sz ≤ 512 ^ i) ⟨1, _, _, _, _, _, _, _, _, rfl, rfl, Nat.le_refl _⟩ (fun i σ Hx _ ⟨_, _, _, _, _, _, _, _, _, _, e, _⟩ => by rw [e]; exact SqL.of hL) ?_ ?_
               · rintro i y σ Hx hi ⟨sz, y0, y1, y3, y4, y5, y6, y7, y8, rfl, rfl, hsz⟩
                 have hi2 : i < ns.length := by
                   have := (List.getElem?_eq_some_iff.mp hi).1
                   rw [vints_len] at this
                   exact this
                 have ey : y = V.int ((ns[i] : Nat) : Int) := by
                   unfold vints at hi
                   rw [List.getElem?_map, List.getElem?_eq_getElem hi2] at hi
                   exact (Option.some.inj hi).symm
                 subst ey
                 have bk := bn ns[i] (List.getElem_mem hi2)
                 have b1 : sz ≤ 2 ^ (9 * i) := Nat.le_trans hsz (pow_bits (by decide))
                 have b2 : (2 : Nat) ^ (9 * i) < 2 ^ 5000 := Nat.pow_lt_pow_right (by decide) (by omega)
                 refine ⟨_, rfl, _, rfl, _, _, rfl, rfl, wide_mul (a := 5000) (b := 10) (by rw [Int.natAbs_natCast]; omega) (by rw [Int.natAbs_natCast]; omega) (by decide) (by decide) (by decide), sz * ns[i], y0, y1, y3, y4, y5, some (V.int ((ns[i] : Nat) : Int)), y7, y8, ?_, rfl, ?_⟩
                 · show [y0, y1, some (V.int ((sz : Int) * ((ns[i] : Nat) : Int))), y3, y4, y5, some (V.int ((ns[i] : Nat) : Int)), y7, y8] = _
                   rw [Int.natCast_mul]
                 · rw [Nat.pow_succ]
                   exact Nat.mul_le_mul hsz bk
               · rintro σ Hx ⟨sz, y0, y1, y3, y4, y5, y6, y7, y8, rfl, rfl, hsz⟩
                 exact ⟨_, rfl, qq Hx sz SL⟩
       · rw [decide_eq_false (show ¬ (((x0 :: xs).length : Nat) : Int) = 2 by rw [List.length_cons]; omega)]
         exact if_t rfl (q0 H1 Sp (by rw [decide_eq_false h2]; rfl))
     · refine ⟨_, rfl, d0, "subset", c0, rfl, _, rfl, if_f (nw "subset" (by simp)) (if_f rfl ⟨_, rfl, d0, "word", c0, rfl, _, rfl, if_f (nw "word" (by simp)) ⟨_, rfl, d0, "arrangement", c0, rfl, _, rfl, if_f (nw "arrangement" (by simp)) ⟨_, rfl, d0, "walk", c0, rfl, _, rfl, if_f (nw "walk" (by simp)) ⟨_, rfl, d0, "string", c0, rfl, _, rfl, if_f (nw "string" (by simp)) ⟨_, rfl, d0, "permutation", c0, rfl, _, rfl, if_f (nw "permutation" (by simp)) ⟨_, rfl, (by show 3 ≤ sizeLine; decide), fun p np => ⟨d0, p, ["cycle", "matching", "tree"], c0.same (same_new np), rfl, upd_same, _, rfl, if_t ?_ (if_t rfl (q0 _ (same_new np) (leaf_none nw)))⟩⟩⟩⟩⟩⟩⟩)⟩
       show (!(["cycle", "matching", "tree"] : List Str).any fun z => eqStr z d0) = true
       rw [List.any_cons, List.any_cons, List.any_cons, List.any_nil, nw "cycle" (by simp), nw "matching" (by simp), nw "tree" (by simp)]
       rfl
end
end K2
set_option maxRecDepth 100000
set_option maxHeartbeats 4000000
namespace K2
open PySem PySem.Spec PyProof.Rows L2
/-! ### is_space of a value without nested words -/
abbrev s_is_space : Stmt := top 74
theorem wfB_nil : ∀ (k p : Nat), p ≤ 40 → wfB k p [] = true
  | 0, _, _ => rfl
  | k + 1, p, h => by
    rw [wfB, if_neg (by simp only [List.length_nil]; omega), if_neg (by simp), List.flatMap_nil]
    exact wfB_nil k _ (by simpa using h)
theorem wf_leaf {d : PyData} (h : leafD d = true) : isWf d = partB d := by
  unfold isWf
  rw [wfB, if_neg (by simp)]
  cases hp : partB d with
  | false => rw [if_pos (by simp [hp])]
  | true =>
    rw [if_neg (by simp [hp]), List.flatMap_cons, leaf_nest hp h, List.flatMap_nil, List.nil_append]
    exact wfB_nil _ _ (by simp)
/-- what is_space says of a value without nested words at its head -/
def spSpace : Sp := fun vs H Q _ => ∃ (v : V) (d : PyData), vs = [v] ∧ Dat H v d ∧ leafD d = true ∧ ∀ H', Same H H' → Q (.bl (leafB d)) H'
section
variable {P : Program} {w : World} {K : PySem.W.Frag} {mg : Str → Option Value} {base : Heap}
theorem scis_space : FnScope ["value"] ["value"] (defScope s_is_space) := ⟨rfl, rfl, rfl, by decide +kernel, rfl, by decide +kernel, by decide +kernel⟩
theorem ok_space {f fW fM fR : Addr} {fd fdW fdM fdR : FuncData} (F : Fun K "is_space" "is_space" s_is_space f fd) (C : Cst mg)
    (W : DefOk K mg "is_well_formed" sWell ["value"] fW fdW) (GW : FnOk P w K mg base CX0 12 fW fdW ["value"] (spP isWf))
    (M : DefOk K mg "measure" sMeasure ["space", "bound"] fM fdM) (GM : FnOk P w K mg base CX0 11 fM fdM ["space", "bound"] spMeasure)
    (R : DefOk K mg "raise_to" sRaise ["base", "exponent"] fR fdR) : FnOk P w K mg base CX0 13 f fd ["value"] spSpace := by
  have GR : FnOk P w K mg base CX0 1 fR fdR ["base", "exponent"] spRaise := ok_raise R.F
  obtain ⟨t, z⟩ := C.digits
  refine F.ok scis_space (fun vs H Q E h => ?_) (fun cdv A outer s H vs Q E hr h => ?_)
  · obtain ⟨v, d, rfl, _⟩ := h
    rfl
  · obtain ⟨v, d, rfl, hd, hl, q⟩ := h
    have hr11 : Room 11 _ := hr.mono (by decide)
    have hr1 : Room 1 _ := hr.mono (by decide)
    refine ⟨_, (pss_cons (ps_if (pt_not (pt_val (pe_call GW hr rfl W.g W.F.kp W.b .nil pass0 (pa_cons (pv 0) pa_nil))))
        (pss_one (ps_ret pe_bl))
        pss_nil)
      (pss_one (ps_ret (pe_cmpR op_notN (pe_call GM hr11 rfl M.g M.F.kp M.b .nil pass0 (pa_cons (pv 0) (pa_cons (pe_call GR hr1 rfl R.g R.F.kp R.b .nil pass0 (pa_cons pe_int (pa_cons (pe_glob (v := .int 4000) rfl z ⟨_, rfl⟩) pa_nil))) pa_nil))) pe_non (nomark _))))), ?_⟩
    have eL : leafB d = partB d := by
      unfold leafB
      rw [hl, Bool.and_true]
    refine ⟨_, rfl, v, d, rfl, hd, fun H1 S1 => ?_⟩
    rw [wf_leaf hl]
    cases hp : partB d with
    | false =>
      refine ⟨_, rfl, if_t rfl ?_⟩
      have q1 := q H1 S1
      rw [eL, hp] at q1
      exact q1
    | true =>
      refine ⟨_, rfl, if_f rfl ?_⟩
      have eB : (((10 ^ 4000 : Nat) : Int)) = big := by
        unfold big
        exact Int.natCast_pow 10 4000
      refine ⟨_, rfl, 10, 4000, rfl, by decide, by decide, ?_⟩
      rw [eB]
      refine ⟨v, d, rfl, hd.same S1, hp, hl, fun p H2 S2 => ?_⟩
      have q1 := q H2 (S1.trans S2)
      rw [eL, hp] at q1
      refine ⟨rfl, ?_⟩
      show Q (.bl (!decide (V.ref p = V.non))) H2
      rw [decide_eq_false (fun e => nomatch e)]
      exact q1
end
end K2
set_option maxRecDepth 100000
set_option maxHeartbeats 4000000
namespace L2
open PySem PySem.Spec PyProof.Rows
/-! ### repr of any such value, with ints of up to 4,300 digits and empty dicts at any place -/
mutual
def okInt : PyData → Prop
  | .int i => i.natAbs < 10 ^ 4300
  | .list l => okInts l
  | .tuple l => okInts l
  | _ => True
def okInts : List PyData → Prop
  | [] => True
  | d :: ds => okInt d ∧ okInts ds
end
section
variable {prog : Program} {w : World} {A : Around} {E : Value → Shared → Prop} {s : Shared}
theorem call_int_reprS {a : Int} {t : Tok} {Q : Value → Shared → Prop} (hn : s.heap.NoDigits) (hlt : a.natAbs < 10 ^ 4300) (h : Q (.str (toString a) s.toks) { s with toks := s.toks + 1 }) :
    wpAny (model prog w) A (call (.builtin "int.__repr__") [.int a t]) Q E s := by
  (refine wpAny_call_entry F.slot_int_repr (typeIs_int s a t) F.entry_int_repr ?_ (F.args_int_repr_1 _); unfold Builtin.«int.__repr__»)
  show wpAny (model prog w) _ (do let r ← Builtin.overDigitLimit? a; _) _ _ s
  exact wpAny_bind (overDigitLimit_any hn (fun _ => wpAny_bind (wpAny_mkStr (wpAny_pure ⟨_, rfl, h⟩) (int_text_fits10 hlt))) (fun hge => absurd hlt (Nat.not_lt.mpr hge)))
theorem pyReprObj_intS {a : Int} {t : Tok} {Q : Value → Shared → Prop} (hu : A.units < cLine) (hn : s.heap.NoDigits) (hlt : a.natAbs < 10 ^ 4300) (h : Q (.str (toString a) s.toks) { s with toks := s.toks + 1 }) :
    wpAny (model prog w) A (pyReprObj (.int a t)) Q E s :=
  wpAny_pyReprObj_slot hu (typeIs_int s a t) F.slot_int_repr.toG (call_int_reprS hn hlt ⟨_, _, rfl, h⟩)
theorem reprK_int {h₀ : Heap} {as : List Addr} {d : Nat} {a : Int} (t : Tok) (hn : h₀.NoDigits) (hlt : a.natAbs < 10 ^ 4300) : ReprK prog w as h₀ d (.int a t) (toString a) := by
  intro base hb A g E s Q _ _ hu hk0 hQ
  have hn' : base ≤ sizeLine := by omega
  (rw [pyReprUnder_leaf (v := .int a t) hn' (fun _ e => nomatch e)]; unfold pyRepr)
  exact wpAny_bind (pyReprObj_intS (by omega) (hn.keeps hk0) hlt (wpAny_pure (hQ s.heap _ fun _ _ e => e)))
end
end L2
namespace K2
open PySem PySem.Spec PyProof.Rows L2
section
variable {P : Program} {w : World} {H : Hp} {h : Heap}
mutual
theorem dat_repr (ok : HOk P w H h) (nd : h.NoDigits) : ∀ {v : V} {d : PyData} {u : Value}, Dat H v d → RelV v u → okInt d → d.shown.length ≤ sizeLine → ∃ as bs, Reads h u d as ∧ ReadAtMost h d.depth bs ∧ ReprK P w bs h d.depth u d.shown
  | _, _, _, .non, r, _, _ => by
    cases r
    exact ⟨[], [], .none, (fun _ z => nomatch z), by simp only [PyData.shown]; exact .of_is ReprIs.none _ _ _⟩
  | _, _, _, .bl b, r, _, _ => by
    cases r
    exact ⟨[], [], .bool b, (fun _ z => nomatch z), by simp only [PyData.shown]; exact .of_is (ReprIs.bool b) _ _ _⟩
  | _, _, _, .int i, r, hi, _ => by
    obtain ⟨t, rfl⟩ := r
    exact ⟨[], [], .int i t, (fun _ z => nomatch z), by simp only [PyData.shown]; exact reprK_int t nd (by simpa only [okInt] using hi)⟩
  | _, _, _, .str x _, r, _, hz => by
    obtain ⟨t, rfl⟩ := r
    exact ⟨[], [], .str x t, (fun _ z => nomatch z), by simp only [PyData.shown]; exact .of_is (ReprIs.str x t (by simpa only [PyData.shown] using hz)) _ _ _⟩
  | _, _, _, .lst (a := a) (xs := xs) (ds := ds) e t, r, hi, hz => by
    cases r
    obtain ⟨_, its, m, rv, ho⟩ := (show ObjOk P w H h a (.lst xs) from ok a _ e)
    have hz' : (listText (PyData.shownAll ds)).length ≤ sizeLine := by simpa only [PyData.shown] using hz
    obtain ⟨as, bs, ra, hb, hk⟩ := datAll_repr ok nd t rv (by simpa only [okInt] using hi) (fun q hq => Nat.le_trans (listText_mem_le hq) hz')
    have rl : Reads h (.ref a) (.list ds) _ := .list ho rfl rfl ra
    refine ⟨_, a :: bs, rl, ReadAtMost.cons rl (by simp only [PyData.depth]; omega) hb, ?_⟩
    have hna : a ∉ bs := not_mem_of_deeper rl (by simp only [PyData.depth]; omega) hb
    simp only [PyData.depth, PyData.shown]
    cases its with
    | nil =>
      cases ra
      simp only [PyData.shownAll, listText_nil]
      exact ReprK.listEmpty ho rfl rfl
    | cons x l => exact ReprK.list (na := _) ho rfl rfl hna (by simpa using hk.length_eq) (fun i y e' => hk.item i y (by simpa using e'))
  | _, _, _, .tup (a := a) (xs := xs) (ds := ds) e t, r, hi, hz => by
    cases r
    obtain ⟨_, its, rv, o, ho, hc, m, hd⟩ := (show ObjOk P w H h a (.tup xs) from ok a _ e)
    have hz' : (tupleText (PyData.shownAll ds)).length ≤ sizeLine := by simpa only [PyData.shown] using hz
    obtain ⟨as, bs, ra, hb, hk⟩ := datAll_repr ok nd t rv (by simpa only [okInt] using hi) (fun q hq => Nat.le_trans (tupleText_mem_le hq) hz')
    have rl : Reads h (.ref a) (.tuple ds) _ := .tuple ho hc hd ra
    refine ⟨_, a :: bs, rl, ReadAtMost.cons rl (by simp only [PyData.depth]; omega) hb, ?_⟩
    have hna : a ∉ bs := not_mem_of_deeper rl (by simp only [PyData.depth]; omega) hb
    simp only [PyData.depth, PyData.shown]
    exact ReprK.tuple ho hc hd hna hk
  | _, _, _, .d0 (a := a) e, r, _, _ => by
    cases r
    obtain ⟨_, ns, vs, kv, o, es, ep, ho, hx, hd, hk, hp, _⟩ := (show ObjOk P w H h a (.dK []) from ok a _ e)
    cases kv
    have e0 : es.toList = [] := by
      generalize es.toList = l at hp
      cases hp
      rfl
    have rl : Reads h (.ref a) (.dict []) (a :: [] ++ []) := .dict (kvs := []) ho hx.1 hd (by rw [e0]; exact .nil) (by rw [e0]; exact .nil)
    have hsys : (a == sysModules) = false := beq_eq_false_iff_ne.mpr fun z => by
      rw [z] at ns
      simp at ns
    refine ⟨_, [a], rl, ReadAtMost.cons (n := 0) rl (Nat.zero_le _) (fun _ z => nomatch z), ?_⟩
    have k := ReprK.dict (prog := P) (w := w) (as := []) (d := 0) (ps := []) ho hx.1 hd hsys (by simp) (by rw [e0]; exact .nil)
    have k' := k.level_le (d' := (PyData.dict []).depth) (by simp [PyData.depth, PyData.depthKv])
    simpa only [PyData.shown, PyData.shownKv] using k'
theorem datAll_repr (ok : HOk P w H h) (nd : h.NoDigits) : ∀ {vs : List V} {ds : List PyData} {us : List Value}, DatAll H vs ds → Vals vs us → okInts ds → (∀ t ∈ PyData.shownAll ds, t.length ≤ sizeLine) →
    ∃ as bs, ReadsAll h us ds as ∧ ReadAtMost h (PyData.depthAll ds) bs ∧ ReprAllK P w bs h (PyData.depthAll ds) us (PyData.shownAll ds)
  | _, _, _, .nil, .nil, _, _ => ⟨[], [], .nil, (fun _ z => nomatch z), by simp only [PyData.shownAll]; exact .nil⟩
  | _, _, _, .cons (d := d) (ds := ds) t ts, .cons r rs, hi, hz => by
    have hi' : okInt d ∧ okInts ds := by simpa only [okInts] using hi
    obtain ⟨as, b1, ra, hb1, k1⟩ := dat_repr ok nd t r hi'.1 (hz _ (by simp only [PyData.shownAll]; exact List.mem_cons_self ..))
    obtain ⟨cs, b2, rb, hb2, k2⟩ := datAll_repr ok nd ts rs hi'.2 (fun q hq => hz q (by simp only [PyData.shownAll]; exact List.mem_cons_of_mem _ hq))
    refine ⟨as ++ cs, b1 ++ b2, .cons ra rb, ?_, ?_⟩
    · simp only [PyData.depthAll]
      exact (hb1.mono (Nat.le_max_left _ _)).append (hb2.mono (Nat.le_max_right _ _))
    · simp only [PyData.depthAll, PyData.shownAll]
      refine .cons ((k1.more fun b hb => List.mem_append_left _ hb).level_le (Nat.le_max_left _ _)) ?_
      exact k2.more_le (fun b hb => List.mem_append_right _ hb) (Nat.le_max_right _ _)
end
end
section
variable {X : Cx}
theorem nodig {K : PySem.W.Frag} {mg : Str → Option Value} {h : Heap} (M : L2.Mod K mg h) (e : PySem.W.nsIn K cStatics "sys.int_max_str_digits" = some none) : h.NoDigits := by
  obtain ⟨mc, h1, _⟩ := M.nolimit
  exact ⟨mc, h1, PySem.W.ns_none_of M.kin h1 e⟩
def rReprD : List V → Hp → VK → Prop := fun xs H Q => ∃ v d, xs = [v] ∧ Dat H v d ∧ okInt d ∧ d.depth ≤ 64 ∧ d.shown.length ≤ sizeLine ∧ Q (.str d.shown) H
theorem call_reprD (hg : X.A.guards = some []) (hu : X.A.units + 128 < cLine) (e : PySem.W.nsIn X.K cStatics "sys.int_max_str_digits" = some none) : CallR X (.builtin "repr") rReprD := by
  intro pins s σ H xs us Q I r hh
  obtain ⟨v, d, rfl, th, hi, hd, hz, q⟩ := hh
  obtain ⟨u, rfl, ru⟩ := vals1 r
  have nd : s.heap.NoDigits := (nodig I.ok.mod e).keeps I.bk
  have done : ∀ (h' : Heap) (u tk : Nat), (∀ b o, s.heap.get? b = some o → h'.get? b = some o) → EP X pins σ Q (.str d.shown u) { s with heap := h', toks := tk } := fun h' u tk k => ⟨.str _, H, I.kept (t' := tk) k, ⟨_, rfl⟩, q⟩
  cases th with
  | non =>
    cases ru
    exact PySem.P.repr_of_none (by simpa only [PyData.shown] using done s.heap _ _ fun _ _ e => e)
  | bl b =>
    cases ru
    exact PySem.P.repr_of_bool (by simpa only [PyData.shown] using done s.heap _ _ fun _ _ e => e)
  | str x _ =>
    obtain ⟨t, rfl⟩ := ru
    exact PySem.P.repr_of_str (by simpa only [PyData.shown] using done s.heap _ _ fun _ _ e => e) (by simpa only [PyData.shown] using hz)
  | int i =>
    obtain ⟨t, rfl⟩ := ru
    refine call_repr_slot (by omega) (typeIs_int s i t) F.slot_int_repr.toG (call_int_reprS nd (by simpa only [okInt] using hi) ⟨_, _, rfl, ?_⟩)
    simpa only [PyData.shown] using done s.heap _ _ fun _ _ e => e
  | @lst a vs ds e1 t =>
    cases ru
    obtain ⟨_, its, m, rv, ho⟩ := (show ObjOk X.prog X.w H s.heap a (.lst vs) from I.hok a _ e1)
    have hz' : (listText (PyData.shownAll ds)).length ≤ sizeLine := by simpa only [PyData.shown] using hz
    obtain ⟨as, bs, ra, hb, hk⟩ := datAll_repr I.hok nd t rv (by simpa only [okInt] using hi) (fun q hq => Nat.le_trans (listText_mem_le hq) hz')
    have rl : Reads s.heap (.ref a) (.list ds) _ := .list ho rfl rfl ra
    have hna : a ∉ bs := not_mem_of_deeper rl (by simp only [PyData.depth]; omega) hb
    simp only [PyData.depth] at hd
    simp only [PyData.shown] at done
    refine call_repr_slot (by omega) ⟨_, ho, rfl⟩ F.slot_list_repr.toG ?_
    cases its with
    | nil =>
      cases ra
      simp only [PyData.shownAll, listText_nil] at done
      exact call_list_repr_empty ⟨_, ho, rfl⟩ ho rfl ⟨_, _, rfl, done s.heap _ _ fun _ _ e => e⟩
    | cons x l => exact call_list_reprK (h₀ := s.heap) ho rfl rfl hna (by simpa using hk.length_eq) (fun i y e => hk.item i y (by simpa using e)) (A := X.A.in1) (g := []) hg (fun b _ => Clear.nil b) (by show X.A.units + 1 + (PyData.depthAll ds + 1) < cLine; omega) (fun _ _ e => e) (fun h' u tk k => ⟨_, _, rfl, done h' u tk k⟩) hz'
  | @tup a vs ds e1 t =>
    cases ru
    obtain ⟨_, its, rv, o, ho, hc, m, hdd⟩ := (show ObjOk X.prog X.w H s.heap a (.tup vs) from I.hok a _ e1)
    have hz' : (tupleText (PyData.shownAll ds)).length ≤ sizeLine := by simpa only [PyData.shown] using hz
    obtain ⟨as, bs, ra, hb, hk⟩ := datAll_repr I.hok nd t rv (by simpa only [okInt] using hi) (fun q hq => Nat.le_trans (tupleText_mem_le hq) hz')
    have rl : Reads s.heap (.ref a) (.tuple ds) _ := .tuple ho hc hdd ra
    have hna : a ∉ bs := not_mem_of_deeper rl (by simp only [PyData.depth]; omega) hb
    simp only [PyData.depth] at hd
    simp only [PyData.shown] at done
    refine call_repr_slot (by omega) ⟨_, ho, hc⟩ F.slot_tuple_repr ?_
    exact call_tuple_reprK (h₀ := s.heap) ho hc hdd hna hk (A := X.A.in1) (g := []) hg (fun b _ => Clear.nil b) (by show X.A.units + 1 + (PyData.depthAll ds + 1) < cLine; omega) (fun _ _ e => e) (fun h' u tk k => ⟨_, _, rfl, done h' u tk k⟩) hz'
  | @d0 a e1 =>
    cases ru
    obtain ⟨_, ns, vs, kv, o, es, ep, ho, hx, hdd, hk, hp, _⟩ := (show ObjOk X.prog X.w H s.heap a (.dK []) from I.hok a _ e1)
    cases kv
    have e0 : es.toList = [] := by
      generalize es.toList = l at hp
      cases hp
      rfl
    have hsys : (a == sysModules) = false := beq_eq_false_iff_ne.mpr fun z => by
      rw [z] at ns
      simp at ns
    simp only [PyData.shown, PyData.shownKv] at done
    refine call_repr_slot (by omega) ⟨_, ho, hx.1⟩ F.slot_dict_repr ?_
    exact call_dict_reprK (h₀ := s.heap) (as := []) (d := 0) (ps := []) ho hx.1 hdd hsys (by simp) (by rw [e0]; exact .nil) (A := X.A.in1) (g := []) hg (fun b _ => Clear.nil b) (by show X.A.units + 1 + 1 < cLine; omega) (fun _ _ e => e) (fun h' u tk k => ⟨_, _, rfl, done h' u tk k⟩)
end
end K2
set_option maxRecDepth 100000
set_option maxHeartbeats 4000000
namespace L2
open PySem PySem.Spec PyProof.Rows
/-! ### a def that is called where no repr runs -/
structure FnG (P : Program) (w : World) (K : PySem.W.Frag) (mg : Str → Option Value) (base : Heap) (k : Nat) (f : Addr) (fd : FuncData) (ps : List Str) (sp : Sp) : Prop where
  len : ∀ vs H Q E, sp vs H Q E → vs.length = ps.length
  run : ∀ (A : Around) (outer : List Env) (s : Shared) (H : Hp) (args : Args) (us : List Value) (vs : List V) (Q : VK) (E : XK), A.guards = some [] → Room k A → Env0 P w K mg base A outer s H → BindsTo s fd args (ps.zip us) → Vals vs us → sp vs H Q E →
    codeAny (model P w) A (.call (.ref f) args) (CR CX0 outer P w H s Q E) s
section
variable {P : Program} {w : World} {K : PySem.W.Frag} {mg : Str → Option Value} {base : Heap}
theorem Fun.okG {x qual : Str} {st : Stmt} {f : Addr} {fd : FuncData} {N ps : List Str} {k : Nat} {sp : Sp} (F : Fun K x qual st f fd) (S : FnScope N ps (defScope st)) (len : ∀ vs H Q E, sp vs H Q E → vs.length = ps.length)
    (hbody : ∀ (cdv : Value) (A : Around) (outer : List Env) (s : Shared) (H : Hp) (vs : List V) (Q : VK) (E : XK), A.guards = some [] → Room k (A.deeper (envOfC qual (defScope st) s.heap.objs.size f cdv)) → sp vs H Q E →
      ∃ t, PSs (cxOf CX0 P w K mg base N qual (defScope st) f cdv A outer s H E).nox (defBody st) t ∧ t { nx := fun _ H' => Q .non H', rt := Q } (start N vs) H) : FnG P w K mg base (k + 1) f fd ps sp := by
  obtain ⟨oc, od, kV, doc, pm, an, cdv, ct, osl, rfl, lk, hcd⟩ := F.ex
  refine ⟨len, fun A outer s H args us vs Q E hg hr e0 hb r hsp => ?_⟩
  obtain ⟨t, ht, hq⟩ := hbody cdv A outer s H vs Q E hg (hr.deeper _) hsp
  have KX : K.In s.heap := e0.mod.kin.keeps fun b o z => (e0.bs b o z).1
  have inPar : ∀ y ∈ ps.zip us, (defScope st).names.lookup y.1 = some .local ∨ ((defScope st).names.lookup y.1 = some .cell ∧ ((cellsFrom (s.heap.objs.size + 1) (defScope st).names []).lookup y.1).isSome = true) := by
    intro y hy
    have hin : y.1 ∈ ps := (List.of_mem_zip (a := y.1) (b := y.2) hy).1
    rcases S.par y.1 hin with z | z
    · exact .inl z
    · exact .inr ⟨z, PySem.W.cellsFrom_some _ _ _ (.inl z)⟩
  refine codeAny_call_function hr.depth (KX _ _ lk) rfl S.co S.gen rfl (PySem.W.codeRec_of KX hcd) (hb _ _ _ _ ?_)
  refine wpAny_newFunctionEnv_cells S.kind inPar fun env he s1 ic => ?_
  subst he
  have I := inv_start (CX := CX0) (E := E) (cd := cdv) (qual := qual) (f := f) S hr.hd e0 (len _ _ _ _ hsp) r ic
  refine ⟨(e0.mod.nolimit.keeps fun b o z => (e0.bs b o z).1).keeps ic.toInCall.keep, codeAny_func ?_⟩
  refine wpAny_mono (ht.nox.run [] s1 (start N vs) H _ I hq) (fun fl s' q => ?_) fun _ _ z => z
  cases fl with
  | next =>
    obtain ⟨σ', H', J, z⟩ := q
    exact ⟨.non, H', J.os, J.bare, J.base, J.hok, rfl, z⟩
  | ret u =>
    obtain ⟨v, σ', H', J, rv, z⟩ := q
    exact ⟨v, H', J.os, J.bare, J.base, J.hok, rv, z⟩
  | brk =>
    obtain ⟨_, _, _, z⟩ := q
    exact z.elim
  | cont =>
    obtain ⟨_, _, _, z⟩ := q
    exact z.elim
end
section
variable {X : Cx} {k : Nat} {f : Addr} {fd : FuncData} {ps : List Str} {sp : Sp} {x : Str} {p pos : Pos} {e : Expr} {es : List Expr} {t : TA}
theorem pe_callG (F : FnG X.prog X.w X.K X.mg X.base k f fd ps sp) (hg : X.A.guards = some []) (hr : Room k X.A) (gl : Gl X x) (hm : X.mg x = some (.ref f)) (hk : PySem.W.keepIn X.K (.ref f) = true) (hb : Binds X.K fd ps []) (ha : PA X (e :: es) t)
    (hdb : (x == ("__debug__" : Str)) = false := by decide) (he : starEach (e :: es) X.env = (false, eval e X.env) :: starEach es X.env := by rfl) (hpl : (backTo pos (starEach es X.env)).any (·.1) = false := by rfl) :
    PE X (.Call (.Name x p) (e :: es) [] pos) (tCall sp [] E0 t) := by
  refine ⟨fun pins s σ H Q I h => ?_⟩
  refine wpAny_Call_Name_kw (ld_glob I gl hm ?_ hdb)
  refine PySem.W.callWith_K (h₀ := X.base) I.ok.mod.kin hk (thn (ha.run pos pins s σ H _ I h) fun us s1 hh => ?_) he hpl
  obtain ⟨vs, H1, I1, r, q⟩ := hh
  refine ⟨I1.kIn, ?_⟩
  have q' : sp vs H1 Q E0 := by
    have z : sp (vs ++ []) H1 Q E0 := q
    rw [List.append_nil] at z
    exact z
  have hl : us.length = ps.length := r.length.symm.trans (F.len _ _ _ _ q')
  have b := hb s1 us I1.kIn (by rw [List.append_nil]; exact hl)
  rw [List.append_nil] at b
  refine wpAny_call (codeAny_mono (F.run X.A X.stack s1 H1 ⟨us, []⟩ us vs Q E0 hg hr I1.env0 b r q') fun res s' z => ?_)
  cases res with
  | error er => exact False.elim z
  | ok fl =>
    cases fl with
    | ret u => exact I1.after z
    | next => exact False.elim z
    | brk => exact False.elim z
    | cont => exact False.elim z
end
end L2
set_option maxRecDepth 100000
set_option maxHeartbeats 4000000
namespace L2
open PySem PySem.Spec PyProof.Rows
section
variable {P : Program} {w : World} {K : PySem.W.Frag} {mg mb : Str → Option Value} {k : Nat} {fa a : Addr} {fd : FuncData} {x : Str} {sp : Sp} {s1 : Shared} {vs : List Value} {ns : List Int}
/-- the law's call where at most the script is tracked (at a) -/
theorem callG_at (KX : K.In s1.heap) (hns : s1.heap.Ns mainGlobals mg) (hb : s1.heap.Ns builtinsNs mb) (hbb : ∀ x : Str, x ≠ "__name__" → mb x = bootBuiltins x) (hlim : s1.heap.NoLimit) (hg : s1.gens = #[])
    (ha : s1.heap.get? a = some { cls := .type "list", data := .seq vs.toArray }) (hr : Room k callerA) (F : ∀ base : Heap, K.In base → base.Ns mainGlobals mg → FnG P w K mg base k fa fd [x] sp)
    (hbind : ∀ (s : Shared) (u : Value), BindsTo s fd ⟨[u], []⟩ [(x, u)]) (H : Hp) (hO : Only H) (hok : HOk P w H s1.heap) (hA : ∀ b, H b ≠ none → b = a) (hK : H a ≠ none → K.lookup a = none)
    (hsp : sp [.ref a] H (fun v _ => v = .bl true) fun _ _ _ => False) :
    codeAny (model P w) callerA (.call (.ref fa) ⟨[.ref a], []⟩) (fun r s' => r = .ok (.ret (.bool true)) ∧ OldK s1.heap s'.heap ∧ s'.os = s1.os ∧ AllBare s'.gens) s1 := by
  have free : ∀ {b : Addr} {o : Obj}, s1.heap.get? b = some o → o.data ≠ .seq vs.toArray → H b = none := by
    intro b o e hd
    cases q : H b with
    | none => rfl
    | some u =>
      have eb := hA b (by rw [q]; exact fun z => nomatch z)
      rw [eb, ha] at e
      cases e
      exact absurd rfl hd
  have nsB : ∀ {b : Addr} {m : Str → Option Value}, s1.heap.Ns b m → (hidT s1.heap H).Ns b m := by
    intro b m hn
    refine hn.at fun o e => hidT_get e ?_
    obtain ⟨o', es, ep, e', d, -⟩ := hn
    rw [e] at e'
    cases e'
    exact free e (by rw [d]; exact fun z => nomatch z)
  have KB : K.In (hidT s1.heap H) := fun b o e => by
    refine hidT_get (KX b o e) ?_
    cases q : H b with
    | none => rfl
    | some u =>
      have hb0 : H b ≠ none := by rw [q]; exact fun z => nomatch z
      have eb := hA b hb0
      rw [eb] at hb0 e
      rw [hK hb0] at e
      cases e
  have M : Mod K mg (hidT s1.heap H) := ⟨KB, nsB hns, ⟨mb, nsB hb, hbb⟩, by obtain ⟨mc, h1, h2⟩ := hlim; exact ⟨mc, nsB h1, h2⟩⟩
  have e0 : Env0 P w K mg (hidT s1.heap H) callerA [] s1 H := ⟨rfl, M, fun _ _ e => of_hidT e, Nat.le_of_eq (hidT_size _ _), trivial, fun b z => absurd (show b ∈ ([] : List Addr) from z) (List.not_mem_nil), hok, .of_eq hg⟩
  refine codeAny_mono ((F _ KB (nsB hns)).run callerA [] s1 H ⟨[.ref a], []⟩ [.ref a] [.ref a] _ _ rfl hr e0 (hbind s1 (.ref a)) (.cons rfl .nil) hsp) fun r s' z => ?_
  cases r with
  | error e => exact False.elim z
  | ok fl =>
    cases fl with
    | next => exact False.elim z
    | brk => exact False.elim z
    | cont => exact False.elim z
    | ret u =>
      obtain ⟨v, H', os, bare, un, hok', rv, q⟩ := z
      have q' : v = .bl true := q
      subst q'
      obtain rfl : u = Value.bool true := rv
      refine ⟨rfl, OldK.of_keep fun b o e => ?_, os, bare⟩
      cases qb : H b with
      | none => exact un.keep b o e qb (fun z => absurd (show b ∈ ([] : List Addr) from z) (List.not_mem_nil)) (List.not_mem_nil)
      | some y =>
        rcases hO b with z | ⟨ob, xs, z⟩
        · rw [qb] at z
          cases z
        · have e1 := (hok b _ z).1
          have e2 := (hok' b _ (un.frzs b ob _ z)).1
          rw [e] at e1
          cases e1
          exact e2
end
theorem walk_G {l : PySem.W.OpenLaw} {n k : Nat} {q : Program} {loose : List Str} {XP : (Str → Option Value) → Heap → Prop} {YP : World → Heap → Prop} {d : DefRec} {K : Params → PySem.W.Frag} {sp : PySem.W.Frag → Sp} {x : Str}
    (hn : l.most = some n) (hn2 : n ≤ sizeLine) (hdf : d.params.defaults = []) (hr : Room k callerA) (hY : ∀ (w : World) (h : Heap), YP w h → (K w.params).In h)
    (F : ∀ (w : World) (mg : Str → Option Value) (fa : Addr) (h : Heap), (K w.params).In h → h.Ns mainGlobals mg → mg d.name = some (.ref fa) →
      ∃ fd : FuncData, (∀ (s : Shared) (u : Value), BindsTo s fd ⟨[u], []⟩ [(x, u)]) ∧ ∀ base : Heap, (K w.params).In base → base.Ns mainGlobals mg → FnG l.prog w (K w.params) mg base k fa fd [x] (sp (K w.params)))
    (hsp : ∀ (K : PySem.W.Frag) (H : Hp) (a : Addr) (ns : List Int), ns.length ≤ n → Only H → SqL K H a (ns.map V.int) → sp K [.ref a] H (fun v _ => v = .bl true) fun _ _ _ => False) :
    PySem.W.WalkO q loose XP YP l.row.toRowW d [] (fun f vs => PySem.call f vs) := by
  refine Att.attach_call hn hdf fun w s₀ s1 mg mb fa o pm cd doc a vs ns G Y ho hd hcd hmg hobj hints hlen hg => ?_
  have KX := hY w _ Y
  obtain ⟨fd, hb, hF⟩ := F w mg fa _ KX G.T.g hmg
  have hl : ns.length ≤ sizeLine := Nat.le_trans hlen hn2
  have rv := vals_ints hints
  cases hk : (K w.params).lookup a with
  | some oa =>
    have e := KX a oa hk
    rw [hobj] at e
    cases e
    refine callG_at KX G.T.g G.T.b G.T.builtins G.T.nolimit hg hobj hr hF hb (fun _ => none) (fun _ => .inl rfl) (fun b u z => nomatch z) (fun b z => absurd rfl z) (fun z => absurd rfl z) (hsp _ _ a ns hlen (fun _ => .inl rfl) ?_)
    exact .inr ⟨_, vs.toArray, _, hk, rfl, rfl, rfl, by rw [List.size_toArray, hints.length]; exact hl, by simpa using rv⟩
  | none =>
    let H : Hp := fun b => if b = a then some (.frz { cls := .type "list", data := .seq vs.toArray } (.lst (ns.map V.int))) else none
    have Ha : H a = some (.frz { cls := .type "list", data := .seq vs.toArray } (.lst (ns.map V.int))) := if_pos rfl
    have Hn : ∀ {b : Addr}, b ≠ a → H b = none := fun h => if_neg h
    have only : Only H := fun b => by
      by_cases hb : b = a
      · exact .inr ⟨_, _, by rw [hb]; exact Ha⟩
      · exact .inl (Hn hb)
    refine callG_at KX G.T.g G.T.b G.T.builtins G.T.nolimit hg hobj hr hF hb H only (fun b u z => ?_) (fun b z => ?_) (fun _ => hk) (hsp _ H a ns hlen only (.inl (.inr ⟨_, Ha⟩)))
    · by_cases hb : b = a
      · rw [hb, Ha] at z
        cases z
        rw [hb]
        exact ⟨hobj, by rw [List.length_map]; exact hl, vs, _, rv, hobj⟩
      · rw [Hn hb] at z
        cases z
    · by_cases hb : b = a
      · exact hb
      · exact absurd (Hn hb) z
end L2
set_option maxRecDepth 100000
set_option maxHeartbeats 4000000
namespace L2
open PySem PySem.Spec PyProof.Rows
/-! ### f(k = v, ..), nothing by position -/
def tCallKw (sp : Sp) (gV : List V → List V → List V) (E : XK) (tk : TA) : TE := fun σ H Q => tk σ H fun zs H1 => sp (gV [] zs) H1 Q E
section
variable {X : Cx} {CX : CXT} {k : Nat} {f : Addr} {fd : FuncData} {ps ks : List Str} {sp : Sp} {E : XK} {x : Str} {p pos : Pos} {kws : List Keyword} {tk : TA} {g : List Value → List Value → List Value} {gV : List V → List V → List V}
theorem pe_callKw (F : FnOk X.prog X.w X.K X.mg X.base CX k f fd ps sp) (hr : Room k X.A) (hg : Gl X x) (hm : X.mg x = some (.ref f)) (hk : PySem.W.keepIn X.K (.ref f) = true) (hb : KBinds X.K fd ps ks g gV) (hx : Passes CX X E)
    (hkw : PK X kws tk) (hall : (backToKw pos (keywordEach kws X.env)).all (·.1.isSome) = true := by rfl) (hks : (backToKw pos (keywordEach kws X.env)).filterMap (·.1) = ks := by rfl) (hdb : (x == ("__debug__" : Str)) = false := by decide)
    (hpl : ((backTo pos (starEach [] X.env)).any (·.1) || (backToKw pos (keywordEach kws X.env)).any (·.1.isNone)) = false := by rfl) :
    PE X (.Call (.Name x p) [] kws pos) (tCallKw sp gV E tk) := by
  refine ⟨fun pins s σ H Q I h => wpAny_Call_Name_kw (ld_glob I hg hm ?_ hdb)⟩
  refine PySem.W.callWith_KW0 (h₀ := X.base) I.ok.mod.kin hk hall (thn (hkw.run pos pins s σ H _ I h) fun ws s2 hh => ?_) hpl
  obtain ⟨zs, H2, I2, rz, q2⟩ := hh
  refine ⟨I2.kIn, ?_⟩
  rw [hks]
  exact run_fnk (us := []) (vs := []) F hr hb hx I2 .nil rz q2
end
end L2
namespace K2
open PySem PySem.Spec PyProof.Rows L2
/-! ### one value is answered as the second implementation says -/
abbrev s_right : Stmt := top 102
/-- a value as the law makes them -/
structure Ok (d : PyData) : Prop where
  leaf : leafD d = true
  oki : okInt d
  dep : d.depth ≤ 60
  nod : nodes d ≤ 2400
  len : d.shown.length ≤ sizeLine
def spRight : Sp := fun vs H Q _ => ∃ (v : V) (d : PyData), vs = [v] ∧ Dat H v d ∧ Ok d ∧ ∀ H', Same H H' → Q (.bl true) H'
theorem leaf_tup {d : PyData} (h : isTup d = false) : leafB d = false := by
  cases d <;> first | rfl | cases h
section
variable {P : Program} {w : World} {K : PySem.W.Frag} {mg : Str → Option Value} {base : Heap}
theorem sc_right : FnScope ["_law_thing", "_law_kept", "_law_due"] ["_law_thing"] (defScope s_right) := ⟨rfl, rfl, rfl, by decide +kernel, rfl, by decide +kernel, by decide +kernel⟩
theorem dat_bls {H : Hp} {a : Addr} {b c : Bool} (h : H a = some (.lst [.bl b, .bl c])) : Dat H (.ref a) (.list [.bool b, .bool c]) := .lst h (.cons (.bl b) (.cons (.bl c) .nil))
theorem shown2 (b c : Bool) : okInt (.list [.bool b, .bool c]) ∧ (PyData.list [.bool b, .bool c]).depth ≤ 64 ∧ (PyData.list [.bool b, .bool c]).shown.length ≤ sizeLine := by
  refine ⟨by simp [okInt, okInts], by simp [PyData.depth, PyData.depthAll], ?_⟩
  have z : (PyData.list [.bool b, .bool c]).shown.length ≤ 20 := by cases b <;> cases c <;> decide +kernel
  exact Nat.le_trans z (by decide)
theorem okl_right {f fL fS : Addr} {fd fdL fdS : FuncData} (F : Fun K "_law_right" "_law_right" s_right f fd) (T : Nm mg) (Tr : mg "repr" = none) (eS : PySem.W.nsIn K cStatics "sys.int_max_str_digits" = some none)
    (D_leaf_size : DefOk K mg "_law_leaf_size" s_leaf_size ["_law_thing"] fL fdL) (G_leaf_size : ∀ base : Heap, FnOk P w K mg base CX0 9 fL fdL ["_law_thing"] (spOptT leafB))
    (D_is_space : DefOk K mg "is_space" s_is_space ["value"] fS fdS) (G_is_space : ∀ base : Heap, FnOk P w K mg base CX0 13 fS fdS ["value"] spSpace)
    (kb : KBinds K fdS ["value"] ["value"] (fun us ws => us ++ ws) (fun vs zs => vs ++ zs)) : FnG P w K mg base 14 f fd ["_law_thing"] spRight := by
  refine F.okG sc_right (fun vs H Q E h => ?_) (fun cdv A outer s H vs Q E hg hr h => ?_)
  · obtain ⟨v, d, rfl, _⟩ := h
    rfl
  · obtain ⟨v, d, rfl, hd, O, q⟩ := h
    have hu0 := hr.units0
    have hu : (A.deeper (envOfC "_law_right" (defScope s_right) s.heap.objs.size f cdv)).units + 128 < cLine := by
      have := hr.un
      omega
    have hr9 : Room 9 _ := hr.mono (by decide)
    refine ⟨_, (pss_cons (ps_set (i := 1) sc_right.nd rfl (Or.inl rfl) (pe_callB (call_reprD hg hu eS) (by rfl) Tr (by decide +kernel) (pa_cons (pv 0) pa_nil)))
      (C8.pss_cut (ps_set (i := 2) sc_right.nd rfl (Or.inl rfl) (pe_and (pe_callB call_isi (by rfl) T.isinstance boot_isinstance (pa_cons (pv 0) (pa_cons (pe_bltn (v := .ty "tuple") rfl T.tuple (by decide +kernel) rfl) pa_nil))) (pe_and (pe_cmpR (op_nempty hu0) (pv 0) (pe_tup pa_nil) (nomark _)) (pe_one (pe_cmpR op_notN (pe_call (G_leaf_size _) hr9 rfl D_leaf_size.g D_leaf_size.F.kp D_leaf_size.b .nil pass0 (pa_cons (pv 0) pa_nil)) pe_non (nomark _))))))
      (pss_one (ps_ret (pe_and (pe_cmpR op_eq (pe_callB (call_reprD hg hu eS) (by rfl) Tr (by decide +kernel) (pa_cons (pe_lst (pa_cons (pe_call (G_is_space _) hr rfl D_is_space.g D_is_space.F.kp D_is_space.b .nil pass0 (pa_cons (pv 0) pa_nil)) (pa_cons (pe_callKw (G_is_space _) hr rfl D_is_space.g D_is_space.F.kp kb pass0 (pk_cons (pv 0) pk_nil)) pa_nil))) pa_nil)) (pe_callB (call_reprD hg hu eS) (by rfl) Tr (by decide +kernel) (pa_cons (pe_lst (pa_cons (pv 2) (pa_cons (pv 2) pa_nil))) pa_nil)) (nomark _)) (pe_one (pe_cmpR op_eq (pe_callB (call_reprD hg hu eS) (by rfl) Tr (by decide +kernel) (pa_cons (pv 0) pa_nil)) (pv 1) (nomark _)))))))), ?_⟩
    have hdep : d.depth ≤ 64 := Nat.le_trans O.dep (by decide)
    refine ⟨_, rfl, v, d, rfl, hd, O.oki, hdep, O.len, ?_⟩
    refine ⟨fun σ H' => σ = [some v, some (.str d.shown), some (.bl (leafB d))] ∧ Same H H', ?_, ?_⟩
    · refine ⟨_, rfl, v, .ty "tuple", _, _, _, rfl, .ty _, hd.ty, kit_tuple _ d, _, rfl, ?_⟩
      cases d with
      | tuple ds =>
        cases hd with
        | @tup a xs _ ha hx =>
          refine if_t rfl ?_
          refine ⟨_, rfl, (by show 0 ≤ sizeLine; decide), fun p np => ⟨a, p, xs, rfl, rfl, .inr ⟨same_new np _ _ ha, upd_same⟩, ?_⟩⟩
          have S1 := same_new (o := HO.tup []) np
          generalize upd H p (.tup []) = H1 at S1 ⊢
          cases hx with
          | nil => exact ⟨_, rfl, if_f rfl ⟨rfl, S1⟩⟩
          | @cons x0 xs' d0 ds' c0 cs =>
            refine ⟨_, rfl, if_t rfl ?_⟩
            refine ⟨_, rfl, a, x0 :: xs', d0 :: ds', rfl, S1 _ _ ha, (DatAll.cons c0 cs).same S1, by simp, O.nod, fun H2 S2 e => ⟨rfl, ?_, S1.trans S2⟩, fun H2 n S2 e => ⟨rfl, ?_, S1.trans S2⟩⟩
            · rw [e]
              rfl
            · rw [e, decide_eq_false (fun z => nomatch z)]
              rfl
      | _ => exact if_f rfl ⟨rfl, Same.refl H⟩
    · rintro σ H1 ⟨rfl, S1⟩
      have hd1 := hd.same S1
      refine ⟨_, rfl, v, d, rfl, hd1, O.leaf, fun H2 S2 => ⟨_, rfl, v, d, rfl, hd1.same S2, O.leaf, fun H3 S3 => ⟨(by show 2 ≤ sizeLine; decide), fun p np => ?_⟩⟩⟩
      have S4 := same_new (o := HO.lst [.bl (leafB d), .bl (leafB d)]) np
      have e4 : upd H3 p (.lst [.bl (leafB d), .bl (leafB d)]) p = some (.lst [.bl (leafB d), .bl (leafB d)]) := upd_same
      generalize upd H3 p (.lst [.bl (leafB d), .bl (leafB d)]) = H4 at S4 e4 ⊢
      refine ⟨_, _, rfl, dat_bls e4, (shown2 _ _).1, (shown2 _ _).2.1, (shown2 _ _).2.2, ?_⟩
      refine ⟨_, rfl, _, rfl, (by show 2 ≤ sizeLine; decide), fun p2 np2 => ?_⟩
      have S5 := same_new (o := HO.lst [.bl (leafB d), .bl (leafB d)]) np2
      have e5 : upd H4 p2 (.lst [.bl (leafB d), .bl (leafB d)]) p2 = some (.lst [.bl (leafB d), .bl (leafB d)]) := upd_same
      generalize upd H4 p2 (.lst [.bl (leafB d), .bl (leafB d)]) = H5 at S5 e5 ⊢
      have S15 : Same H1 H5 := ((S2.trans S3).trans S4).trans S5
      refine ⟨_, _, rfl, dat_bls e5, (shown2 _ _).1, (shown2 _ _).2.1, (shown2 _ _).2.2, rfl, ?_⟩
      refine ⟨_, rfl, if_t (decide_eq_true rfl) ?_⟩
      refine ⟨_, rfl, v, d, rfl, hd1.same S15, O.oki, hdep, O.len, _, rfl, rfl, ?_⟩
      have q1 := q H5 (S1.trans S15)
      rw [← decide_eq_true (rfl : V.str d.shown = V.str d.shown)] at q1
      exact q1
end
end K2
set_option maxRecDepth 100000
set_option maxHeartbeats 4000000
namespace K2
open PySem PySem.Spec PyProof.Rows L2
/-! ### names: up to 20 of a kind, ascending -/
abbrev s_names : Stmt := top 90
def sgT (at' k : Nat) : Str := ⟨#[97 + (at' + 7 * k) % 26]⟩
def nmT (w at' k : Nat) : Str := if w = 0 then sgT at' k else if w = 1 then "abcde" ++ sgT at' k else sgT at' k ++ cutS "zyxwv" none (some ((k % 6 : Nat) : Int))
theorem nm_name : ∀ (w : Fin 3) (a : Fin 26) (k : Fin 20), nameB (.str (nmT w.val a.val k.val)) = true := by decide +kernel
theorem nm_nodup : ∀ (w : Fin 3) (a : Fin 26), ((List.range 20).map fun k => (nmT w.val a.val k).cps.toList).Nodup := by decide +kernel
theorem rising_le : ∀ (r : List Str) (p : Str), risingS p r = true → ∀ y ∈ r, p.cps.toList ≤ y.cps.toList
  | [], _, _, y, hy => by simp at hy
  | x :: r, p, h, y, hy => by
    have h' : (!ltCps x.cps.toList p.cps.toList && risingS x r) = true := h
    rw [Bool.and_eq_true, Bool.not_eq_true', ltCps_eq] at h'
    have px : p.cps.toList ≤ x.cps.toList := List.not_lt.mp (of_decide_eq_false h'.1)
    rcases List.mem_cons.mp hy with e | e
    · rw [e]
      exact px
    · exact List.le_trans px (rising_le r x h'.2 y e)
theorem le_sLt {a b : Str} (h : a.cps.toList ≤ b.cps.toList) (n : a ≠ b) : sLt a b = true := by
  unfold sLt
  refine decide_eq_true ?_
  by_cases z : a.cps.toList < b.cps.toList
  · exact z
  · refine absurd ?_ n
    exact Str.ext' (Array.toList_inj.mp (List.le_antisymm h (List.not_lt.mp z)))
theorem rising_asc : ∀ (r : List Str) (p : Str), risingS p r = true → (p :: r).Nodup → (p :: r).Pairwise (fun a b => sLt a b = true)
  | [], p, _, _ => by simp
  | x :: r, p, h, n => by
    have h' : (!ltCps x.cps.toList p.cps.toList && risingS x r) = true := h
    rw [Bool.and_eq_true] at h'
    rw [List.nodup_cons] at n
    refine List.pairwise_cons.mpr ⟨fun y hy => ?_, rising_asc r x h'.2 n.2⟩
    exact le_sLt (rising_le (x :: r) p h y hy) (fun e => n.1 (by rw [e]; exact hy))
theorem sorted_asc {l : List Str} (h : sortedS l = true) (n : l.Nodup) : l.Pairwise (fun a b => sLt a b = true) := by
  cases l with
  | nil => exact .nil
  | cons p r => exact rising_asc r p h n
/-- no word of a nested space, even where signs are put behind -/
def txtOk (x : Str) : Bool := match x.cps.toList with
  | a :: b :: _ => !(([(112, 114), (112, 111), (99, 104), (100, 101)] : List (Nat × Nat)).contains (a, b))
  | _ => true
def nmF (x : Str) : Bool := x.cps.toList.all (fun c => decide (c < 128)) && (txtOk x && decide (x.length ≤ 6))
theorem nm_fine : ∀ (w : Fin 3) (a : Fin 26) (k : Fin 20), nmF (nmT w.val a.val k.val) = true := by decide +kernel
/-- names as the maker gives them -/
structure Names (ns : List Str) : Prop where
  nm : ∀ x ∈ ns, nameB (.str x) = true
  fi : ∀ x ∈ ns, nmF x = true
  asc : ns.Pairwise (fun a b => sLt a b = true)
theorem names_of {w a m : Nat} (hw : w < 3) (ha : a < 26) (hm : m ≤ 20) {ys : List Str} (hp : ys.Perm ((List.range m).map (nmT w a))) (hs : sortedS ys = true) : Names ys ∧ ys.length = m := by
  have nd : ((List.range m).map (nmT w a)).Nodup := by
    have z := nm_nodup ⟨w, hw⟩ ⟨a, ha⟩
    have y : ((List.range 20).map (nmT w a)).Nodup := by
      refine List.pairwise_map.mpr ((List.pairwise_map.mp z).imp ?_)
      intro x y h e
      refine h ?_
      show (nmT w a x).cps.toList = (nmT w a y).cps.toList
      rw [e]
    exact y.sublist ((List.range_sublist.mpr hm).map _)
  refine ⟨⟨fun x hx => ?_, fun x hx => ?_, sorted_asc hs (hp.nodup_iff.mpr nd)⟩, by rw [hp.length_eq, List.length_map, List.length_range]⟩
  · obtain ⟨k, hk, rfl⟩ := List.mem_map.mp (hp.mem_iff.mp hx)
    exact nm_name ⟨w, hw⟩ ⟨a, ha⟩ ⟨k, Nat.lt_of_lt_of_le (List.mem_range.mp hk) hm⟩
  · obtain ⟨k, hk, rfl⟩ := List.mem_map.mp (hp.mem_iff.mp hx)
    exact nm_fine ⟨w, hw⟩ ⟨a, ha⟩ ⟨k, Nat.lt_of_lt_of_le (List.mem_range.mp hk) hm⟩
theorem dk_upd {H : Hp} {p q r : Addr} {b : Nat} {o : HO} (D : Dk H p q b) (h1 : r ≠ p) (h2 : r ≠ q) : Dk (upd H r o) p q b := by
  obtain ⟨ns, m, c, D, hc⟩ := D
  exact ⟨ns, m, c, ⟨by rw [upd_ne h1.symm]; exact D.ob, by rw [upd_ne h2.symm]; exact D.ce, D.m0, D.m1, D.c0, D.c1, D.ln⟩, hc⟩
def spNms : Sp := fun vs H Q _ => ∃ (p q : Addr) (b m : Nat), vs = [.ref p, .int (m : Nat)] ∧ m ≤ 20 ∧ Dk H p q b ∧ b + 2 ≤ 100000000 ∧
  ∀ (t : Addr) (ns : List Str) (H' : Hp), Off p q H H' → Dk H' p q (b + 2) → H' t = some (.lst (ns.map .str)) → t ≠ p → t ≠ q → ns.length = m → Names ns → Q (.ref t) H'
theorem nat_of {i : Int} (h : 0 ≤ i) : ∃ j : Nat, i = j := ⟨i.toNat, by omega⟩
theorem letter_at : ∀ j : Fin 26, atI letters.cps.toList ((j.val : Nat) : Int) = some (97 + j.val) := by decide +kernel
end K2
set_option maxRecDepth 100000
set_option maxHeartbeats 4000000
namespace K2
open PySem PySem.Spec PyProof.Rows L2
section
variable {P : Program} {w : World} {K : PySem.W.Frag} {mg : Str → Option Value} {base : Heap}
theorem sc_names : FnScope ["_law_deck_here", "_law_many", "_law_letters", "_law_way", "_law_at", "_law_found", "_law_k", "_law_sign"] ["_law_deck_here", "_law_many"] (defScope s_names) := ⟨rfl, rfl, rfl, by decide +kernel, rfl, by decide +kernel, by decide +kernel⟩
theorem cut_len : ∀ j : Fin 6, (cutS "zyxwv" none (some ((j.val : Nat) : Int))).length ≤ 10 := by decide +kernel
theorem okl_names {f fD : Addr} {fd fdD : FuncData} (F : Fun K "_law_names" "_law_names" s_names f fd) (T : Nm mg) (Ts : mg "sorted" = none)
    (D_draw : DefOk K mg "_law_draw" sDraw ["_law_deck_here", "_law_bound"] fD fdD) : FnOk P w K mg base CX0 2 f fd ["_law_deck_here", "_law_many"] spNms := by
  have G_draw : FnOk P w K mg base CX0 1 fD fdD ["_law_deck_here", "_law_bound"] spDraw := ok_draw D_draw.F
  refine F.ok sc_names (fun vs H Q E h => ?_) (fun cdv A outer s H vs Q E hr h => ?_)
  · obtain ⟨p, q, b, m, rfl, _⟩ := h
    rfl
  · obtain ⟨p, q, b, m, rfl, hm, D, hb, k⟩ := h
    refine ⟨_, (pss_cons (ps_par3 (i := 2) (j := 3) (l := 4) rfl sc_names.nd rfl rfl rfl (by decide) (by decide) (by decide) rfl rfl rfl (pa_cons pe_str (pa_cons (pe_call G_draw hr rfl D_draw.g D_draw.F.kp D_draw.b .nil pass0 (pa_cons (pv 0) (pa_cons pe_int pa_nil))) (pa_cons (pe_call G_draw hr rfl D_draw.g D_draw.F.kp D_draw.b .nil pass0 (pa_cons (pv 0) (pa_cons pe_int pa_nil))) pa_nil))) (by rfl))
      (pss_cons (ps_set (i := 5) sc_names.nd rfl (Or.inl rfl) (pe_lst pa_nil))
      (pss_cons (ps_for PassesOwn.never rfl (pi_range1 rfl T.range (pa_cons (pv 1) pa_nil)) (pg_name (i := 6) sc_names.nd rfl (Or.inl rfl))
        (pss_cons (ps_set (i := 7) sc_names.nd rfl (Or.inl rfl) (pe_ix ix_str (pv 2) (pe_op op_mod (pe_op op_addN (pv 4) (pe_op op_mulN pe_int (pv 6))) pe_int) (fun _ _ => rfl)))
        (pss_one (ps_expr (pe_bm PySem.F.plainAttrs_list PySem.F.slot_list_append PySem.F.type_list_append mt_append (pv 5) (pa_cons (pe_ix ix_list (pe_lst (pa_cons (pv 7) (pa_cons (pe_op op_add_str pe_str (pv 7)) (pa_cons (pe_op op_add_str (pv 7) (pe_slice sl_str pe_str po_none (po_some (pe_op op_mod (pv 6) pe_int)))) pa_nil)))) (pv 3) (fun _ _ => rfl)) pa_nil))))))
      (pss_one (ps_ret (pe_callB cr_sortedS (by rfl) Ts (by decide +kernel) (pa_cons (pv 5) pa_nil))))))), ?_⟩
    obtain ⟨ds, mx, c, D0, hc⟩ := D
    refine ⟨_, rfl, p, q, ds, mx, c, 3, rfl, by decide, by decide, D0, by omega, fun wy H1x H1 w0 hw O1 D1 => ?_⟩
    obtain ⟨wy, rfl⟩ := nat_of w0
    refine ⟨_, rfl, p, q, _, mx, c + 1, 26, rfl, by decide, by decide, D1, by omega, fun at' H2x H2 a0 ha O2 D2' => ?_⟩
    obtain ⟨at', rfl⟩ := nat_of a0
    have D2 : Dk H2 p q (b + 2) := ⟨_, mx, _, D2', by omega⟩
    have O12 := O1.trans O2
    refine ⟨_, _, _, rfl, (by show 0 ≤ sizeLine; decide), fun r nr => ?_⟩
    obtain ⟨rp, rq⟩ := D2.new nr
    have S2 := same_new (o := HO.lst []) nr
    have D3 : Dk (upd H2 r (.lst [])) p q (b + 2) := dk_upd D2 rp rq
    refine ⟨_, rfl, m, rfl, by omega, by omega, for_range (n := m) (fun i σ H' => ∃ (x6 x7 : Option V), σ = [some (.ref p), some (.int (m : Nat)), some (.str letters), some (.int (wy : Nat)), some (.int (at' : Nat)), some (.ref r), x6, x7] ∧ Same H2 H' ∧ Dk H' p q (b + 2) ∧ H' r = some (.lst (((List.range i).map (nmT wy at')).map V.str)))
      ⟨none, none, rfl, S2, D3, upd_same⟩ ?_ ?_⟩
    · rintro i σ H3 hi ⟨x6, x7, rfl, S3, D4, hr3⟩
      rw [Int.zero_add]
      refine ⟨_, rfl, _, rfl, _, rfl, 7, i, rfl, rfl, by decide, at', 7 * i, rfl, rfl, _, _, rfl, rfl, (by show (0 : Int) < 26; decide), ?_⟩
      refine ⟨letters, (((at' + 7 * i) % 26 : Nat) : Int), 97 + (at' + 7 * i) % 26, rfl, rfl, by decide, letter_at ⟨(at' + 7 * i) % 26, Nat.mod_lt _ (by decide)⟩, ?_⟩
      have hsg : (sgT at' i).length = 1 := rfl
      refine ⟨_, rfl, .inl ⟨rfl, _, SqL.of hr3⟩, _, rfl, _, rfl, "abcde", sgT at' i, rfl, rfl, (by rw [hsg]; decide), _, rfl, _, rfl, _, _, rfl, rfl, (by show (0 : Int) < 6; decide), ?_⟩
      have hcu : (cutS "zyxwv" none (some ((i % 6 : Nat) : Int))).length ≤ 10 := cut_len ⟨i % 6, Nat.mod_lt _ (by decide)⟩
      refine ⟨((i % 6 : Nat) : Int), rfl, "zyxwv", rfl, by decide, sgT at' i, cutS "zyxwv" none (some ((i % 6 : Nat) : Int)), rfl, rfl, (by rw [hsg, sizeLine_eq]; omega), (by show 3 ≤ sizeLine; decide), fun l3 n3 => ?_⟩
      have e3 : upd H3 l3 (.lst [.str (sgT at' i), .str ("abcde" ++ sgT at' i), .str (sgT at' i ++ cutS "zyxwv" none (some ((i % 6 : Nat) : Int)))]) l3 = some (.lst [.str (sgT at' i), .str ("abcde" ++ sgT at' i), .str (sgT at' i ++ cutS "zyxwv" none (some ((i % 6 : Nat) : Int)))]) := upd_same
      have S4 := same_new (o := HO.lst [.str (sgT at' i), .str ("abcde" ++ sgT at' i), .str (sgT at' i ++ cutS "zyxwv" none (some ((i % 6 : Nat) : Int)))]) n3
      have hG : ∀ G : Hp → Prop, (∀ Z, Z = upd H3 l3 (.lst [.str (sgT at' i), .str ("abcde" ++ sgT at' i), .str (sgT at' i ++ cutS "zyxwv" none (some ((i % 6 : Nat) : Int)))]) → G Z) → G (upd H3 l3 (.lst [.str (sgT at' i), .str ("abcde" ++ sgT at' i), .str (sgT at' i ++ cutS "zyxwv" none (some ((i % 6 : Nat) : Int)))])) := fun G h => h _ rfl
      refine hG _ fun H4 e4 => ?_
      rw [← e4] at e3 S4
      clear e4 hG
      have hw3 : wy = 0 ∨ wy = 1 ∨ wy = 2 := by omega
      have eat : atI [V.str (sgT at' i), .str ("abcde" ++ sgT at' i), .str (sgT at' i ++ cutS "zyxwv" none (some ((i % 6 : Nat) : Int)))] ((wy : Nat) : Int) = some (.str (nmT wy at' i)) := by
        refine atI_nat ?_
        rcases hw3 with rfl | rfl | rfl <;> rfl
      refine ⟨_, rfl, l3, _, _, _, rfl, rfl, SqL.of e3, eat, r, _, _, rfl, rfl, S4 _ _ hr3, (by rw [List.length_map, List.length_map, List.length_range, sizeLine_eq]; omega), ?_⟩
      refine ⟨_, _, rfl, ?_, dk_upd (D4.same S4) rp rq, ?_⟩
      · exact grow nr (S3.trans S4)
      · rw [upd_same, List.range_succ, List.map_append, List.map_append]
        rfl
    · rintro σ H3 ⟨x6, x7, rfl, S3, D4, hr3⟩
      refine ⟨_, rfl, r, _, rfl, SqL.of hr3, by rw [List.length_map, List.length_range]; omega, fun ys t hp hs nt => ?_⟩
      obtain ⟨N, hl⟩ := names_of (by omega) (by omega) hm hp hs
      obtain ⟨tp, tq⟩ := D4.new nt
      exact k t ys _ ((O12.trans (.of_same S3)).trans (.of_same (same_new nt))) (dk_upd D4 tp tq) upd_same tp tq hl N
end
end K2
set_option maxRecDepth 100000
set_option maxHeartbeats 4000000
namespace K2
open PySem PySem.Spec PyProof.Rows L2
/-! ### values as the makers give them -/
mutual
def fineB (s : Nat) : PyData → Bool
  | .int i => decide (i.natAbs < 10 ^ (40 + s))
  | .str x => x.cps.toList.all (fun c => decide (c < 128)) && (txtOk x && decide (x.length ≤ 200 * (s + 1)))
  | .list l => fineAll s l
  | .tuple l => fineAll s l
  | .dict kv => kv.isEmpty
  | .none => true
  | .bool _ => true
def fineAll (s : Nat) : List PyData → Bool
  | [] => true
  | d :: ds => fineB s d && fineAll s ds
end
mutual
def mass : PyData → Nat
  | .str x => 1 + x.cps.size
  | .list l => 1 + massAll l
  | .tuple l => 1 + massAll l
  | .dict _ => 1
  | .none => 1
  | .bool _ => 1
  | .int _ => 1
def massAll : List PyData → Nat
  | [] => 0
  | d :: ds => mass d + massAll ds
end
theorem fineAll_iff {s : Nat} : ∀ {l : List PyData}, fineAll s l = true ↔ ∀ d ∈ l, fineB s d = true
  | [] => by simp [fineAll]
  | a :: l => by simp [fineAll, fineAll_iff (l := l)]
theorem massAll_append : ∀ (a b : List PyData), massAll (a ++ b) = massAll a + massAll b
  | [], b => by simp [massAll]
  | x :: a, b => by
    rw [List.cons_append, massAll, massAll, massAll_append a b]
    omega
theorem depthAll_append : ∀ (a b : List PyData), PyData.depthAll (a ++ b) = max (PyData.depthAll a) (PyData.depthAll b)
  | [], b => by simp [PyData.depthAll]
  | x :: a, b => by
    rw [List.cons_append, PyData.depthAll, PyData.depthAll, depthAll_append a b]
    omega
theorem mass_pos (d : PyData) : 1 ≤ mass d := by
  cases d <;> simp [mass]
mutual
theorem mass_nodes : ∀ d : PyData, nodes d ≤ mass d
  | .str x => by simp [nodes, mass]
  | .list l => by
    have z := massAll_nodes l
    simp only [nodes, mass]
    omega
  | .tuple l => by
    have z := massAll_nodes l
    simp only [nodes, mass]
    omega
  | .dict _ => by simp [nodes, mass]
  | .none => by simp [nodes, mass]
  | .bool _ => by simp [nodes, mass]
  | .int _ => by simp [nodes, mass]
theorem massAll_nodes : ∀ l : List PyData, nodesAll l ≤ massAll l
  | [] => by simp [nodesAll, massAll]
  | d :: ds => by
    have z := mass_nodes d
    have y := massAll_nodes ds
    rw [nodesAll, massAll]
    omega
end
mutual
theorem fine_bulk {s : Nat} : ∀ d : PyData, fineB s d = true → d.bulk + 1 ≤ mass d
  | .str x, _ => by
    simp only [PyData.bulk, mass]
    omega
  | .list l, h => by
    have z := fine_bulkAll l (by simpa only [fineB] using h)
    simp only [PyData.bulk, mass]
    omega
  | .tuple l, h => by
    have z := fine_bulkAll l (by simpa only [fineB] using h)
    simp only [PyData.bulk, mass]
    omega
  | .dict kv, h => by
    have e : kv = [] := by simpa [fineB] using h
    subst e
    simp [PyData.bulk, PyData.bulkKv, mass]
  | .none, _ => by simp [PyData.bulk, mass]
  | .bool _, _ => by simp [PyData.bulk, mass]
  | .int _, _ => by simp [PyData.bulk, mass]
theorem fine_bulkAll {s : Nat} : ∀ l : List PyData, fineAll s l = true → PyData.bulkAll l ≤ massAll l
  | [], _ => by simp [PyData.bulkAll, massAll]
  | d :: ds, h => by
    have h' : fineB s d = true ∧ fineAll s ds = true := by simpa [fineAll] using h
    have z := fine_bulk d h'.1
    have y := fine_bulkAll ds h'.2
    rw [PyData.bulkAll, massAll]
    omega
end
mutual
theorem fine_int {s : Nat} (hs : s ≤ 10) : ∀ d : PyData, fineB s d = true → okInt d
  | .int i, h => by
    have h' : i.natAbs < 10 ^ (40 + s) := by simpa [fineB] using h
    simp only [okInt]
    exact Nat.lt_of_lt_of_le h' (Nat.pow_le_pow_right (by decide) (by omega))
  | .list l, h => by
    simp only [okInt]
    exact fine_ints hs l (by simpa only [fineB] using h)
  | .tuple l, h => by
    simp only [okInt]
    exact fine_ints hs l (by simpa only [fineB] using h)
  | .str _, _ => by simp [okInt]
  | .dict _, _ => by simp [okInt]
  | .none, _ => by simp [okInt]
  | .bool _, _ => by simp [okInt]
theorem fine_ints {s : Nat} (hs : s ≤ 10) : ∀ l : List PyData, fineAll s l = true → okInts l
  | [], _ => by simp [okInts]
  | d :: ds, h => by
    have h' : fineB s d = true ∧ fineAll s ds = true := by simpa [fineAll] using h
    simp only [okInts]
    exact ⟨fine_int hs d h'.1, fine_ints hs ds h'.2⟩
end
mutual
theorem fine_short {s : Nat} (hs : s ≤ 10) : ∀ d : PyData, fineB s d = true → d.leavesShort 60 = true
  | .int i, h => by
    have h' : i.natAbs < 10 ^ (40 + s) := by simpa [fineB] using h
    simp only [PyData.leavesShort]
    have z := int_text_length_le10 (a := i) (k := 40 + s) (by omega) h'
    refine decide_eq_true ?_
    simp only [PyData.shown]
    rw [PySem.ofString_length]
    omega
  | .str x, h => by
    have h' : x.cps.toList.all (fun c => decide (c < 128)) = true := by
      rw [fineB, Bool.and_eq_true] at h
      exact h.1
    simp only [PyData.leavesShort, List.all_eq_true, decide_eq_true_eq] at h' ⊢
    intro c hc
    have := h' c hc
    omega
  | .list l, h => by
    simp only [PyData.leavesShort]
    exact fine_shorts hs l (by simpa only [fineB] using h)
  | .tuple l, h => by
    simp only [PyData.leavesShort]
    exact fine_shorts hs l (by simpa only [fineB] using h)
  | .dict kv, h => by
    have e : kv = [] := by simpa [fineB] using h
    subst e
    simp [PyData.leavesShort, PyData.leavesShortKv]
  | .none, _ => by simp [PyData.leavesShort]
  | .bool _, _ => by simp [PyData.leavesShort]
theorem fine_shorts {s : Nat} (hs : s ≤ 10) : ∀ l : List PyData, fineAll s l = true → PyData.leavesShortAll 60 l = true
  | [], _ => by simp [PyData.leavesShortAll]
  | d :: ds, h => by
    have h' : fineB s d = true ∧ fineAll s ds = true := by simpa [fineAll] using h
    simp only [PyData.leavesShortAll, Bool.and_eq_true]
    exact ⟨fine_short hs d h'.1, fine_shorts hs ds h'.2⟩
end
theorem fine_leaf {s : Nat} {d : PyData} (h : fineB s d = true) : leafD d = true := by
  match d, h with
  | .tuple (.str z :: ds), h =>
    have h' : fineB s (.str z) = true := by
      rw [fineB] at h
      exact fineAll_iff.mp h _ (by simp)
    rw [fineB, Bool.and_eq_true, Bool.and_eq_true] at h'
    have ht := h'.2.1
    show (!nestW z) = true
    unfold nestW
    have n1 : (z == "product") = false := by
      by_cases e : z = "product"
      · rw [e] at ht
        exact absurd ht (by decide +kernel)
      · exact beq_false_of_ne e
    have n2 : (z == "choice") = false := by
      by_cases e : z = "choice"
      · rw [e] at ht
        exact absurd ht (by decide +kernel)
      · exact beq_false_of_ne e
    have n3 : (z == "power") = false := by
      by_cases e : z = "power"
      · rw [e] at ht
        exact absurd ht (by decide +kernel)
      · exact beq_false_of_ne e
    have n4 : (z == "decorated") = false := by
      by_cases e : z = "decorated"
      · rw [e] at ht
        exact absurd ht (by decide +kernel)
      · exact beq_false_of_ne e
    rw [n1, n2, n3, n4]
    rfl
  | .tuple [], _ => rfl
  | .tuple (.none :: _), _ => rfl
  | .tuple (.bool _ :: _), _ => rfl
  | .tuple (.int _ :: _), _ => rfl
  | .tuple (.list _ :: _), _ => rfl
  | .tuple (.tuple _ :: _), _ => rfl
  | .tuple (.dict _ :: _), _ => rfl
  | .none, _ => rfl
  | .bool _, _ => rfl
  | .int _, _ => rfl
  | .str _, _ => rfl
  | .list _, _ => rfl
  | .dict _, _ => rfl
theorem fine_ok {s : Nat} {d : PyData} (hs : s ≤ 10) (h : fineB s d = true) (hm : mass d ≤ 2400) (hd : d.depth ≤ 60) : Ok d := by
  refine ⟨fine_leaf h, fine_int hs d h, hd, Nat.le_trans (mass_nodes d) hm, ?_⟩
  have z := PyData.shown_le_bulk 60 (by decide) d (fine_short hs d h)
  have y := fine_bulk d h
  rw [sizeLine_eq]
  omega
/-- what a maker gives: fine, and no larger than m, no deeper than n -/
structure Fine (s m n : Nat) (d : PyData) : Prop where
  f : fineB s d = true
  m : mass d ≤ m
  n : d.depth ≤ n
theorem Fine.ok {s m n : Nat} {d : PyData} (F : Fine s m n d) (hs : s ≤ 10) (hm : m ≤ 2400) (hn : n ≤ 60) : Ok d := fine_ok hs F.f (Nat.le_trans F.m hm) (Nat.le_trans F.n hn)
theorem Fine.mono {s m n m' n' : Nat} {d : PyData} (F : Fine s m n d) (hm : m ≤ m') (hn : n ≤ n') : Fine s m' n' d := ⟨F.f, Nat.le_trans F.m hm, Nat.le_trans F.n hn⟩
end K2
set_option maxRecDepth 100000
set_option maxHeartbeats 4000000
namespace K2
open PySem PySem.Spec PyProof.Rows L2
/-! ### orders as the makers put them together -/
def itemD (x : Str) : PyData := .tuple [.str "item", .str x]
def joinD (w : Str) (ds : List PyData) : PyData := .tuple [.str w, .tuple ds]
def isSP (w : Str) : Prop := w = "series" ∨ w = "parallel"
theorem item_order (n : Nat) {x : Str} (h : nameB (.str x) = true) : orderB (n + 1) (itemD x) = true := by
  rw [orderB]
  have e1 : tupOf 2 2 (itemD x) = true := rfl
  have e2 : eqStr "item" (at0 (tupItems (itemD x)) 0) = true := by
    show (("item" : Str) == "item") = true
    decide +kernel
  rw [e1, e2, if_pos rfl, Bool.true_and]
  exact h
theorem item_names (n : Nat) (x : Str) : namesN (n + 1) (itemD x) = [x] := by
  rw [namesN]
  have e2 : eqStr "item" (at0 (tupItems (itemD x)) 0) = true := by
    show (("item" : Str) == "item") = true
    decide +kernel
  rw [e2, if_pos rfl]
  rfl
theorem fine_name {x : Str} (h : nmF x = true) : fineB 0 (.str x) = true ∧ mass (.str x) ≤ 7 := by
  unfold nmF at h
  rw [Bool.and_eq_true, Bool.and_eq_true] at h
  have hl := of_decide_eq_true h.2.2
  refine ⟨?_, ?_⟩
  · rw [fineB, h.1, h.2.1]
    exact decide_eq_true (by omega)
  · have e : x.length = x.cps.size := rfl
    simp only [mass]
    omega
theorem item_fine {x : Str} (h : nmF x = true) : Fine 0 13 1 (itemD x) := by
  obtain ⟨h1, h2⟩ := fine_name h
  have e : fineB 0 (.str "item") = true := by decide +kernel
  have m : mass (.str "item") = 5 := by decide +kernel
  refine ⟨?_, ?_, ?_⟩
  · unfold itemD
    rw [fineB, fineAll, fineAll, fineAll, e, h1]
    rfl
  · unfold itemD
    simp only [mass, massAll] at m h2 ⊢
    omega
  · unfold itemD
    simp [PyData.depth, PyData.depthAll]
theorem join_order (n : Nat) {w : Str} (hw : isSP w) {ds : List PyData} (h2 : 2 ≤ ds.length) (h6 : ds.length ≤ 6) (h : ∀ d ∈ ds, orderB n d = true) : orderB (n + 1) (joinD w ds) = true := by
  rw [orderB]
  have e1 : tupOf 2 2 (joinD w ds) = true := rfl
  have e2 : eqStr "item" (at0 (tupItems (joinD w ds)) 0) = false := by
    rcases hw with rfl | rfl
    · show (("series" : Str) == "item") = false
      decide +kernel
    · show (("parallel" : Str) == "item") = false
      decide +kernel
  have e3 : (eqStr "series" (at0 (tupItems (joinD w ds)) 0) || eqStr "parallel" (at0 (tupItems (joinD w ds)) 0)) = true := by
    rcases hw with rfl | rfl
    · show ((("series" : Str) == "series") || (("series" : Str) == "parallel")) = true
      decide +kernel
    · show ((("parallel" : Str) == "series") || (("parallel" : Str) == "parallel")) = true
      decide +kernel
  have e4 : tupOf 2 6 (at0 (tupItems (joinD w ds)) 1) = true := by
    show (decide ((2 : Int) ≤ (ds.length : Int)) && decide ((ds.length : Int) ≤ 6)) = true
    rw [decide_eq_true (by omega), decide_eq_true (by omega)]
    rfl
  have e5 : (tupItems (at0 (tupItems (joinD w ds)) 1)).all (orderB n) = true := by
    show ds.all (orderB n) = true
    exact List.all_eq_true.mpr h
  rw [e1, e2, if_neg Bool.false_ne_true, e3, e4, e5]
  rfl
theorem join_names (n : Nat) {w : Str} (hw : isSP w) (ds : List PyData) : namesN (n + 1) (joinD w ds) = ds.flatMap (namesN n) := by
  rw [namesN]
  have e2 : eqStr "item" (at0 (tupItems (joinD w ds)) 0) = false := by
    rcases hw with rfl | rfl
    · show (("series" : Str) == "item") = false
      decide +kernel
    · show (("parallel" : Str) == "item") = false
      decide +kernel
  rw [e2, if_neg Bool.false_ne_true]
  rfl
theorem join_fine {s : Nat} {w : Str} (hw : isSP w) {ds : List PyData} {m n : Nat} (h : ∀ d ∈ ds, fineB s d = true) (hm : massAll ds ≤ m) (hn : PyData.depthAll ds ≤ n) : Fine s (m + 11) (n + 2) (joinD w ds) := by
  have e : fineB s (.str w) = true := by
    have z : ∀ w : Str, isSP w → w.cps.toList.all (fun c => decide (c < 128)) = true ∧ txtOk w = true ∧ w.length ≤ 8 := fun w hw => by
      rcases hw with rfl | rfl <;> decide +kernel
    obtain ⟨a, b, c⟩ := z w hw
    rw [fineB, a, b]
    exact decide_eq_true (by omega)
  have m9 : mass (.str w) ≤ 9 := by
    rcases hw with rfl | rfl <;> decide +kernel
  refine ⟨?_, ?_, ?_⟩
  · unfold joinD
    rw [fineB, fineAll, fineAll, fineAll, e, fineB, fineAll_iff.mpr h]
    rfl
  · unfold joinD
    simp only [mass, massAll] at m9 ⊢
    omega
  · unfold joinD
    simp only [PyData.depth, PyData.depthAll]
    omega
theorem items_mass : ∀ {ns : List Str}, (∀ x ∈ ns, nmF x = true) → massAll (ns.map itemD) ≤ 13 * ns.length ∧ PyData.depthAll (ns.map itemD) ≤ 1
  | [], _ => by simp [massAll, PyData.depthAll]
  | x :: ns, h => by
    obtain ⟨a, b⟩ := items_mass (ns := ns) fun y hy => h y (by simp [hy])
    have F := item_fine (h x (by simp))
    have f1 := F.m
    have f2 := F.n
    rw [List.map_cons, massAll, PyData.depthAll, List.length_cons]
    omega
theorem items_names (n : Nat) : ∀ ns : List Str, (ns.map itemD).flatMap (namesN (n + 1)) = ns
  | [] => rfl
  | x :: ns => by
    rw [List.map_cons, List.flatMap_cons, item_names, items_names n ns]
    rfl
end K2
set_option maxRecDepth 100000
set_option maxHeartbeats 4000000
namespace K2
open PySem PySem.Spec PyProof.Rows L2
/-! ### the law's order -/
abbrev s_order : Stmt := top 91
def spOrdM (k : Nat) : Sp := fun vs H Q _ => ∃ (p q t : Addr) (b c : Nat) (ns : List Str), vs = [.ref p, .ref t] ∧ H t = some (.lst (ns.map .str)) ∧ t ≠ p ∧ t ≠ q ∧ 1 ≤ ns.length ∧ ns.length ≤ 2 ^ k ∧ ns.length ≤ 20 ∧ (∀ x ∈ ns, nameB (.str x) = true ∧ nmF x = true) ∧ Dk H p q b ∧ b + 2 * ns.length ≤ c + 2 ∧ c ≤ 100000000 ∧
  ∀ (v : V) (d : PyData) (H' : Hp), Off p q H H' → Dk H' p q c → Dat (hide p q H') v d → orderB (k + 1) d = true → namesN (k + 1) d = ns → Fine 0 (24 * ns.length - 11) (2 * k + 1) d → Q v H'
theorem nm_len {x : Str} (h : nmF x = true) : x.length ≤ 1000 := by
  unfold nmF at h
  rw [Bool.and_eq_true, Bool.and_eq_true] at h
  have hl := of_decide_eq_true h.2.2
  omega
theorem dk_ne {H : Hp} {p q a : Addr} {b : Nat} {xs : List V} (D : Dk H p q b) (h : H a = some (.tup xs)) : a ≠ p ∧ a ≠ q := by
  obtain ⟨ns, m, c, D, hc⟩ := D
  refine ⟨fun e => ?_, fun e => ?_⟩
  · rw [e, D.ob] at h
    cases h
  · rw [e, D.ce] at h
    cases h
theorem dat_item {H : Hp} {a : Addr} {x : Str} (h : H a = some (.tup [.str "item", .str x])) (hx : nmF x = true) : Dat H (.ref a) (itemD x) := .tup h (.cons (.str _ (by decide)) (.cons (.str _ (nm_len hx)) .nil))
theorem dat_items {H : Hp} {bs : List Addr} {ns : List Str} (hl : bs.length = ns.length) (h : ∀ (j : Nat) (b : Addr), bs[j]? = some b → ∃ x, ns[j]? = some x ∧ H b = some (.tup [.str "item", .str x]) ∧ nmF x = true) : DatAll H (bs.map V.ref) (ns.map itemD) := by
  induction bs generalizing ns with
  | nil =>
    cases ns with
    | nil => exact .nil
    | cons x l => simp at hl
  | cons b bs ih =>
    cases ns with
    | nil => simp at hl
    | cons x l =>
      obtain ⟨y, hy, hb, hf⟩ := h 0 b rfl
      obtain rfl : x = y := Option.some.inj hy
      exact .cons (dat_item hb hf) (ih (by simpa using hl) fun j c hc => h (j + 1) c hc)
theorem cut_take {xs : List V} {n : Nat} : cutV xs none (some (n : Int)) = xs.take n := by
  unfold cutV
  have e1 : HT.sIx xs.length xs.length (some (n : Int)) = min n xs.length := HT.sIx_nat xs.length _ n
  have e2 : HT.sIx xs.length 0 none = 0 := HT.sIx_none _ _
  rw [e1, e2, List.drop_zero, Nat.sub_zero, List.take_eq_take_iff]
  omega
theorem cut_drop {xs : List V} {n : Nat} : cutV xs (some (n : Int)) none = xs.drop n := by
  unfold cutV
  have e1 : HT.sIx xs.length 0 (some (n : Int)) = min n xs.length := HT.sIx_nat xs.length _ n
  have e2 : HT.sIx xs.length xs.length none = xs.length := HT.sIx_none _ _
  rw [e1, e2]
  by_cases h : n ≤ xs.length
  · rw [Nat.min_eq_left h, List.take_of_length_le (by rw [List.length_drop]; omega)]
  · rw [Nat.min_eq_right (by omega), List.drop_eq_nil_of_le (Nat.le_refl _), List.drop_eq_nil_of_le (show xs.length ≤ n by omega), List.take_nil]
section
variable {P : Program} {w : World} {K : PySem.W.Frag} {mg : Str → Option Value} {base : Heap}
theorem sc_order : FnScope ["_law_deck_here", "_law_names_here", "_law_word", "_law_at", "_law_name"] ["_law_deck_here", "_law_names_here"] (defScope s_order) := ⟨rfl, rfl, rfl, by decide +kernel, rfl, by decide +kernel, by decide +kernel⟩
theorem om_body {f fD fP : Addr} {fd fdD fdP : FuncData} {sp : Sp} (k : Nat) (F : Fun K "_law_order" "_law_order" s_order f fd) (bs : L2.Binds K fd ["_law_deck_here", "_law_names_here"] []) (g : mg "_law_order" = some (.ref f)) (G : FnOk P w K mg base CX0 (2 + k) f fd ["_law_deck_here", "_law_names_here"] sp) (T : Nm mg)
    (D_draw : DefOk K mg "_law_draw" sDraw ["_law_deck_here", "_law_bound"] fD fdD) (D_pick : DefOk K mg "_law_pick" sPick ["_law_deck_here", "_law_items"] fP fdP)
    (hn : ∀ m, k = m + 1 → ∀ vs H Q E, spOrdM m vs H Q E → sp vs H Q E) : FnOk P w K mg base CX0 (3 + k) f fd ["_law_deck_here", "_law_names_here"] (spOrdM k) := by
  have G_draw : FnOk P w K mg base CX0 1 fD fdD ["_law_deck_here", "_law_bound"] spDraw := ok_draw D_draw.F
  have G_pick : FnOk P w K mg base CX0 2 fP fdP ["_law_deck_here", "_law_items"] spPick := ok_pick D_pick.F T D_draw.F D_draw.b D_draw.g
  rw [show 3 + k = (2 + k) + 1 by omega]
  refine F.ok sc_order (fun vs H Q E h => ?_) (fun cdv A outer s H vs Q E hr h => ?_)
  · obtain ⟨p, q, t, b, c, ns, rfl, _⟩ := h
    rfl
  · obtain ⟨p, q, t, b, c, ns, rfl, ht, tp, tq, h1, hk, h20, hns, D, hb, hc, q1⟩ := h
    have hr1 : Room 1 _ := hr.mono (by omega)
    have hr2 : Room 2 _ := hr.mono (by omega)
    refine ⟨_, (pss_cons (ps_if (pt_cmpR op_eq (pe_callB cr_lenS (by rfl) T.len PySem.boot_len (pa_cons (pv 1) pa_nil)) pe_int (nomark _))
        (pss_one (ps_ret (pe_tup (pa_cons pe_str (pa_cons (pe_ix ix_list (pv 1) pe_int (fun _ _ => rfl)) pa_nil)))))
        pss_nil)
      (pss_cons (ps_set (i := 2) sc_order.nd rfl (Or.inl rfl) (pe_call G_pick hr2 rfl D_pick.g D_pick.F.kp D_pick.b .nil pass0 (pa_cons (pv 0) (pa_cons (pe_lst (pa_cons pe_str (pa_cons pe_str pa_nil))) pa_nil))))
      (C8.pss_cut (ps_if (PW.pt (pw_and (pt_cmpR op_lt (pe_callB cr_lenS (by rfl) T.len PySem.boot_len (pa_cons (pv 1) pa_nil)) pe_int (nomark _)) (pw_and1 (pt_cmpR op_eq (pe_call G_draw hr1 rfl D_draw.g D_draw.F.kp D_draw.b .nil pass0 (pa_cons (pv 0) (pa_cons pe_int pa_nil))) pe_int (nomark _)))))
        (pss_one (ps_ret (pe_tup (pa_cons (pv 2) (pa_cons (pe_callTy call_tuple_of (by rfl) T.tuple (by decide +kernel) (pa_cons (pe_lc (own := [("_law_name", 4)]) (g := (gName 4)) (tt := tYes) rfl sc_order.nd (pi_list (pv 1)) (blkOk_by (N := ["_law_deck_here", "_law_names_here", "_law_word", "_law_at", "_law_name"]) (sc := defScope s_order) (by decide +kernel))
          (fun _ _ _ _ _ => (pg_name (i := 4) sc_order.nd rfl (Or.inl rfl))) (fun _ _ _ _ _ => pts_nil) (fun _ _ _ _ _ => (pe_tup (pa_cons pe_str (pa_cons (pv 4) pa_nil))))) pa_nil)) pa_nil)))))
        pss_nil)
      (pss_cons (ps_set (i := 3) sc_order.nd rfl (Or.inl rfl) (pe_op op_fdiv (pe_callB cr_lenS (by rfl) T.len PySem.boot_len (pa_cons (pv 1) pa_nil)) pe_int))
      (pss_one (ps_ret (pe_tup (pa_cons (pv 2) (pa_cons (pe_tup (pa_cons (pe_call G hr rfl g F.kp bs .nil pass0 (pa_cons (pv 0) (pa_cons (pe_slice sl_list (pv 1) po_none (po_some (pv 3))) pa_nil))) (pa_cons (pe_call G hr rfl g F.kp bs .nil pass0 (pa_cons (pv 0) (pa_cons (pe_slice sl_list (pv 1) (po_some (pv 3)) po_none) pa_nil))) pa_nil))) pa_nil))))))))), ?_⟩
    have hl : (ns.map V.str).length = ns.length := List.length_map ..
    refine ⟨_, rfl, t, _, rfl, .inl (SqL.of ht), rfl, _, rfl, ?_⟩
    by_cases e1 : ns.length = 1
    · obtain ⟨x, rfl⟩ : ∃ x, ns = [x] := List.length_eq_one_iff.mp e1
      obtain ⟨hx1, hx2⟩ := hns x (by simp)
      refine if_t (decide_eq_true rfl) ?_
      refine ⟨_, rfl, t, _, _, _, rfl, rfl, SqL.of ht, atI_nat (j := 0) rfl, (by show 2 ≤ sizeLine; decide), fun a na => ?_⟩
      exact q1 _ (itemD x) _ (Off.of_same (same_new na)) ((D.same (same_new na)).mono (by omega)) (dat_item (hide_new D na) hx2) (item_order k hx1) (item_names k x) ((item_fine hx2).mono (by simp) (by omega))
    · refine if_f (decide_eq_false fun e => e1 ?_) ?_
      · have z := V.int.inj e
        rw [hl] at z
        omega
      obtain ⟨m, hm⟩ : ∃ m, k = m + 1 := by
        cases k with
        | zero => exact absurd hk (by rw [Nat.pow_zero]; omega)
        | succ m => exact ⟨m, rfl⟩
      have hkm : 2 ^ k = 2 ^ m * 2 := by rw [hm, Nat.pow_succ]
      -- the word
      refine ⟨_, rfl, (by show 2 ≤ sizeLine; decide), fun l nl => ?_⟩
      have S1 := same_new (o := HO.lst [.str "series", .str "parallel"]) nl
      obtain ⟨lp, lq⟩ := D.new nl
      have el : upd H l (.lst [.str "series", .str "parallel"]) l = some (.lst [.str "series", .str "parallel"]) := upd_same
      have Dl := D.same S1
      generalize upd H l (.lst [.str "series", .str "parallel"]) = H1 at S1 el Dl ⊢
      obtain ⟨ds, mx, c0, D0, hc0⟩ := Dl
      refine ⟨p, q, l, ds, mx, c0, _, rfl, el, lp, lq, by decide, by decide, D0, by omega, fun j x ds2 H2 hx O2 D2 => ?_⟩
      obtain ⟨wd, rfl, hwd⟩ : ∃ wd, x = V.str wd ∧ isSP wd := by
        match j, hx with
        | 0, hx => exact ⟨_, (Option.some.inj hx).symm, .inl rfl⟩
        | 1, hx => exact ⟨_, (Option.some.inj hx).symm, .inr rfl⟩
        | j + 2, hx => simp at hx
      have O02 := (Off.of_same (p := p) (q := q) S1).trans O2
      have ht2 := O02 _ _ ht tp tq
      refine ⟨fun σ H' => σ = [some (.ref p), some (.ref t), some (.str wd), none, none] ∧ Off p q H H' ∧ Dk H' p q (b + 2), ?_, ?_⟩
      · refine ⟨_, rfl, t, _, rfl, .inl (SqL.of ht2), _, _, rfl, rfl, _, rfl, ?_⟩
        by_cases e7 : ns.length < 7
        · refine if_t (decide_eq_true (by rw [hl]; omega)) ?_
          refine ⟨_, rfl, p, q, ds2, mx, c0 + 1, 2, rfl, by decide, by decide, D2, by omega, fun i ds3 H3 i0 i1 O3 D3 => ?_⟩
          have O03 := O02.trans O3
          have D3' : Dk H3 p q (b + 2) := ⟨_, mx, _, D3, by omega⟩
          refine ⟨rfl, _, rfl, ?_⟩
          by_cases ei : i = 0
          · refine if_t (decide_eq_true (by rw [ei])) ?_
            have ht3 := O03 _ _ ht tp tq
            refine ⟨_, rfl, _, rfl, t, rfl, ⟨_, SqL.of ht3⟩, fun L nL => lc_tups (walk_list (K := K) (a := t) (xs := ns.map V.str)) (i := 4) (fun j => [V.str "item", (ns.map V.str).getD j .non]) (fun Hx S => SqL.of (S _ _ ht3)) (by rw [hl]; omega) nL (fun j x Hx N hj hxj S hN => ?_) fun H4 bs S4 hL hbl hbs => ?_⟩
            · have g : (ns.map V.str).getD j .non = x := by rw [List.getD_eq_getElem?_getD, hxj]; rfl
              refine ⟨rfl, _, rfl, (by show 2 ≤ sizeLine; decide), fun p np => hN p _ (same_new np) ?_⟩
              rw [upd_same, g]
            rw [hl] at hbl
            refine ⟨L, _, rfl, .inl ⟨SqL.of hL, fun a1 n1 => ⟨(by show 2 ≤ sizeLine; decide), fun a2 n2 => ?_⟩⟩⟩
            have D4 := D3'.same S4
            have D5 := D4.same (same_new (o := HO.tup (bs.map V.ref)) n1)
            have D6 := D5.same (same_new (o := HO.tup [.str wd, .ref a1]) n2)
            have Off6 := ((O03.trans (.of_same S4)).trans (.of_same (same_new (o := HO.tup (bs.map V.ref)) n1))).trans (.of_same (same_new (o := HO.tup [.str wd, .ref a1]) n2))
            have S56 := hide_same (p := p) (q := q) (same_new (o := HO.tup [.str wd, .ref a1]) n2)
            have dA : DatAll (hide p q H4) (bs.map V.ref) (ns.map itemD) := dat_items hbl fun j c hc => by
              have hj : j < ns.length := by
                have := (List.getElem?_eq_some_iff.mp hc).1
                omega
              have hx : ns[j]? = some ns[j] := List.getElem?_eq_getElem hj
              have g : (ns.map V.str).getD j .non = V.str ns[j] := by rw [List.getD_eq_getElem?_getD, List.getElem?_map, hx]; rfl
              have hb2 := hbs j c hc
              rw [g] at hb2
              exact ⟨_, hx, hide_at hb2 (dk_ne D4 hb2).1 (dk_ne D4 hb2).2, (hns _ (List.getElem_mem hj)).2⟩
            have dB : Dat (hide p q (upd (upd H4 a1 (.tup (bs.map V.ref))) a2 (.tup [.str wd, .ref a1]))) (.ref a2) (joinD wd (ns.map itemD)) := by
              refine .tup (hide_new D5 n2) (.cons (.str _ ?_) (.cons (.tup (S56 _ _ (hide_new D4 n1)) ((dA.same (hide_same (same_new n1))).same S56)) .nil))
              rcases hwd with rfl | rfl <;> decide
            have mj := items_mass (ns := ns) fun x hx => (hns x hx).2
            refine q1 _ (joinD wd (ns.map itemD)) _ Off6 (D6.mono (by omega)) dB (join_order k hwd (by rw [List.length_map]; omega) (by rw [List.length_map]; omega) fun d hd => ?_) ?_ ((join_fine hwd (fun d hd => ?_) mj.1 mj.2).mono (by omega) (by omega))
            · obtain ⟨x, hx, rfl⟩ := List.mem_map.mp hd
              rw [hm]
              exact item_order m (hns x hx).1
            · rw [join_names k hwd, hm, items_names]
            · obtain ⟨x, hx, rfl⟩ := List.mem_map.mp hd
              exact (item_fine (hns x hx).2).f
          · exact if_f (decide_eq_false fun e => ei (V.int.inj e)) ⟨rfl, O03, D3'⟩
        · exact if_f (decide_eq_false (by rw [hl]; omega)) (if_f rfl ⟨rfl, O02, ⟨_, mx, _, D2, by omega⟩⟩)
      · rintro σ H2 ⟨rfl, O2, D2⟩
        have ht2 := O2 _ _ ht tp tq
        refine ⟨_, rfl, t, _, rfl, .inl (SqL.of ht2), _, _, rfl, rfl, ⟨by decide, by decide⟩, ?_⟩
        have eh : (((ns.map V.str).length : Nat) : Int) / 2 = ((ns.length / 2 : Nat) : Int) := by
          rw [hl]
          rfl
        obtain ⟨n1, hn1⟩ : ∃ n1, n1 = ns.length / 2 := ⟨_, rfl⟩
        rw [← hn1] at eh
        refine ⟨_, rfl, _, rfl, _, rfl, _, rfl, (n1 : Int), congrArg V.int eh, t, _, rfl, SqL.of ht2, fun t1 nt1 => ?_⟩
        obtain ⟨t1p, t1q⟩ := D2.new nt1
        have et1 : upd H2 t1 (.lst (cutV (ns.map V.str) none (some (n1 : Int)))) t1 = some (.lst ((ns.take n1).map V.str)) := by rw [upd_same, cut_take, List.map_take]
        have S3 := same_new (o := HO.lst (cutV (ns.map V.str) none (some (n1 : Int)))) nt1
        have D3 := D2.same S3
        generalize upd H2 t1 (.lst (cutV (ns.map V.str) none (some (n1 : Int)))) = H3 at et1 S3 D3 ⊢
        have l1 : (ns.take n1).length = n1 := by rw [List.length_take]; omega
        have l2 : (ns.drop n1).length = ns.length - n1 := List.length_drop ..
        refine hn m hm _ _ _ _ ⟨p, q, t1, b + 2, b + 2 * n1, ns.take n1, rfl, et1, t1p, t1q, by omega, by omega, by omega, fun x hx => hns x (List.mem_of_mem_take hx), D3, by omega, by omega, fun v1 d1 H4 O4 D4 da1 or1 nm1 fi1 => ?_⟩
        have O24 := (O2.trans (.of_same S3)).trans O4
        have ht4 := O24 _ _ ht tp tq
        refine ⟨_, rfl, _, rfl, _, rfl, (n1 : Int), congrArg V.int eh, t, _, rfl, SqL.of ht4, fun t2 nt2 => ?_⟩
        obtain ⟨t2p, t2q⟩ := D4.new nt2
        have et2 : upd H4 t2 (.lst (cutV (ns.map V.str) (some (n1 : Int)) none)) t2 = some (.lst ((ns.drop n1).map V.str)) := by rw [upd_same, cut_drop, List.map_drop]
        have S5 := same_new (o := HO.lst (cutV (ns.map V.str) (some (n1 : Int)) none)) nt2
        have D5 := D4.same S5
        generalize upd H4 t2 (.lst (cutV (ns.map V.str) (some (n1 : Int)) none)) = H5 at et2 S5 D5 ⊢
        refine hn m hm _ _ _ _ ⟨p, q, t2, b + 2 * n1, c, ns.drop n1, rfl, et2, t2p, t2q, by omega, by omega, by omega, fun x hx => hns x (List.mem_of_mem_drop hx), D5, by omega, hc, fun v2 d2 H6 O6 D6 da2 or2 nm2 fi2 => ⟨(by show 2 ≤ sizeLine; decide), fun a1 na1 => ⟨(by show 2 ≤ sizeLine; decide), fun a2 na2 => ?_⟩⟩⟩
        have Sa := same_new (o := HO.tup [v1, v2]) na1
        have Sb := same_new (o := HO.tup [.str wd, .ref a1]) na2
        have Da := D6.same Sa
        have dd1 := (((da1.same (hide_same S5)).same (hide_off O6)).same (hide_same Sa)).same (hide_same (p := p) (q := q) Sb)
        have dd2 := (da2.same (hide_same Sa)).same (hide_same (p := p) (q := q) Sb)
        have OA := (((O24.trans (.of_same S5)).trans O6).trans (.of_same Sa)).trans (.of_same Sb)
        have dB : Dat (hide p q (upd (upd H6 a1 (.tup [v1, v2])) a2 (.tup [.str wd, .ref a1]))) (.ref a2) (joinD wd [d1, d2]) := by
          refine .tup (hide_new Da na2) (.cons (.str _ ?_) (.cons (.tup (hide_same Sb _ _ (hide_new D6 na1)) (.cons dd1 (.cons dd2 .nil))) .nil))
          rcases hwd with rfl | rfl <;> decide
        have m1 := fi1.m
        have m2 := fi2.m
        have g1 := fi1.n
        have g2 := fi2.n
        have eM : massAll [d1, d2] = mass d1 + mass d2 := by simp [massAll]
        have eN : PyData.depthAll [d1, d2] ≤ 2 * m + 1 := by
          simp only [PyData.depthAll]
          omega
        refine q1 _ (joinD wd [d1, d2]) _ OA (Da.same Sb) dB (join_order k hwd (by simp) (by simp) fun d hd => ?_) ?_ ((join_fine hwd (fun d hd => ?_) (Nat.le_of_eq eM) eN).mono (by omega) (by omega))
        · rw [hm]
          rcases List.mem_cons.mp hd with rfl | hd
          · exact or1
          · rcases List.mem_cons.mp hd with rfl | hd
            · exact or2
            · cases hd
        · rw [join_names k hwd, hm, List.flatMap_cons, List.flatMap_cons, nm1, nm2, List.flatMap_nil, List.append_nil, List.take_append_drop]
        · rcases List.mem_cons.mp hd with rfl | hd
          · exact fi1.f
          · rcases List.mem_cons.mp hd with rfl | hd
            · exact fi2.f
            · cases hd
theorem okl_orderM {f fD fP : Addr} {fd fdD fdP : FuncData} (F : Fun K "_law_order" "_law_order" s_order f fd) (bs : L2.Binds K fd ["_law_deck_here", "_law_names_here"] []) (g : mg "_law_order" = some (.ref f)) (T : Nm mg)
    (D_draw : DefOk K mg "_law_draw" sDraw ["_law_deck_here", "_law_bound"] fD fdD) (D_pick : DefOk K mg "_law_pick" sPick ["_law_deck_here", "_law_items"] fP fdP) : ∀ k : Nat, FnOk P w K mg base CX0 (3 + k) f fd ["_law_deck_here", "_law_names_here"] (spOrdM k)
  | 0 => om_body (sp := fun _ _ _ _ => False) 0 F bs g fn_none T D_draw D_pick fun m e => by cases e
  | k + 1 => by
    have G := okl_orderM F bs g T D_draw D_pick k
    rw [show 3 + k = 2 + (k + 1) by omega] at G
    refine om_body (k + 1) F bs g G T D_draw D_pick fun m e vs H Q E h => ?_
    obtain rfl : k = m := Nat.succ.inj e
    exact h
end
end K2
set_option maxRecDepth 100000
set_option maxHeartbeats 4000000
namespace K2
open PySem PySem.Spec PyProof.Rows L2
/-! ### the law's counts -/
abbrev s_counts : Stmt := top 92
/-- without r -/
def noR (r : Addr) (H : Hp) : Hp := fun b => if b = r then none else H b
theorem noR_sub {r : Addr} {H : Hp} : Same (noR r H) H := fun b o e => by
  unfold noR at e
  split at e
  · cases e
  · exact e
theorem noR_upd {r : Addr} {H : Hp} {o : HO} : noR r (upd H r o) = noR r H := by
  funext b
  unfold noR
  by_cases e : b = r
  · rw [if_pos e, if_pos e]
  · rw [if_neg e, if_neg e, upd_ne e]
theorem noR_at {r b : Addr} {H : Hp} {o : HO} (h : H b = some o) (n : b ≠ r) : noR r H b = some o := by
  unfold noR
  rw [if_neg n]
  exact h
theorem noR_off {p q r : Addr} {H H' : Hp} (O : Off p q H H') : Same (hide p q (noR r H)) (hide p q (noR r H')) := fun b o e => by
  unfold hide noR at e ⊢
  split at e
  · cases e
  · rename_i h
    rw [if_neg h]
    split at e
    · cases e
    · rename_i h2
      rw [if_neg h2]
      exact O _ _ e (fun z => h (.inl z)) (fun z => h (.inr z))
theorem noR_hide {p q r : Addr} {H : Hp} : Same (hide p q (noR r H)) (hide p q H) := hide_same noR_sub
def cntD (c : Str × Nat) : PyData := .tuple [.str c.1, .int (c.2 : Nat)]
theorem asc_strF : ∀ (l : List Str) (a : Str), (a :: l).Pairwise (fun a b => sLt a b = true) → ascF (.str a) (l.map PyData.str) = true
  | [], _, _ => rfl
  | x :: l, a, h => by
    rw [List.pairwise_cons] at h
    have z := asc_strF l x h.2
    have y : PySem.W.dataLt (.str a) (.str x) = true := by
      rw [PySem.W.dataLt_str]
      exact h.1 x (by simp)
    rw [List.map_cons, ascF, y, z]
    rfl
theorem asc_str {l : List Str} (h : l.Pairwise (fun a b => sLt a b = true)) : ascB (l.map PyData.str) = true := by
  cases l with
  | nil => rfl
  | cons a l =>
    rw [List.map_cons, ascB_cons]
    exact asc_strF l a h
theorem cnt_ok {c : Str × Nat} (h1 : nameB (.str c.1) = true) (h2 : 1 ≤ c.2) (h3 : c.2 ≤ 400) : countB (cntD c) = true := by
  have e1 : tupOf 2 2 (cntD c) = true := rfl
  have e2 : btw 1 400 (.int (c.2 : Nat)) = true := by
    show (decide ((1 : Int) ≤ (c.2 : Nat)) && decide (((c.2 : Nat) : Int) ≤ 400)) = true
    rw [decide_eq_true (by omega), decide_eq_true (by omega)]
    rfl
  unfold countB
  rw [e1]
  show (true && (nameB (.str c.1) && btw 1 400 (.int (c.2 : Nat)))) = true
  rw [h1, e2]
  rfl
theorem cnt_fine {c : Str × Nat} (h1 : nmF c.1 = true) (h3 : c.2 ≤ 400) : fineB 0 (cntD c) = true ∧ mass (cntD c) ≤ 9 ∧ (cntD c).depth ≤ 1 := by
  obtain ⟨a, b⟩ := fine_name h1
  have e : fineB 0 (.int ((c.2 : Nat) : Int)) = true := by
    rw [fineB]
    refine decide_eq_true (Nat.lt_of_le_of_lt (show ((c.2 : Nat) : Int).natAbs ≤ 400 by omega) (by decide))
  refine ⟨?_, ?_, ?_⟩
  · unfold cntD
    rw [fineB, fineAll, fineAll, fineAll, a, e]
    rfl
  · unfold cntD
    simp only [mass, massAll] at b ⊢
    omega
  · unfold cntD
    simp [PyData.depth, PyData.depthAll]
theorem cnts_mass : ∀ {L : List (Str × Nat)}, (∀ c ∈ L, nmF c.1 = true ∧ c.2 ≤ 400) → massAll (L.map cntD) ≤ 9 * L.length ∧ PyData.depthAll (L.map cntD) ≤ 1
  | [], _ => by simp [massAll, PyData.depthAll]
  | x :: ns, h => by
    obtain ⟨a, b⟩ := cnts_mass (L := ns) fun y hy => h y (by simp [hy])
    obtain ⟨_, f1, f2⟩ := cnt_fine (h x (by simp)).1 (h x (by simp)).2
    rw [List.map_cons, massAll, PyData.depthAll, List.length_cons]
    omega
theorem cnts_sum : ∀ L : List (Str × Nat), ((L.map cntD).map countOf).sum = ((L.map (·.2)).sum : Nat)
  | [] => rfl
  | c :: L => by
    rw [List.map_cons, List.map_cons, List.sum_cons, cnts_sum L, List.map_cons, List.sum_cons]
    show ((c.2 : Nat) : Int) + _ = _
    omega
theorem cnts_ok {L : List (Str × Nat)} (h0 : L ≠ []) (h6 : L.length ≤ 6) (h : ∀ c ∈ L, nameB (.str c.1) = true ∧ 1 ≤ c.2 ∧ c.2 ≤ 400) (hs : (L.map (·.2)).sum ≤ 400) (ha : (L.map (·.1)).Pairwise (fun a b => sLt a b = true)) : countsB (.tuple (L.map cntD)) = true := by
  have e1 : tupOf 1 6 (.tuple (L.map cntD)) = true := by
    show (decide ((1 : Int) ≤ ((L.map cntD).length : Int)) && decide (((L.map cntD).length : Int) ≤ 6)) = true
    have : 0 < L.length := List.length_pos_iff.mpr h0
    rw [List.length_map, decide_eq_true (by omega), decide_eq_true (by omega)]
    rfl
  have e2 : (L.map cntD).all countB = true := List.all_eq_true.mpr fun d hd => by
    obtain ⟨c, hc, rfl⟩ := List.mem_map.mp hd
    exact cnt_ok (h c hc).1 (h c hc).2.1 (h c hc).2.2
  have e3 : ((L.map cntD).map letterOf) = (L.map (·.1)).map PyData.str := by
    rw [List.map_map, List.map_map]
    rfl
  unfold countsB
  show (tupOf 1 6 (.tuple (L.map cntD)) && (L.map cntD).all countB && (decide (((L.map cntD).map countOf).sum ≤ 400) && ascB ((L.map cntD).map letterOf))) = true
  rw [e1, e2, e3, asc_str ha, cnts_sum, decide_eq_true (by omega)]
  rfl
def spCnts : Sp := fun vs H Q _ => ∃ (p q : Addr) (b n : Nat), vs = [.ref p, .int (n : Nat)] ∧ 1 ≤ n ∧ n ≤ 400 ∧ Dk H p q b ∧ b + 9 ≤ 100000000 ∧
  ∀ (v : V) (d : PyData) (H' : Hp), Off p q H H' → Dk H' p q (b + 9) → Dat (hide p q H') v d → countsB d = true → Fine 0 60 3 d → Q v H'
section
variable {P : Program} {w : World} {K : PySem.W.Frag} {mg : Str → Option Value} {base : Heap}
theorem sc_counts : FnScope ["_law_deck_here", "_law_total", "_law_names_here", "_law_found", "_law_left", "_law_name", "_law_often"] ["_law_deck_here", "_law_total"] (defScope s_counts) := ⟨rfl, rfl, rfl, by decide +kernel, rfl, by decide +kernel, by decide +kernel⟩
theorem okl_counts {f fD fN : Addr} {fd fdD fdN : FuncData} (F : Fun K "_law_counts" "_law_counts" s_counts f fd) (T : Nm mg) (Ts : mg "sorted" = none) (Tm : mg "max" = none)
    (D_draw : DefOk K mg "_law_draw" sDraw ["_law_deck_here", "_law_bound"] fD fdD) (D_names : DefOk K mg "_law_names" s_names ["_law_deck_here", "_law_many"] fN fdN) : FnOk P w K mg base CX0 3 f fd ["_law_deck_here", "_law_total"] spCnts := by
  have G_draw : FnOk P w K mg base CX0 1 fD fdD ["_law_deck_here", "_law_bound"] spDraw := ok_draw D_draw.F
  have G_names : FnOk P w K mg base CX0 2 fN fdN ["_law_deck_here", "_law_many"] spNms := okl_names D_names.F T Ts D_draw
  refine F.ok sc_counts (fun vs H Q E h => ?_) (fun cdv A outer s H vs Q E hr h => ?_)
  · obtain ⟨p, q, b, n, rfl, _⟩ := h
    rfl
  · obtain ⟨p, q, b, n, rfl, hn1, hn4, D, hb, k⟩ := h
    have hr1 : Room 1 _ := hr.mono (by decide)
    refine ⟨_, (pss_cons (ps_par3 (i := 2) (j := 3) (l := 4) rfl sc_counts.nd rfl rfl rfl (by decide) (by decide) (by decide) rfl rfl rfl (pa_cons (pe_call G_names hr rfl D_names.g D_names.F.kp D_names.b .nil pass0 (pa_cons (pv 0) (pa_cons (pe_op op_addN pe_int (pe_call G_draw hr1 rfl D_draw.g D_draw.F.kp D_draw.b .nil pass0 (pa_cons (pv 0) (pa_cons pe_int pa_nil)))) pa_nil))) (pa_cons (pe_lst pa_nil) (pa_cons (pv 1) pa_nil))) (by rfl))
      (pss_cons (ps_for PassesOwn.never rfl (pi_list (pv 2)) (pg_name (i := 5) sc_counts.nd rfl (Or.inl rfl))
        (pss_cons (ps_set (i := 6) sc_counts.nd rfl (Or.inl rfl) (pe_op op_addN pe_int (pe_call G_draw hr1 rfl D_draw.g D_draw.F.kp D_draw.b .nil pass0 (pa_cons (pv 0) (pa_cons (pe_callB (call_max2 rfl) (by rfl) Tm (by decide +kernel) (pa_cons pe_int (pa_cons (pe_op op_fdiv (pv 4) pe_int) pa_nil))) pa_nil)))))
        (pss_one (ps_if (pt_cmpR op_le (pv 6) (pv 4) (nomark _))
          (pss_cons (ps_expr (pe_bm PySem.F.plainAttrs_list PySem.F.slot_list_append PySem.F.type_list_append mt_append (pv 3) (pa_cons (pe_tup (pa_cons (pv 5) (pa_cons (pv 6) pa_nil))) pa_nil)))
          (pss_one (ps_set (i := 4) sc_counts.nd rfl (Or.inl rfl) (pe_op op_sub (pv 4) (pv 6)))))
          pss_nil))))
      (pss_one (ps_ret (pe_callTy call_tuple_of (by rfl) T.tuple (by decide +kernel) (pa_cons (pv 3) pa_nil)))))), ?_⟩
    obtain ⟨ds, mx, c0, D0, hc0⟩ := D
    refine ⟨_, rfl, _, rfl, p, q, ds, mx, c0, 6, rfl, by decide, by decide, D0, by omega, fun i ds1 H1 i0 i1 O1 D1 => ?_⟩
    obtain ⟨i, rfl⟩ := nat_of i0
    refine ⟨1, i, rfl, rfl, p, q, b + 1, 1 + i, rfl, by omega, ⟨_, mx, _, D1, by omega⟩, by omega, fun t ns H2 O2 D2 ht tp tq hl N => ?_⟩
    refine ⟨(by show 0 ≤ sizeLine; decide), fun r nr => ⟨_, rfl, _, _, _, rfl, ?_⟩⟩
    obtain ⟨rp, rq⟩ := D2.new nr
    have O12 := O1.trans O2
    have S3 := same_new (o := HO.lst []) nr
    have hlm : (ns.map V.str).length = ns.length := List.length_map ..
    refine ⟨_, rfl, t, rfl, ⟨_, SqL.of (S3 _ _ ht)⟩, for_list (K := K) (a := t) (xs := ns.map V.str) (fun i σ H' => ∃ (x5 x6 : Option V) (L : List (Str × Nat)) (items : List V) (left : Nat), σ = [some (.ref p), some (.int (n : Nat)), some (.ref t), some (.ref r), some (.int (left : Nat)), x5, x6] ∧ Off p q H2 H' ∧ Dk H' p q (b + 3 + i) ∧ H' r = some (.lst items) ∧
        DatAll (hide p q (noR r H')) items (L.map cntD) ∧ (L.map (·.2)).sum + left = n ∧ (∀ c ∈ L, (nameB (.str c.1) = true ∧ nmF c.1 = true) ∧ 1 ≤ c.2 ∧ c.2 ≤ 400) ∧ (L.map (·.1)).Sublist (ns.take i) ∧ (1 ≤ i → L ≠ []))
      ⟨none, none, [], [], n, rfl, .of_same S3, (dk_upd D2 rp rq).mono (by omega), upd_same, .nil, by simp, by simp, by simp, by omega⟩ (fun i σ H' _ ⟨_, _, _, _, _, _, O, _⟩ => SqL.of (O _ _ ht tp tq)) ?_ ?_⟩
    · rintro i y σ H3 hi ⟨x5, x6, L, items, left, rfl, O3, D3, hr3, dA, hsum, hL, hsub, hne⟩
      obtain ⟨nm, hnm, rfl⟩ : ∃ nm, ns[i]? = some nm ∧ y = V.str nm := by
        rw [List.getElem?_map] at hi
        cases e : ns[i]? with
        | none =>
          rw [e] at hi
          cases hi
        | some z =>
          rw [e] at hi
          exact ⟨z, rfl, (Option.some.inj hi).symm⟩
      have hil : i < ns.length := (List.getElem?_eq_some_iff.mp hnm).1
      have hmem : nm ∈ ns := List.mem_of_getElem? hnm
      obtain ⟨ds3, mx3, c3, D3', hc3⟩ := D3
      refine ⟨_, rfl, _, rfl, _, _, rfl, rfl, ⟨by decide, by decide⟩, _, _, rfl, p, q, ds3, mx3, c3, _, rfl, ?_, ?_, D3', by omega, fun j ds4 H4 j0 j1 O4 D4 => ?_⟩
      · split <;> omega
      · split <;> omega
      obtain ⟨j, rfl⟩ := nat_of j0
      have D4' : Dk H4 p q (b + 3 + (i + 1)) := ⟨_, mx3, _, D4, by omega⟩
      have O34 := O3.trans O4
      have hr4 := O4 _ _ hr3 rp rq
      have dA4 := dA.same (noR_off (r := r) O4)
      have hsub' : (L.map (·.1)).Sublist (ns.take (i + 1)) := hsub.trans (List.take_sublist_take_left (by omega))
      refine ⟨1, j, rfl, rfl, _, rfl, _, rfl, _, _, rfl, rfl, _, rfl, ?_⟩
      by_cases hle : 1 + j ≤ left
      · refine if_t (decide_eq_true (by omega)) ?_
        refine ⟨_, rfl, .inl ⟨rfl, _, SqL.of hr4⟩, _, rfl, _, rfl, (by show 2 ≤ sizeLine; decide), fun a na => ?_⟩
        have Sa := same_new (o := HO.tup [.str nm, .int ((1 + j : Nat) : Int)]) na
        have ar : a ≠ r := fun e => by
          rw [e, hr4] at na
          cases na
        obtain ⟨ap, aq⟩ := D4'.new na
        have hlen : items.length ≤ 20 := by
          have z := dA.len
          have y := hsub.length_le
          rw [List.length_map] at z y
          rw [List.length_take] at y
          omega
        have el : ((left : Nat) : Int) - ((1 + j : Nat) : Int) = ((left - (1 + j) : Nat) : Int) := by omega
        refine ⟨r, items, .ref a, rfl, rfl, Sa _ _ hr4, by rw [sizeLine_eq]; omega, _, rfl, _, rfl, _, _, rfl, rfl, ?_⟩
        refine ⟨some (.str nm), some (.int ((1 + j : Nat) : Int)), L ++ [(nm, 1 + j)], items ++ [.ref a], left - (1 + j), ?_, ?_, dk_upd (D4'.same Sa) rp rq, upd_same, ?_, ?_, ?_, ?_, fun _ => by simp⟩
        · rw [← el]
          rfl
        · intro b o e h1 h2
          have br : b ≠ r := fun z => by
            rw [z, nr] at e
            cases e
          rw [upd_ne br]
          exact Sa _ _ (O34 b o e h1 h2)
        · rw [noR_upd, List.map_append]
          exact datAll_append (dA4.same (noR_off (Off.of_same Sa))) (.cons (.tup (hide_at (noR_at upd_same ar) ap aq) (.cons (.str _ (nm_len (N.fi _ hmem))) (.cons (.int _) .nil))) .nil)
        · rw [List.map_append, List.sum_append]
          simp
          omega
        · intro c hc
          rcases List.mem_append.mp hc with hc | hc
          · exact hL c hc
          · obtain rfl : c = (nm, 1 + j) := by simpa using hc
            exact ⟨⟨N.nm _ hmem, N.fi _ hmem⟩, by show 1 ≤ 1 + j; omega, by show 1 + j ≤ 400; omega⟩
        · rw [List.map_append, List.take_add_one, hnm]
          exact hsub.append (List.Sublist.refl _)
      · refine if_f (decide_eq_false (by omega)) ?_
        refine ⟨_, _, L, items, left, rfl, O34, D4', hr4, dA4, hsum, hL, hsub', fun _ e => ?_⟩
        have i00 : i = 0 := by
          rcases Nat.eq_zero_or_pos i with z | z
          · exact z
          · exact absurd e (hne z)
        rw [e] at hsum
        have hs0 : left = n := by simpa using hsum
        split at j1 <;> omega
    · rintro σ H3 ⟨x5, x6, L, items, left, rfl, O3, D3, hr3, dA, hsum, hL, hsub, hne⟩
      refine ⟨_, rfl, r, items, rfl, .inl ⟨SqL.of hr3, fun a na => ?_⟩⟩
      have Sa := same_new (o := HO.tup items) na
      have hlen : L.length ≤ 6 := by
        have y := hsub.length_le
        rw [List.length_map, List.length_take] at y
        omega
      have h0 : L ≠ [] := hne (by rw [hlm]; omega)
      have mj := cnts_mass (L := L) fun c hc => ⟨(hL c hc).1.2, (hL c hc).2.2⟩
      refine k _ (.tuple (L.map cntD)) _ ((O12.trans O3).trans (.of_same Sa)) ((D3.same Sa).mono (by rw [hlm]; omega)) (.tup (hide_new D3 na) ((dA.same noR_hide).same (hide_same Sa))) (cnts_ok h0 hlen (fun c hc => ⟨(hL c hc).1.1, (hL c hc).2.1, (hL c hc).2.2⟩) (by omega) (N.asc.sublist (hsub.trans (List.take_sublist _ _)))) ⟨?_, ?_, ?_⟩
      · rw [fineB]
        refine fineAll_iff.mpr fun d hd => ?_
        obtain ⟨c, hc, rfl⟩ := List.mem_map.mp hd
        exact (cnt_fine (hL c hc).1.2 (hL c hc).2.2).1
      · simp only [mass]
        omega
      · simp only [PyData.depth]
        omega
end
end K2
set_option maxRecDepth 100000
set_option maxHeartbeats 4000000
namespace K2
open PySem PySem.Spec PyProof.Rows L2
/-! ### what an automaton of the maker is -/
theorem asc_pwF : ∀ (l : List PyData) (a : PyData), (a :: l).Pairwise (fun x y => PySem.W.dataLt x y = true) → ascF a l = true
  | [], _, _ => rfl
  | x :: l, a, h => by
    rw [List.pairwise_cons] at h
    rw [ascF, h.1 x (by simp), asc_pwF l x h.2]
    rfl
theorem asc_pw {l : List PyData} (h : l.Pairwise (fun x y => PySem.W.dataLt x y = true)) : ascB l = true := by
  cases l with
  | nil => rfl
  | cons a l =>
    rw [ascB_cons]
    exact asc_pwF l a h
theorem nodup_sub : ∀ {l ns : List Str}, l.Nodup → (∀ x ∈ l, x ∈ ns) → l.length ≤ ns.length
  | [], _, _, _ => Nat.zero_le _
  | a :: l, ns, h, hs => by
    rw [List.nodup_cons] at h
    have ha : a ∈ ns := hs a (by simp)
    have z := nodup_sub (l := l) (ns := ns.erase a) h.2 fun x hx => by
      have : x ≠ a := fun e => h.1 (e ▸ hx)
      exact (List.mem_erase_of_ne this).mpr (hs x (by simp [hx]))
    have y := List.length_erase_of_mem ha
    have p : 0 < ns.length := List.length_pos_of_mem ha
    rw [List.length_cons]
    omega
theorem cnt_list (xs : List Str) : ∀ i, i ≤ xs.length → ∃ l : List Str, l.Nodup ∧ l.length = S2.cnt xs i ∧ ∀ x, x ∈ l ↔ x ∈ xs.take i
  | 0, _ => ⟨[], .nil, rfl, by simp⟩
  | i + 1, h => by
    obtain ⟨l, n, hl, hm⟩ := cnt_list xs i (by omega)
    have hx : xs[i]? = some xs[i] := List.getElem?_eq_getElem (by omega)
    have g : xs.getD i Str.empty = xs[i] := by rw [List.getD_eq_getElem?_getD, hx]; rfl
    have et : xs.take (i + 1) = xs.take i ++ [xs[i]] := by
      rw [List.take_add_one, hx]
      rfl
    by_cases c : xs[i] ∈ xs.take i
    · refine ⟨l, n, ?_, fun x => ?_⟩
      · rw [S2.cnt, g, hl, if_pos]
        exact List.any_eq_true.mpr ⟨_, c, by simp⟩
      · rw [et, List.mem_append, hm]
        refine ⟨.inl, fun z => z.elim id fun z => ?_⟩
        obtain rfl : x = xs[i] := by simpa using z
        exact c
    · refine ⟨xs[i] :: l, List.nodup_cons.mpr ⟨fun z => c ((hm _).mp z), n⟩, ?_, fun x => ?_⟩
      · rw [S2.cnt, g, List.length_cons, hl, if_neg]
        intro z
        obtain ⟨y, hy, e⟩ := List.any_eq_true.mp z
        exact c ((beq_iff_eq.mp e) ▸ hy)
      · rw [et, List.mem_append, List.mem_cons, hm]
        simp
        exact Or.comm
theorem cnt_small {xs ns : List Str} (h : ∀ x ∈ xs, x ∈ ns) : S2.cnt xs xs.length ≤ ns.length := by
  obtain ⟨l, n, hl, hm⟩ := cnt_list xs xs.length (Nat.le_refl _)
  rw [← hl]
  exact nodup_sub n fun x hx => h x (by simpa using (hm x).mp hx)
def moveD (m : Nat × Str × Nat) : PyData := .tuple [.int (m.1 : Nat), .str m.2.1, .int (m.2.2 : Nat)]
def mLt (a b : Nat × Str × Nat) : Prop := a.1 < b.1 ∨ (a.1 = b.1 ∧ sLt a.2.1 b.2.1 = true)
theorem move_ok {m : Nat × Str × Nat} (h1 : m.1 ≤ 7) (h2 : nameB (.str m.2.1) = true) (h3 : m.2.2 ≤ 7) : moveB (moveD m) = true := by
  have e : ∀ i : Nat, i ≤ 7 → btw 0 7 (.int (i : Nat)) = true := fun i hi => by
    show (decide ((0 : Int) ≤ (i : Nat)) && decide (((i : Nat) : Int) ≤ 7)) = true
    rw [decide_eq_true (by omega), decide_eq_true (by omega)]
    rfl
  unfold moveB
  show (tupOf 3 3 (moveD m) && (btw 0 7 (.int (m.1 : Nat)) && (nameB (.str m.2.1) && btw 0 7 (.int (m.2.2 : Nat))))) = true
  rw [e _ h1, e _ h3, h2]
  rfl
theorem moves_ok {M : List (Nat × Str × Nat)} {ns : List Str} (h6 : ns.length ≤ 6) (h48 : M.length ≤ 48) (h : ∀ m ∈ M, m.1 ≤ 7 ∧ m.2.1 ∈ ns ∧ m.2.2 ≤ 7) (hn : ∀ x ∈ ns, nameB (.str x) = true) (ha : M.Pairwise mLt) : movesB (.tuple (M.map moveD)) = true := by
  have e1 : tupOf 0 48 (.tuple (M.map moveD)) = true := by
    show (decide ((0 : Int) ≤ ((M.map moveD).length : Int)) && decide (((M.map moveD).length : Int) ≤ 48)) = true
    rw [List.length_map, decide_eq_true (by omega), decide_eq_true (by omega)]
    rfl
  have e2 : (M.map moveD).all moveB = true := List.all_eq_true.mpr fun d hd => by
    obtain ⟨m, hm, rfl⟩ := List.mem_map.mp hd
    exact move_ok (h m hm).1 (hn _ (h m hm).2.1) (h m hm).2.2
  have e3 : ascB ((M.map moveD).map startOf) = true := by
    refine asc_pw ?_
    rw [List.map_map, List.pairwise_map]
    refine ha.imp fun {a b} z => ?_
    show PySem.W.dataLt (.tuple [.int (a.1 : Nat), .str a.2.1]) (.tuple [.int (b.1 : Nat), .str b.2.1]) = true
    rw [lt_start]
    rcases z with z | ⟨z, y⟩
    · rw [if_neg (by omega)]
      exact decide_eq_true (by omega)
    · rw [if_pos (by omega)]
      exact y
  have e4 : S2.cnt (lettersOf (.tuple (M.map moveD))) (lettersOf (.tuple (M.map moveD))).length ≤ ns.length := cnt_small fun x hx => by
    have hx' : x ∈ (M.map moveD).map fun m => strOf (at0 (tupItems m) 1) := hx
    rw [List.map_map] at hx'
    obtain ⟨m, hm, rfl⟩ := List.mem_map.mp hx'
    exact (h m hm).2.1
  unfold movesB
  show (tupOf 0 48 (.tuple (M.map moveD)) && (M.map moveD).all moveB && (ascB ((M.map moveD).map startOf) && decide (((S2.cnt (lettersOf (.tuple (M.map moveD))) (lettersOf (.tuple (M.map moveD))).length : Nat) : Int) ≤ 6))) = true
  rw [e1, e2, e3, decide_eq_true (by omega)]
  rfl
def intD (i : Nat) : PyData := .int (i : Nat)
theorem ints_ok {S : List Nat} {m : Nat} (h : ∀ i ∈ S, i ≤ m) (ha : S.Pairwise (· < ·)) : (S.map intD).all (btw 0 (m : Nat)) = true ∧ ascB (S.map intD) = true := by
  refine ⟨List.all_eq_true.mpr fun d hd => ?_, asc_pw ?_⟩
  · obtain ⟨i, hi, rfl⟩ := List.mem_map.mp hd
    have := h i hi
    show (decide ((0 : Int) ≤ (i : Nat)) && decide (((i : Nat) : Int) ≤ (m : Nat))) = true
    rw [decide_eq_true (by omega), decide_eq_true (by omega)]
    rfl
  · rw [List.pairwise_map]
    refine ha.imp fun {a b} z => ?_
    show PySem.W.dataLt (.int (a : Nat)) (.int (b : Nat)) = true
    rw [lt_int]
    exact decide_eq_true (by omega)
theorem states_ok {S : List Nat} (h8 : S.length ≤ 8) (h : ∀ i ∈ S, i ≤ 7) (ha : S.Pairwise (· < ·)) : statesB (.tuple (S.map intD)) = true := by
  obtain ⟨a, b⟩ := ints_ok h ha
  have e1 : tupOf 0 8 (.tuple (S.map intD)) = true := by
    show (decide ((0 : Int) ≤ ((S.map intD).length : Int)) && decide (((S.map intD).length : Int) ≤ 8)) = true
    rw [List.length_map, decide_eq_true (by omega), decide_eq_true (by omega)]
    rfl
  unfold statesB
  show (tupOf 0 8 (.tuple (S.map intD)) && ((S.map intD).all (btw 0 ((7 : Nat) : Int)) && ascB (S.map intD))) = true
  rw [e1, a, b]
  rfl
theorem int_fine {s i : Nat} (h : i < 10 ^ 40) : fineB s (intD i) = true := by
  unfold intD
  rw [fineB]
  exact decide_eq_true (Nat.lt_of_lt_of_le (show ((i : Nat) : Int).natAbs < 10 ^ 40 from h) (Nat.pow_le_pow_right (by decide) (by omega)))
theorem ints_fine {s : Nat} : ∀ {S : List Nat}, (∀ i ∈ S, i ≤ 1000) → fineAll s (S.map intD) = true ∧ massAll (S.map intD) = S.length ∧ PyData.depthAll (S.map intD) = 0
  | [], _ => ⟨rfl, rfl, rfl⟩
  | i :: S, h => by
    obtain ⟨a, b, c⟩ := ints_fine (s := s) (S := S) fun j hj => h j (by simp [hj])
    have e := int_fine (s := s) (i := i) (Nat.lt_of_le_of_lt (h i (by simp)) (by decide))
    refine ⟨by rw [List.map_cons, fineAll, e, a]; rfl, ?_, ?_⟩
    · rw [List.map_cons, massAll, b, List.length_cons]
      unfold intD
      rw [mass]
      omega
    · rw [List.map_cons, PyData.depthAll, c]
      unfold intD
      simp [PyData.depth]
theorem moves_fine : ∀ {M : List (Nat × Str × Nat)}, (∀ m ∈ M, m.1 ≤ 1000 ∧ nmF m.2.1 = true ∧ m.2.2 ≤ 1000) → fineAll 0 (M.map moveD) = true ∧ massAll (M.map moveD) ≤ 10 * M.length ∧ PyData.depthAll (M.map moveD) ≤ 1
  | [], _ => ⟨rfl, by simp [massAll], by simp [PyData.depthAll]⟩
  | m :: M, h => by
    obtain ⟨a, b, c⟩ := moves_fine (M := M) fun j hj => h j (by simp [hj])
    obtain ⟨h1, h2, h3⟩ := h m (by simp)
    obtain ⟨f1, f2⟩ := fine_name h2
    have e1 := int_fine (s := 0) (i := m.1) (Nat.lt_of_le_of_lt h1 (by decide))
    have e2 := int_fine (s := 0) (i := m.2.2) (Nat.lt_of_le_of_lt h3 (by decide))
    unfold intD at e1 e2
    refine ⟨?_, ?_, ?_⟩
    · rw [List.map_cons, fineAll, a]
      unfold moveD
      rw [fineB, fineAll, fineAll, fineAll, fineAll, e1, e2, f1]
      rfl
    · rw [List.map_cons, massAll, List.length_cons]
      generalize massAll (M.map moveD) = z at b ⊢
      unfold moveD
      simp only [mass, massAll] at f2 ⊢
      omega
    · rw [List.map_cons, PyData.depthAll]
      generalize PyData.depthAll (M.map moveD) = z at c ⊢
      unfold moveD
      simp only [PyData.depth, PyData.depthAll]
      omega
end K2
set_option maxRecDepth 100000
set_option maxHeartbeats 4000000
namespace K2
open PySem PySem.Spec PyProof.Rows L2
/-! ### the law's automaton -/
abbrev s_automaton : Stmt := top 93
def spAut : Sp := fun vs H Q _ => ∃ (p q : Addr) (b : Nat), vs = [.ref p] ∧ Dk H p q b ∧ b + 60 ≤ 100000000 ∧
  ∀ (v : V) (d : PyData) (H' : Hp), Off p q H H' → Dk H' p q (b + 60) → Dat (hide p q H') v d → autoB d = true → Fine 0 495 3 d → Q v H'
section
variable {P : Program} {w : World} {K : PySem.W.Frag} {mg : Str → Option Value} {base : Heap}
theorem sc_automaton : FnScope ["_law_deck_here", "_law_names_here", "_law_states", "_law_moves", "_law_state", "_law_name", "_law_target"] ["_law_deck_here"] (defScope s_automaton) := ⟨rfl, rfl, rfl, by decide +kernel, rfl, by decide +kernel, by decide +kernel⟩
theorem okl_automaton {f fD fN : Addr} {fd fdD fdN : FuncData} (F : Fun K "_law_automaton" "_law_automaton" s_automaton f fd) (T : Nm mg) (Ts : mg "sorted" = none)
    (D_draw : DefOk K mg "_law_draw" sDraw ["_law_deck_here", "_law_bound"] fD fdD) (D_names : DefOk K mg "_law_names" s_names ["_law_deck_here", "_law_many"] fN fdN) : FnOk P w K mg base CX0 3 f fd ["_law_deck_here"] spAut := by
  have G_draw : FnOk P w K mg base CX0 1 fD fdD ["_law_deck_here", "_law_bound"] spDraw := ok_draw D_draw.F
  have G_names : FnOk P w K mg base CX0 2 fN fdN ["_law_deck_here", "_law_many"] spNms := okl_names D_names.F T Ts D_draw
  refine F.ok sc_automaton (fun vs H Q E h => ?_) (fun cdv A outer s H vs Q E hr h => ?_)
  · obtain ⟨p, q, b, rfl, _⟩ := h
    rfl
  · obtain ⟨p, q, b, rfl, D, hb, k⟩ := h
    have hr1 : Room 1 _ := hr.mono (by decide)
    refine ⟨_, (pss_cons (ps_par3 (i := 1) (j := 2) (l := 3) rfl sc_automaton.nd rfl rfl rfl (by decide) (by decide) (by decide) rfl rfl rfl (pa_cons (pe_call G_names hr rfl D_names.g D_names.F.kp D_names.b .nil pass0 (pa_cons (pv 0) (pa_cons (pe_op op_addN pe_int (pe_call G_draw hr1 rfl D_draw.g D_draw.F.kp D_draw.b .nil pass0 (pa_cons (pv 0) (pa_cons pe_int pa_nil)))) pa_nil))) (pa_cons (pe_op op_addN pe_int (pe_call G_draw hr1 rfl D_draw.g D_draw.F.kp D_draw.b .nil pass0 (pa_cons (pv 0) (pa_cons pe_int pa_nil)))) (pa_cons (pe_lst pa_nil) pa_nil))) (by rfl))
      (pss_cons (ps_for PassesOwn.never rfl (pi_range1 rfl T.range (pa_cons (pv 2) pa_nil)) (pg_name (i := 4) sc_automaton.nd rfl (Or.inl rfl))
        (pss_one (ps_for PassesOwn.never rfl (pi_list (pv 1)) (pg_name (i := 5) sc_automaton.nd rfl (Or.inl rfl))
          (pss_cons (ps_set (i := 6) sc_automaton.nd rfl (Or.inl rfl) (pe_call G_draw hr1 rfl D_draw.g D_draw.F.kp D_draw.b .nil pass0 (pa_cons (pv 0) (pa_cons (pe_op op_addN (pv 2) pe_int) pa_nil))))
          (pss_one (ps_expr (pe_bm PySem.F.plainAttrs_list PySem.F.slot_list_extend PySem.F.type_list_extend mt_extend (pv 3) (pa_cons (pe_op op_rep (pe_lst (pa_cons (pe_tup (pa_cons (pv 4) (pa_cons (pv 5) (pa_cons (pv 6) pa_nil)))) pa_nil)) (pe_callTy call_int1 (by rfl) T.int (by decide +kernel) (pa_cons (pe_cmpR op_lt (pv 6) (pv 2) (nomark _)) pa_nil))) pa_nil))))))))
      (pss_one (ps_ret (pe_tup (pa_cons (pe_callTy call_tuple_of (by rfl) T.tuple (by decide +kernel) (pa_cons (pv 3) pa_nil)) (pa_cons (pe_callTy call_tuple_of (by rfl) T.tuple (by decide +kernel) (pa_cons (pe_lc (own := [("_law_state", 4)]) (g := (gName 4)) (te := tVar 4) rfl sc_automaton.nd (pi_range1 rfl T.range (pa_cons (pv 2) pa_nil)) (blkOk_by (N := ["_law_deck_here", "_law_names_here", "_law_states", "_law_moves", "_law_state", "_law_name", "_law_target"]) (sc := defScope s_automaton) (by decide +kernel))
          (fun _ _ _ _ _ => (pg_name (i := 4) sc_automaton.nd rfl (Or.inl rfl))) (fun _ _ _ _ _ => pts_one (pt_cmpR op_gt (pe_call G_draw hr1 rfl D_draw.g D_draw.F.kp D_draw.b .nil pass0 (pa_cons (pv 0) (pa_cons pe_int pa_nil))) pe_int (nomark _))) (fun _ _ _ _ _ => (pv 4))) pa_nil)) pa_nil))))))), ?_⟩
    obtain ⟨ds, mx, c0, D0, hc0⟩ := D
    refine ⟨_, rfl, _, rfl, p, q, ds, mx, c0, 6, rfl, by decide, by decide, D0, by omega, fun i ds1 H1 i0 i1 O1 D1 => ?_⟩
    obtain ⟨i, rfl⟩ := nat_of i0
    refine ⟨1, i, rfl, rfl, p, q, b + 1, 1 + i, rfl, by omega, ⟨_, mx, _, D1, by omega⟩, by omega, fun t ns H2 O2 D2 ht tp tq hl N => ?_⟩
    obtain ⟨ds2, mx2, c2, D2, hc2⟩ := D2
    refine ⟨_, rfl, p, q, ds2, mx2, c2, 8, rfl, by decide, by decide, D2, by omega, fun j ds3 H3 j0 j1 O3 D3 => ?_⟩
    obtain ⟨j, rfl⟩ := nat_of j0
    refine ⟨1, j, rfl, rfl, (by show 0 ≤ sizeLine; decide), fun r nr => ⟨_, _, _, rfl, ?_⟩⟩
    have D3' : Dk H3 p q (b + 4) := ⟨_, mx2, _, D3, by omega⟩
    obtain ⟨rp, rq⟩ := D3'.new nr
    obtain ⟨S, hS⟩ : ∃ S, S = 1 + j := ⟨_, rfl⟩
    rw [← hS]
    have hS8 : S ≤ 8 := by omega
    have ht3 := O3 _ _ ht tp tq
    have hlm : (ns.map V.str).length = ns.length := List.length_map ..
    have S3 := same_new (o := HO.lst []) nr
    refine ⟨_, rfl, S, rfl, by omega, by omega, for_range (n := S) (fun i σ H' => ∃ (x4 x5 x6 : Option V) (M : List (Nat × Str × Nat)) (items : List V), σ = [some (.ref p), some (.ref t), some (.int (S : Nat)), some (.ref r), x4, x5, x6] ∧ Off p q H3 H' ∧ Dk H' p q (b + 4 + i * 6) ∧ H' r = some (.lst items) ∧
        DatAll (hide p q (noR r H')) items (M.map moveD) ∧ (∀ m ∈ M, m.1 < i ∧ m.2.1 ∈ ns ∧ m.2.2 < S) ∧ M.Pairwise mLt ∧ M.length ≤ i * 6)
      ⟨none, none, none, [], [], rfl, .of_same S3, (dk_upd D3' rp rq).mono (by omega), upd_same, .nil, by simp, .nil, by simp⟩ ?_ ?_⟩
    · rintro st σ H4 hst ⟨x4, x5, x6, M, items, rfl, O4, D4, hr4, dA, hM, hp, hlM⟩
      rw [Int.zero_add]
      refine ⟨_, rfl, t, rfl, ⟨_, SqL.of (O4 _ _ ht3 tp tq)⟩, for_list (K := K) (a := t) (xs := ns.map V.str) (fun u σ H' => ∃ (x5 x6 : Option V) (M : List (Nat × Str × Nat)) (items : List V), σ = [some (.ref p), some (.ref t), some (.int (S : Nat)), some (.ref r), some (.int (st : Nat)), x5, x6] ∧ Off p q H3 H' ∧ Dk H' p q (b + 4 + st * 6 + u) ∧ H' r = some (.lst items) ∧
          DatAll (hide p q (noR r H')) items (M.map moveD) ∧ (∀ m ∈ M, (m.1 < st ∨ (m.1 = st ∧ m.2.1 ∈ ns.take u)) ∧ m.2.1 ∈ ns ∧ m.2.2 < S) ∧ M.Pairwise mLt ∧ M.length ≤ st * 6 + u)
        ⟨x5, x6, M, items, rfl, O4, D4, hr4, dA, fun m hm => ⟨.inl (hM m hm).1, (hM m hm).2⟩, hp, hlM⟩ (fun u σ H' _ ⟨_, _, _, _, _, O, _⟩ => SqL.of (O _ _ ht3 tp tq)) ?_ ?_⟩
      · rintro u y σ H5 hi ⟨x5, x6, M, items, rfl, O5, D5, hr5, dA, hM, hp, hlM⟩
        obtain ⟨nm, hnm, rfl⟩ : ∃ nm, ns[u]? = some nm ∧ y = V.str nm := by
          rw [List.getElem?_map] at hi
          cases e : ns[u]? with
          | none =>
            rw [e] at hi
            cases hi
          | some z =>
            rw [e] at hi
            exact ⟨z, rfl, (Option.some.inj hi).symm⟩
        have hul : u < ns.length := (List.getElem?_eq_some_iff.mp hnm).1
        have hmem : nm ∈ ns := List.mem_of_getElem? hnm
        obtain ⟨ds5, mx5, c5, D5', hc5⟩ := D5
        refine ⟨_, rfl, _, rfl, S, 1, rfl, rfl, p, q, ds5, mx5, c5, ((S + 1 : Nat) : Int), rfl, by omega, by omega, D5', by omega, fun tg ds6 H6 g0 g1 O6 D6 => ?_⟩
        obtain ⟨tg, rfl⟩ := nat_of g0
        have D6' : Dk H6 p q (b + 4 + st * 6 + (u + 1)) := ⟨_, mx5, _, D6, by omega⟩
        have O36 := O5.trans O6
        have hr6 := O6 _ _ hr5 rp rq
        have dA6 := dA.same (noR_off (r := r) O6)
        refine ⟨_, rfl, .inl ⟨rfl, _, SqL.of hr6⟩, _, rfl, _, rfl, _, rfl, (by show 3 ≤ sizeLine; decide), fun a na => ⟨(by show 1 ≤ sizeLine; decide), fun l nl => ?_⟩⟩
        have Sa := same_new (o := HO.tup [.int (st : Nat), .str nm, .int (tg : Nat)]) na
        have ar : a ≠ r := fun e => by
          rw [e, hr6] at na
          cases na
        obtain ⟨ap, aq⟩ := D6'.new na
        have ha : upd H6 a (.tup [.int (st : Nat), .str nm, .int (tg : Nat)]) a = some (.tup [.int (st : Nat), .str nm, .int (tg : Nat)]) := upd_same
        have D7 := D6'.same Sa
        generalize upd H6 a (.tup [.int (st : Nat), .str nm, .int (tg : Nat)]) = H7 at Sa ha D7 nl ⊢
        have Sl := same_new (o := HO.lst [.ref a]) nl
        have hl8 : upd H7 l (.lst [.ref a]) l = some (.lst [.ref a]) := upd_same
        have D8 := D7.same Sl
        have Sb := Sa.trans Sl
        have ha8 := Sl _ _ ha
        generalize upd H7 l (.lst [.ref a]) = H8 at Sl hl8 D8 Sb ha8 ⊢
        have hlen : items.length ≤ 48 := by
          have z := dA.len
          rw [List.length_map] at z
          omega
        refine ⟨_, rfl, _, rfl, _, _, rfl, rfl, .inr ⟨_, rfl, ?_⟩⟩
        by_cases hts : tg < S
        · have ek : (if decide (((tg : Nat) : Int) < ((S : Nat) : Int)) = true then (1 : Int) else 0) = 1 := if_pos (decide_eq_true (by omega))
          refine ⟨l, 1, [.ref a], rfl, congrArg V.int ek, hl8, by decide, by decide, by rw [sizeLine_eq]; simp, fun l2 nl2 => ?_⟩
          have S9 := same_new (o := HO.lst (List.replicate (1 : Int).toNat [V.ref a]).flatten) nl2
          have hr9 := S9 _ _ (Sb _ _ hr6)
          refine ⟨r, l2, items, [.ref a], rfl, rfl, hr9, upd_same, by rw [sizeLine_eq]; show items.length + 1 ≤ _; omega, ?_⟩
          refine ⟨_, _, M ++ [(st, nm, tg)], items ++ [.ref a], rfl, ?_, dk_upd (D8.same S9) rp rq, upd_same, ?_, ?_, ?_, ?_⟩
          · intro b' o e h1 h2
            have br : b' ≠ r := fun z => by
              rw [z, nr] at e
              cases e
            rw [upd_ne br]
            exact S9 _ _ (Sb _ _ (O36 b' o e h1 h2))
          · rw [noR_upd, List.map_append]
            exact datAll_append (dA6.same (noR_off (Off.of_same (Sb.trans S9)))) (.cons (.tup (hide_at (noR_at (S9 _ _ ha8) ar) ap aq) (.cons (.int _) (.cons (.str _ (nm_len (N.fi _ hmem))) (.cons (.int _) .nil)))) .nil)
          · intro m hm
            rcases List.mem_append.mp hm with hm | hm
            · refine ⟨(hM m hm).1.imp id fun z => ⟨z.1, ?_⟩, (hM m hm).2⟩
              exact (List.take_sublist_take_left (by omega)).subset z.2
            · obtain rfl : m = (st, nm, tg) := by simpa using hm
              refine ⟨.inr ⟨rfl, ?_⟩, hmem, hts⟩
              rw [List.take_add_one, hnm]
              simp
          · refine List.pairwise_append.mpr ⟨hp, by simp, fun m hm m2 hm2 => ?_⟩
            obtain rfl : m2 = (st, nm, tg) := by simpa using hm2
            rcases (hM m hm).1 with z | ⟨z, y⟩
            · exact .inl z
            · refine .inr ⟨z, ?_⟩
              have et : ns.take (u + 1) = ns.take u ++ [nm] := by
                rw [List.take_add_one, hnm]
                rfl
              have pw := N.asc.sublist (List.take_sublist (u + 1) ns)
              rw [et] at pw
              exact (List.pairwise_append.mp pw).2.2 _ y _ (by simp)
          · rw [List.length_append, List.length_singleton]
            omega
        · have ek : (if decide (((tg : Nat) : Int) < ((S : Nat) : Int)) = true then (1 : Int) else 0) = 0 := if_neg (by rw [decide_eq_false (by omega)]; exact Bool.false_ne_true)
          refine ⟨l, 0, [.ref a], rfl, congrArg V.int ek, hl8, by decide, by decide, by rw [sizeLine_eq]; simp, fun l2 nl2 => ?_⟩
          have S9 := same_new (o := HO.lst (List.replicate (0 : Int).toNat [V.ref a]).flatten) nl2
          have hr9 := S9 _ _ (Sb _ _ hr6)
          refine ⟨r, l2, items, [], rfl, rfl, hr9, upd_same, by rw [sizeLine_eq]; show items.length + 0 ≤ _; omega, ?_⟩
          rw [List.append_nil]
          refine ⟨_, _, M, items, rfl, ?_, dk_upd (D8.same S9) rp rq, upd_same, ?_, ?_, hp, by omega⟩
          · intro b' o e h1 h2
            have br : b' ≠ r := fun z => by
              rw [z, nr] at e
              cases e
            rw [upd_ne br]
            exact S9 _ _ (Sb _ _ (O36 b' o e h1 h2))
          · rw [noR_upd]
            exact dA6.same (noR_off (Off.of_same (Sb.trans S9)))
          · intro m hm
            refine ⟨(hM m hm).1.imp id fun z => ⟨z.1, ?_⟩, (hM m hm).2⟩
            exact (List.take_sublist_take_left (by omega)).subset z.2
      · rintro σ H5 ⟨x5, x6, M, items, rfl, O5, D5, hr5, dA, hM, hp, hlM⟩
        rw [hlm] at D5 hlM
        refine ⟨_, x5, x6, M, items, rfl, O5, D5.mono (by omega), hr5, dA, fun m hm => ⟨?_, (hM m hm).2⟩, hp, by omega⟩
        rcases (hM m hm).1 with z | z <;> omega
    · rintro σ H4 ⟨x4, x5, x6, M, items, rfl, O4, D4, hr4, dA, hM, hp, hlM⟩
      refine ⟨_, rfl, r, items, rfl, .inl ⟨SqL.of hr4, fun a na => ?_⟩⟩
      have Sa := same_new (o := HO.tup items) na
      have D5 : Dk (upd H4 a (.tup items)) p q (b + 52) := (D4.same Sa).mono (by omega)
      have ha5 := hide_new (o := HO.tup items) D4 na
      have dA5 := (dA.same noR_hide).same (hide_same (p := p) (q := q) Sa)
      have O35 := O4.trans (.of_same Sa)
      generalize upd H4 a (.tup items) = H5 at Sa D5 ha5 dA5 O35 ⊢
      refine ⟨_, rfl, S, rfl, by omega, by omega, fun L nL => ?_⟩
      obtain ⟨Lp, Lq⟩ := D5.new nL
      refine lc_range (n := S) (fun i Hx => ∃ acc : List Nat, Off p q H5 Hx ∧ Dk Hx p q (b + 52 + i) ∧ Hx L = some (.lst (acc.map fun i => V.int (i : Nat))) ∧ acc.Pairwise (· < ·) ∧ (∀ x ∈ acc, x < i) ∧ acc.length ≤ i)
        ⟨[], .of_same (same_new nL), (dk_upd D5 Lp Lq).mono (by omega), upd_same, .nil, by simp, by simp⟩ ?_ ?_
      · rintro i Hx hi ⟨acc, O6, D6, hL, hpa, hac, hla⟩
        rw [Int.zero_add]
        obtain ⟨ds6, mx6, c6, D6', hc6⟩ := D6
        refine ⟨rfl, _, rfl, p, q, ds6, mx6, c6, 3, rfl, by decide, by decide, D6', by omega, fun tg ds7 H7 g0 g1 O7 D7 => ?_⟩
        have D7' : Dk H7 p q (b + 52 + (i + 1)) := ⟨_, mx6, _, D7, by omega⟩
        have hL7 := O7 _ _ hL Lp Lq
        refine ⟨_, _, rfl, rfl, _, rfl, ?_⟩
        by_cases hg : tg > 0
        · refine if_t (decide_eq_true hg) ⟨_, rfl, _, hL7, ?_, acc ++ [i], ?_, dk_upd D7' Lp Lq, ?_, ?_, ?_, ?_⟩
          · rw [List.length_map, sizeLine_eq]
            omega
          · intro b' o e h1 h2
            have br : b' ≠ L := fun z => by
              rw [z, nL] at e
              cases e
            rw [upd_ne br]
            exact (O6.trans O7) b' o e h1 h2
          · rw [upd_same, List.map_append]
            rfl
          · exact List.pairwise_append.mpr ⟨hpa, by simp, fun x hx y hy => by
              obtain rfl : y = i := by simpa using hy
              exact hac x hx⟩
          · intro x hx
            rcases List.mem_append.mp hx with z | z
            · have := hac x z
              omega
            · obtain rfl : x = i := by simpa using z
              omega
          · rw [List.length_append, List.length_singleton]
            omega
        · exact if_f (decide_eq_false hg) ⟨acc, O6.trans O7, D7', hL7, hpa, fun x hx => by have := hac x hx; omega, by omega⟩
      · rintro Hx ⟨acc, O6, D6, hL, hpa, hac, hla⟩
        refine ⟨L, _, rfl, .inl ⟨SqL.of hL, fun a2 n2 => ⟨(by show 2 ≤ sizeLine; decide), fun a3 n3 => ?_⟩⟩⟩
        have S7 := same_new (o := HO.tup (acc.map fun i => V.int (i : Nat))) n2
        have D7 := D6.same S7
        have S8 := same_new (o := HO.tup [.ref a, .ref a2]) n3
        have h68 : Same (hide p q H5) (hide p q (upd (upd Hx a2 (.tup (acc.map fun i => V.int (i : Nat)))) a3 (.tup [.ref a, .ref a2]))) := ((hide_off O6).trans (hide_same S7)).trans (hide_same S8)
        have dI : ∀ (G : Hp) (l : List Nat), DatAll G (l.map fun i => V.int (i : Nat)) (l.map intD) := fun G l => by
          induction l with
          | nil => exact .nil
          | cons x l ih => exact .cons (.int _) ih
        have mM := moves_fine (M := M) fun m hm => ⟨by have := (hM m hm).1; omega, N.fi _ (hM m hm).2.1, by have := (hM m hm).2.2; omega⟩
        have mI := ints_fine (s := 0) (S := acc) fun x hx => by have := hac x hx; omega
        refine k _ (.tuple [.tuple (M.map moveD), .tuple (acc.map intD)]) _ ?_ ((D7.same S8).mono (by omega)) (.tup (hide_new D7 n3) (.cons (.tup (h68 _ _ ha5) (dA5.same h68)) (.cons (.tup (hide_same S8 _ _ (hide_new D6 n2)) (dI _ _)) .nil))) ?_ ⟨?_, ?_, ?_⟩
        · exact ((((((O1.trans O2).trans O3).trans O35).trans O6).trans (.of_same S7)).trans (.of_same S8))
        · have e1 := moves_ok (ns := ns) (by omega) (by omega) (fun m hm => ⟨by have := (hM m hm).1; omega, (hM m hm).2.1, by have := (hM m hm).2.2; omega⟩) N.nm hp
          have e2 := states_ok (S := acc) (by omega) (fun x hx => by have := hac x hx; omega) hpa
          unfold autoB
          show (true && (movesB (.tuple (M.map moveD)) && statesB (.tuple (acc.map intD)))) = true
          rw [e1, e2]
          rfl
        · rw [fineB, fineAll, fineAll, fineAll, fineB, fineB, mM.1, mI.1]
          rfl
        · simp only [mass, massAll]
          omega
        · simp only [PyData.depth, PyData.depthAll]
          omega
end
end K2
set_option maxRecDepth 100000
set_option maxHeartbeats 4000000
namespace K2
open PySem PySem.Spec PyProof.Rows L2
/-! ### leaves as the maker gives them -/
theorem btw_nat {i m : Nat} (h : i ≤ m) : btw 0 (m : Nat) (.int (i : Nat)) = true := by
  show (decide ((0 : Int) ≤ (i : Nat)) && decide (((i : Nat) : Int) ≤ (m : Nat))) = true
  rw [decide_eq_true (by omega), decide_eq_true (by omega)]
  rfl
theorem btw_of {lo hi i : Int} (h1 : lo ≤ i) (h2 : i ≤ hi) : btw lo hi (.int i) = true := by
  show (decide (lo ≤ i) && decide (i ≤ hi)) = true
  rw [decide_eq_true h1, decide_eq_true h2]
  rfl
theorem sLt_ne {a b : Str} (h : sLt a b = true) : a ≠ b := fun e => by
  rw [e] at h
  exact List.lt_irrefl _ (of_decide_eq_true h)
theorem Names.nodup {ns : List Str} (N : Names ns) : ns.Nodup := N.asc.imp fun h => sLt_ne h
theorem cnt_nodup {ns : List Str} (h : ns.Nodup) : S2.cnt ns ns.length = ns.length := by
  obtain ⟨l, n, hl, hm⟩ := cnt_list ns ns.length (Nat.le_refl _)
  have z := nodup_sub h fun x hx => (hm x).mpr (by simpa using hx)
  have y := S2.cnt_le ns ns.length
  omega
theorem leaf_subset {n k : Nat} (h : n ≤ 400) (hk : k ≤ n) : leafB (.tuple [.str "subset", .int (n : Nat), .int (k : Nat)]) = true := by
  rw [leaf_at (z := "subset") (m := 3) (p := pSubset) (by rfl) (by decide +kernel)]
  have e1 : btw 0 400 (.int (n : Nat)) = true := btw_of (by omega) (by omega)
  have e2 : btw 0 (n : Nat) (.int (k : Nat)) = true := btw_nat hk
  show (true && (btw 0 400 (.int (n : Nat)) && btw 0 (n : Nat) (.int (k : Nat)))) = true
  rw [e1, e2]
  rfl
theorem leaf_word {d : PyData} (h : countsB d = true) : leafB (.tuple [.str "word", d]) = true := by
  rw [leaf_at (z := "word") (m := 2) (p := pWord) (by rfl) (by decide +kernel)]
  show (true && countsB d) = true
  rw [h]
  rfl
theorem leaf_arr {d : PyData} {ns : List Str} (h : orderB 6 d = true) (hn : namesN 6 d = ns) (hl : ns.length ≤ 400) (nd : ns.Nodup) : leafB (.tuple [.str "arrangement", d]) = true := by
  rw [leaf_at (z := "arrangement") (m := 2) (p := pArr) (by rfl) (by decide +kernel)]
  show (true && (orderB 6 d && (decide (((namesN 6 d).length : Int) ≤ 400) && decide ((S2.cnt (namesN 6 d) (namesN 6 d).length : Int) = ((namesN 6 d).length : Int))))) = true
  rw [h, hn, cnt_nodup nd, decide_eq_true (by omega), decide_eq_true rfl]
  rfl
theorem leaf_walk {n : Nat} {s e lo hi : Int} (hn : n ≤ 60) (h1 : -60 ≤ lo) (h2 : lo ≤ s) (h3 : s ≤ hi) (h4 : lo ≤ e) (h5 : e ≤ hi) (h6 : hi ≤ 60) : leafB (.tuple [.str "walk", .int (n : Nat), .int s, .int e, .int lo, .int hi]) = true := by
  rw [leaf_at (z := "walk") (m := 6) (p := pWalk) (by rfl) (by decide +kernel)]
  have e0 : btw 0 60 (.int (n : Nat)) = true := btw_of (by omega) (by omega)
  show (true && ((btw (-60) 60 (.int s) && (btw (-60) 60 (.int e) && (btw (-60) 60 (.int lo) && (btw (-60) 60 (.int hi) && true)))) && (btw 0 60 (.int (n : Nat)) && (decide (lo ≤ s) && decide (s ≤ hi) && (decide (lo ≤ e) && decide (e ≤ hi)))))) = true
  rw [e0, btw_of (by omega) (by omega), btw_of (by omega) (by omega), btw_of (by omega) (by omega), btw_of (by omega) (by omega), decide_eq_true h2, decide_eq_true h3, decide_eq_true h4, decide_eq_true h5]
  rfl
theorem leaf_cycle {n : Nat} (h1 : 1 ≤ n) (h : n ≤ 400) : leafB (.tuple [.str "cycle", .int (n : Nat)]) = true := by
  rw [leaf_at (z := "cycle") (m := 2) (p := pCycle) (by rfl) (by decide +kernel)]
  show (true && btw 1 400 (.int (n : Nat))) = true
  rw [btw_of (by omega) (by omega)]
  rfl
theorem leaf_tree {n : Nat} (h1 : 1 ≤ n) (h : n ≤ 400) : leafB (.tuple [.str "tree", .int (n : Nat)]) = true := by
  rw [leaf_at (z := "tree") (m := 2) (p := pTree) (by rfl) (by decide +kernel)]
  show (true && btw 1 400 (.int (n : Nat))) = true
  rw [btw_of (by omega) (by omega)]
  rfl
theorem leaf_matching {n : Nat} (h : n ≤ 200) : leafB (.tuple [.str "matching", .int (n : Nat)]) = true := by
  rw [leaf_at (z := "matching") (m := 2) (p := pMatching) (by rfl) (by decide +kernel)]
  show (true && btw 0 200 (.int (n : Nat))) = true
  rw [btw_of (by omega) (by omega)]
  rfl
theorem leaf_perm {n : Nat} {S : List Nat} (h : n ≤ 60) (hS : ∀ i ∈ S, i < n) (ha : S.Pairwise (· < ·)) (hl : S.length ≤ n) : leafB (.tuple [.str "permutation", .int (n : Nat), .tuple (S.map intD)]) = true := by
  rw [leaf_at (z := "permutation") (m := 3) (p := pPerm) (by rfl) (by decide +kernel)]
  have e1 : tupOf 0 (n : Nat) (.tuple (S.map intD)) = true := by
    show (decide ((0 : Int) ≤ ((S.map intD).length : Int)) && decide (((S.map intD).length : Int) ≤ (n : Nat))) = true
    rw [List.length_map, decide_eq_true (by omega), decide_eq_true (by omega)]
    rfl
  have e2 : (S.map intD).all (btw 0 ((n : Nat) - 1)) = true := List.all_eq_true.mpr fun d hd => by
    obtain ⟨i, hi, rfl⟩ := List.mem_map.mp hd
    have := hS i hi
    exact btw_of (by omega) (by omega)
  have e3 : ascB (S.map intD) = true := (ints_ok (m := n) (fun i hi => by have := hS i hi; omega) ha).2
  show (true && (btw 0 60 (.int (n : Nat)) && tupOf 0 (n : Nat) (.tuple (S.map intD)) && ((S.map intD).all (btw 0 ((n : Nat) - 1)) && ascB (S.map intD)))) = true
  rw [btw_of (by omega) (by omega), e1, e2, e3]
  rfl
theorem leaf_string {n : Nat} {d : PyData} (h : n ≤ 60) (ha : autoB d = true) : leafB (.tuple [.str "string", d, .int (n : Nat)]) = true := by
  rw [leaf_at (z := "string") (m := 3) (p := pString) (by rfl) (by decide +kernel)]
  show (true && (btw 0 60 (.int (n : Nat)) && autoB d)) = true
  rw [btw_of (by omega) (by omega), ha]
  rfl
/-- a tuple put together of fine things -/
theorem tup_fine {s m n : Nat} {ds : List PyData} (h : ∀ d ∈ ds, fineB s d = true) (hm : massAll ds ≤ m) (hn : PyData.depthAll ds ≤ n) : Fine s (m + 1) (n + 1) (.tuple ds) := by
  refine ⟨?_, ?_, ?_⟩
  · rw [fineB]
    exact fineAll_iff.mpr h
  · simp only [mass]
    omega
  · simp only [PyData.depth]
    omega
theorem fine_lit (x : Str) (h : fineB 0 (.str x) = true) (hm : mass (.str x) ≤ 12) : fineB 0 (.str x) = true ∧ mass (.str x) ≤ 12 ∧ (PyData.str x).depth = 0 := ⟨h, hm, by simp [PyData.depth]⟩
theorem fine_i {s : Nat} {i : Int} (h1 : -1000 ≤ i) (h2 : i ≤ 1000) : fineB s (.int i) = true := by
  rw [fineB]
  exact decide_eq_true (Nat.lt_of_lt_of_le (show i.natAbs < 10 ^ 4 by omega) (Nat.pow_le_pow_right (by decide) (by omega)))
end K2
set_option maxRecDepth 100000
set_option maxHeartbeats 8000000
namespace K2
open PySem PySem.Spec PyProof.Rows L2
/-! ### the law's leaf -/
abbrev s_leaf : Stmt := top 94
def spLeaf : Sp := fun vs H Q _ => ∃ (p q : Addr) (b : Nat) (l : Bool), vs = [.ref p, .bl l] ∧ Dk H p q b ∧ b + 100 ≤ 100000000 ∧
  ∀ (v : V) (d : PyData) (H' : Hp), Off p q H H' → Dk H' p q (b + 100) → Dat (hide p q H') v d → leafB d = true → Fine 0 520 14 d → Q v H'
theorem lit_fine {z : Str} {ds : List PyData} {m n : Nat} (hz : fineB 0 (.str z) = true ∧ mass (.str z) ≤ 12) (h : fineAll 0 ds = true) (h2 : massAll ds ≤ m) (h3 : PyData.depthAll ds ≤ n) : Fine 0 (m + 13) (n + 1) (.tuple (.str z :: ds)) := by
  refine ⟨?_, ?_, ?_⟩
  · rw [fineB, fineAll, hz.1, h]
    rfl
  · have := hz.2
    simp only [mass, massAll] at this ⊢
    omega
  · simp only [PyData.depth, PyData.depthAll]
    omega
theorem ints_all : ∀ l : List Int, (∀ i ∈ l, -1000 ≤ i ∧ i ≤ 1000) → fineAll 0 (l.map PyData.int) = true ∧ massAll (l.map PyData.int) = l.length ∧ PyData.depthAll (l.map PyData.int) = 0
  | [], _ => ⟨rfl, rfl, rfl⟩
  | i :: S, h => by
    obtain ⟨a, b, c⟩ := ints_all S fun j hj => h j (by simp [hj])
    have e := fine_i (s := 0) (h i (by simp)).1 (h i (by simp)).2
    refine ⟨by rw [List.map_cons, fineAll, e, a]; rfl, ?_, ?_⟩
    · rw [List.map_cons, massAll, b, List.length_cons, mass]
      omega
    · rw [List.map_cons, PyData.depthAll, c]
      simp [PyData.depth]
theorem one_fine {s m n : Nat} {d : PyData} (F : Fine s m n d) : fineAll s [d] = true ∧ massAll [d] ≤ m ∧ PyData.depthAll [d] ≤ n := by
  refine ⟨by rw [fineAll, F.f]; rfl, ?_, ?_⟩
  · have := F.m
    simp only [massAll]
    omega
  · have := F.n
    simp only [PyData.depthAll]
    omega
theorem in47 : ∀ so : Fin 9, inV (.int ((so.val : Nat) : Int)) [.int 4, .int 7] = decide (so.val = 4 ∨ so.val = 7) := by decide +kernel
section
variable {P : Program} {w : World} {K : PySem.W.Frag} {mg : Str → Option Value} {base : Heap}
theorem sc_leaf : FnScope ["_law_deck_here", "_law_large", "_law_sort", "_law_edge", "_law_n", "_law_few", "_law_start", "_law_end", "_law_low", "_law_high", "_law_p"] ["_law_deck_here", "_law_large"] (defScope s_leaf) := ⟨rfl, rfl, rfl, by decide +kernel, rfl, by decide +kernel, by decide +kernel⟩
theorem okl_mleaf {f fD fN fC fO fA : Addr} {fd fdD fdN fdC fdO fdA : FuncData} (F : Fun K "_law_leaf" "_law_leaf" s_leaf f fd) (T : Nm mg) (Ts : mg "sorted" = none) (Tm : mg "max" = none) (Tn : mg "min" = none)
    (D_draw : DefOk K mg "_law_draw" sDraw ["_law_deck_here", "_law_bound"] fD fdD) (D_names : DefOk K mg "_law_names" s_names ["_law_deck_here", "_law_many"] fN fdN)
    (D_counts : DefOk K mg "_law_counts" s_counts ["_law_deck_here", "_law_total"] fC fdC) (D_order : DefOk K mg "_law_order" s_order ["_law_deck_here", "_law_names_here"] fO fdO) (G_order : FnOk P w K mg base CX0 8 fO fdO ["_law_deck_here", "_law_names_here"] (spOrdM 5))
    (D_automaton : DefOk K mg "_law_automaton" s_automaton ["_law_deck_here"] fA fdA) : FnOk P w K mg base CX0 9 f fd ["_law_deck_here", "_law_large"] spLeaf := by
  have G_draw : FnOk P w K mg base CX0 1 fD fdD ["_law_deck_here", "_law_bound"] spDraw := ok_draw D_draw.F
  have G_names : FnOk P w K mg base CX0 2 fN fdN ["_law_deck_here", "_law_many"] spNms := okl_names D_names.F T Ts D_draw
  have G_counts : FnOk P w K mg base CX0 3 fC fdC ["_law_deck_here", "_law_total"] spCnts := okl_counts D_counts.F T Ts Tm D_draw D_names
  have G_automaton : FnOk P w K mg base CX0 3 fA fdA ["_law_deck_here"] spAut := okl_automaton D_automaton.F T Ts D_draw D_names
  refine F.ok sc_leaf (fun vs H Q E h => ?_) (fun cdv A outer s H vs Q E hr h => ?_)
  · obtain ⟨p, q, b, l, rfl, _⟩ := h
    rfl
  · obtain ⟨p, q, b, l, rfl, D, hb, k⟩ := h
    have hr1 : Room 1 _ := hr.mono (by decide)
    have hr2 : Room 2 _ := hr.mono (by decide)
    have hr3 : Room 3 _ := hr.mono (by decide)
    refine ⟨_, (C8.pss_cut (ps_par (i := 2) (j := 3) rfl sc_leaf.nd rfl rfl (by decide) rfl rfl (pa_cons (pe_call G_draw hr1 rfl D_draw.g D_draw.F.kp D_draw.b .nil pass0 (pa_cons (pv 0) (pa_cons pe_int pa_nil))) (pa_cons (pe_callTy call_int1 (by rfl) T.int (by decide +kernel) (pa_cons (pe_and (pv 1) (pe_one (pe_cmpR op_eq (pe_call G_draw hr1 rfl D_draw.g D_draw.F.kp D_draw.b .nil pass0 (pa_cons (pv 0) (pa_cons pe_int pa_nil))) pe_int (nomark _)))) pa_nil)) pa_nil)) (by rfl))
      (C8.pss_cut (ps_set (i := 4) sc_leaf.nd rfl (Or.inl rfl) (pe_ix ix_list (pe_lst (pa_cons (pe_call G_draw hr1 rfl D_draw.g D_draw.F.kp D_draw.b .nil pass0 (pa_cons (pv 0) (pa_cons (pe_ix ix_list (pe_lst (pa_cons pe_int (pa_cons pe_int pa_nil))) (pe_callTy call_int1 (by rfl) T.int (by decide +kernel) (pa_cons (pv 1) pa_nil)) (fun _ _ => rfl)) pa_nil))) (pa_cons pe_int pa_nil))) (pv 3) (fun _ _ => rfl)))
      (pss_cons (ps_if (pt_cmpR op_eq (pv 2) pe_int (nomark _))
        (pss_one (ps_ret (pe_tup (pa_cons pe_str (pa_cons (pv 4) (pa_cons (pe_call G_draw hr1 rfl D_draw.g D_draw.F.kp D_draw.b .nil pass0 (pa_cons (pv 0) (pa_cons (pe_op op_addN (pv 4) pe_int) pa_nil))) pa_nil))))))
        pss_nil)
      (pss_cons (ps_if (pt_cmpR op_eq (pv 2) pe_int (nomark _))
        (pss_one (ps_ret (pe_tup (pa_cons pe_str (pa_cons (pe_call G_counts hr3 rfl D_counts.g D_counts.F.kp D_counts.b .nil pass0 (pa_cons (pv 0) (pa_cons (pe_callB (call_max2 rfl) (by rfl) Tm (by decide +kernel) (pa_cons pe_int (pa_cons (pv 4) pa_nil))) pa_nil))) pa_nil)))))
        pss_nil)
      (pss_cons (ps_if (pt_cmpR op_eq (pv 2) pe_int (nomark _))
        (pss_one (ps_ret (pe_tup (pa_cons pe_str (pa_cons (pe_call G_order hr rfl D_order.g D_order.F.kp D_order.b .nil pass0 (pa_cons (pv 0) (pa_cons (pe_call G_names hr2 rfl D_names.g D_names.F.kp D_names.b .nil pass0 (pa_cons (pv 0) (pa_cons (pe_op op_add pe_int (pe_op op_mod (pv 4) pe_int)) pa_nil))) pa_nil))) pa_nil)))))
        pss_nil)
      (C8.pss_cut (ps_set (i := 5) sc_leaf.nd rfl (Or.inl rfl) (pe_ix ix_list (pe_lst (pa_cons (pe_call G_draw hr1 rfl D_draw.g D_draw.F.kp D_draw.b .nil pass0 (pa_cons (pv 0) (pa_cons (pe_ix ix_list (pe_lst (pa_cons pe_int (pa_cons pe_int pa_nil))) (pe_callTy call_int1 (by rfl) T.int (by decide +kernel) (pa_cons (pv 1) pa_nil)) (fun _ _ => rfl)) pa_nil))) (pa_cons pe_int pa_nil))) (pv 3) (fun _ _ => rfl)))
      (pss_cons (ps_if (pt_cmpR op_eq (pv 2) pe_int (nomark _))
        (pss_cons (ps_par (i := 6) (j := 7) rfl sc_leaf.nd rfl rfl (by decide) rfl rfl (pa_cons (pe_op op_sub (pe_call G_draw hr1 rfl D_draw.g D_draw.F.kp D_draw.b .nil pass0 (pa_cons (pv 0) (pa_cons pe_int pa_nil))) pe_int) (pa_cons (pe_op op_sub (pe_call G_draw hr1 rfl D_draw.g D_draw.F.kp D_draw.b .nil pass0 (pa_cons (pv 0) (pa_cons pe_int pa_nil))) pe_int) pa_nil)) (by rfl))
        (pss_cons (ps_par (i := 8) (j := 9) rfl sc_leaf.nd rfl rfl (by decide) rfl rfl (pa_cons (pe_op op_sub (pe_callB (call_min2 rfl) (by rfl) Tn (by decide +kernel) (pa_cons (pv 6) (pa_cons (pv 7) pa_nil))) (pe_call G_draw hr1 rfl D_draw.g D_draw.F.kp D_draw.b .nil pass0 (pa_cons (pv 0) (pa_cons pe_int pa_nil)))) (pa_cons (pe_op op_add (pe_callB (call_max2 rfl) (by rfl) Tm (by decide +kernel) (pa_cons (pv 6) (pa_cons (pv 7) pa_nil))) (pe_call G_draw hr1 rfl D_draw.g D_draw.F.kp D_draw.b .nil pass0 (pa_cons (pv 0) (pa_cons pe_int pa_nil)))) pa_nil)) (by rfl))
        (pss_one (ps_ret (pe_tup (pa_cons pe_str (pa_cons (pv 5) (pa_cons (pv 6) (pa_cons (pv 7) (pa_cons (pv 8) (pa_cons (pv 9) pa_nil)))))))))))
        pss_nil)
      (pss_cons (ps_if (pt_cmpR op_in_seq (pv 2) (pe_tup (pa_cons pe_int (pa_cons pe_int pa_nil))) rfl)
        (pss_one (ps_ret (pe_tup (pa_cons (pe_ix ix_list (pe_lst (pa_cons pe_str (pa_cons pe_str pa_nil))) (pe_callTy call_int1 (by rfl) T.int (by decide +kernel) (pa_cons (pe_cmpR op_eq (pv 2) pe_int (nomark _)) pa_nil)) (fun _ _ => rfl)) (pa_cons (pe_callB (call_max2 rfl) (by rfl) Tm (by decide +kernel) (pa_cons pe_int (pa_cons (pv 4) pa_nil))) pa_nil)))))
        pss_nil)
      (pss_cons (ps_if (pt_cmpR op_eq (pv 2) pe_int (nomark _))
        (pss_one (ps_ret (pe_tup (pa_cons pe_str (pa_cons (pe_op op_fdiv (pv 4) pe_int) pa_nil)))))
        pss_nil)
      (pss_cons (ps_if (pt_cmpR op_eq (pv 2) pe_int (nomark _))
        (pss_one (ps_ret (pe_tup (pa_cons pe_str (pa_cons (pv 5) (pa_cons (pe_callTy call_tuple_of (by rfl) T.tuple (by decide +kernel) (pa_cons (pe_lc (own := [("_law_p", 10)]) (g := (gName 10)) (te := tVar 10) rfl sc_leaf.nd (pi_range1 rfl T.range (pa_cons (pv 5) pa_nil)) (blkOk_by (N := ["_law_deck_here", "_law_large", "_law_sort", "_law_edge", "_law_n", "_law_few", "_law_start", "_law_end", "_law_low", "_law_high", "_law_p"]) (sc := defScope s_leaf) (by decide +kernel))
          (fun _ _ _ _ _ => (pg_name (i := 10) sc_leaf.nd rfl (Or.inl rfl))) (fun _ _ _ _ _ => pts_one (pt_cmpR op_eq (pe_call G_draw hr1 rfl D_draw.g D_draw.F.kp D_draw.b .nil pass0 (pa_cons (pv 0) (pa_cons pe_int pa_nil))) pe_int (nomark _))) (fun _ _ _ _ _ => (pv 10))) pa_nil)) pa_nil))))))
        pss_nil)
      (pss_one (ps_ret (pe_tup (pa_cons pe_str (pa_cons (pe_call G_automaton hr3 rfl D_automaton.g D_automaton.F.kp D_automaton.b .nil pass0 (pa_cons (pv 0) pa_nil)) (pa_cons (pv 5) pa_nil)))))))))))))))), ?_⟩
    -- the sort, the edge
    refine ⟨fun σ H' => ∃ so ed : Nat, σ = [some (.ref p), some (.bl l), some (.int (so : Nat)), some (.int (ed : Nat)), none, none, none, none, none, none, none] ∧ so < 9 ∧ ed ≤ 1 ∧ Off p q H H' ∧ Dk H' p q (b + 2), ?_, ?_⟩
    · obtain ⟨ds, mx, c0, D0, hc0⟩ := D
      refine ⟨_, rfl, p, q, ds, mx, c0, 9, rfl, by decide, by decide, D0, by omega, fun so ds1 H1 so0 so1 O1 D1 => ?_⟩
      obtain ⟨so, rfl⟩ := nat_of so0
      refine ⟨_, rfl, _, rfl, ?_⟩
      cases l with
      | false => exact if_f rfl (.inr ⟨_, rfl, _, _, rfl, so, 0, rfl, by omega, by decide, O1, ⟨_, mx, _, D1, by omega⟩⟩)
      | true =>
        refine if_t rfl ⟨_, rfl, p, q, ds1, mx, c0 + 1, 4, rfl, by decide, by decide, D1, by omega, fun e ds2 H2 e0 e1 O2 D2 => ⟨rfl, .inr ⟨_, rfl, _, _, rfl, ?_⟩⟩⟩
        have D2' : Dk H2 p q (b + 2) := ⟨_, mx, _, D2, by omega⟩
        by_cases ez : e = 0
        · refine ⟨so, 1, ?_, by omega, by decide, O1.trans O2, D2'⟩
          rw [ez]
          rfl
        · refine ⟨so, 0, ?_, by omega, by decide, O1.trans O2, D2'⟩
          rw [decide_eq_false (fun z => ez (V.int.inj z))]
          rfl
    rintro σ H1 ⟨so, ed, rfl, hso, hed, O1, D1⟩
    have hed2 : ed = 0 ∨ ed = 1 := by omega
    -- the number
    refine ⟨fun σ H' => ∃ n : Nat, σ = [some (.ref p), some (.bl l), some (.int (so : Nat)), some (.int (ed : Nat)), some (.int (n : Nat)), none, none, none, none, none, none] ∧ n ≤ 400 ∧ Off p q H H' ∧ Dk H' p q (b + 3), ?_, ?_⟩
    · refine ⟨_, rfl, (by show 2 ≤ sizeLine; decide), fun l1 nl1 => ?_⟩
      have S1 := same_new (o := HO.lst [.int 6, .int 401]) nl1
      have e1 : upd H1 l1 (.lst [.int 6, .int 401]) l1 = some (.lst [.int 6, .int 401]) := upd_same
      have D2 := D1.same S1
      generalize upd H1 l1 (.lst [.int 6, .int 401]) = H2 at S1 e1 D2 ⊢
      obtain ⟨ds, mx, c0, D0, hc0⟩ := D2
      have eB : atI [V.int 6, V.int 401] (if l = true then 1 else 0) = some (.int ((if l = true then 401 else 6 : Nat) : Nat)) := by cases l <;> rfl
      have hB : 0 < (if l = true then 401 else 6 : Nat) ∧ (if l = true then 401 else 6 : Nat) ≤ 401 := by cases l <;> decide
      refine ⟨_, rfl, .inr ⟨_, rfl, l1, _, _, _, rfl, rfl, SqL.of e1, eB, p, q, ds, mx, c0, _, rfl, by omega, by omega, D0, by omega, fun nd ds2 H3 n0 n1 O3 D3 => ?_⟩⟩
      obtain ⟨nd, rfl⟩ := nat_of n0
      refine ⟨(by show 2 ≤ sizeLine; decide), fun l2 nl2 => ?_⟩
      have D3' : Dk H3 p q (b + 3) := ⟨_, mx, _, D3, by omega⟩
      have S3 := same_new (o := HO.lst [.int (nd : Nat), .int 400]) nl2
      have e2 : upd H3 l2 (.lst [.int (nd : Nat), .int 400]) l2 = some (.lst [.int (nd : Nat), .int 400]) := upd_same
      have O5 := ((O1.trans (.of_same S1)).trans O3).trans (.of_same S3)
      have eN : atI [V.int (nd : Nat), V.int 400] ((ed : Nat) : Int) = some (.int ((if ed = 0 then nd else 400 : Nat) : Nat)) := by
        refine atI_nat ?_
        rcases hed2 with rfl | rfl <;> rfl
      refine ⟨_, rfl, l2, _, _, _, rfl, rfl, SqL.of e2, eN, _, rfl, ?_, O5, D3'.same S3⟩
      split <;> omega
    rintro σ H2 ⟨n, rfl, hn, O2, D2⟩
    refine ⟨_, rfl, rfl, _, rfl, ?_⟩
    by_cases z0 : so = 0
    · refine if_t (decide_eq_true (by rw [z0]; rfl)) ?_
      obtain ⟨ds, mx, c0, D0, hc0⟩ := D2
      refine ⟨_, rfl, _, rfl, _, rfl, n, 1, rfl, rfl, p, q, ds, mx, c0, _, rfl, by omega, by omega, D0, by omega, fun kk ds3 H3 k0 k1 O3 D3 => ⟨(by show 3 ≤ sizeLine; decide), fun a na => ?_⟩⟩
      obtain ⟨kk, rfl⟩ := nat_of k0
      have D3' : Dk H3 p q (b + 4) := ⟨_, mx, _, D3, by omega⟩
      have f := ints_all [((n : Nat) : Int), ((kk : Nat) : Int)] (by simp; omega)
      exact k _ (.tuple [.str "subset", .int (n : Nat), .int (kk : Nat)]) _ ((O2.trans O3).trans (.of_same (same_new na))) ((D3'.same (same_new na)).mono (by omega)) (.tup (hide_new D3' na) (.cons (.str _ (by decide)) (.cons (.int _) (.cons (.int _) .nil)))) (leaf_subset hn (by omega)) ((lit_fine (by decide +kernel) f.1 (Nat.le_of_eq f.2.1) (Nat.le_of_eq f.2.2)).mono (by simp) (by decide))
    refine if_f (decide_eq_false fun z => z0 (by have := V.int.inj z; omega)) ?_
    refine ⟨_, rfl, rfl, _, rfl, ?_⟩
    have em : (if ((n : Nat) : Int) > 1 then ((n : Nat) : Int) else 1) = ((max 1 n : Nat) : Int) := by
      split <;> omega
    by_cases z1 : so = 1
    · refine if_t (decide_eq_true (by rw [z1]; rfl)) ?_
      refine ⟨_, rfl, _, rfl, _, _, rfl, p, q, b + 3, max 1 n, congrArg (fun z => [V.ref p, V.int z]) em, by omega, by omega, D2, by omega, fun v d H3 O3 D3 dd cb fi => ⟨(by show 2 ≤ sizeLine; decide), fun a na => ?_⟩⟩
      have f := one_fine fi
      exact k _ (.tuple [.str "word", d]) _ ((O2.trans O3).trans (.of_same (same_new na))) ((D3.same (same_new na)).mono (by omega)) (.tup (hide_new D3 na) (.cons (.str _ (by decide)) (.cons (dd.same (hide_same (same_new na))) .nil))) (leaf_word cb) ((lit_fine (by decide +kernel) f.1 f.2.1 f.2.2).mono (by decide) (by decide))
    refine if_f (decide_eq_false fun z => z1 (by have := V.int.inj z; omega)) ?_
    refine ⟨_, rfl, rfl, _, rfl, ?_⟩
    by_cases z2 : so = 2
    · refine if_t (decide_eq_true (by rw [z2]; rfl)) ?_
      refine ⟨_, rfl, _, rfl, _, rfl, _, _, rfl, rfl, (by show (0 : Int) < 20; decide), _, _, rfl, rfl, p, q, b + 3, 1 + n % 20, rfl, by omega, D2, by omega, fun t ns H3 O3 D3 ht tp tq hl N => ?_⟩
      refine ⟨p, q, t, b + 3 + 2, b + 60, ns, rfl, ht, tp, tq, by omega, by omega, by omega, fun x hx => ⟨N.nm x hx, N.fi x hx⟩, D3, by omega, by omega, fun v d H4 O4 D4 dd ob nb fi => ⟨(by show 2 ≤ sizeLine; decide), fun a na => ?_⟩⟩
      have f := one_fine fi
      exact k _ (.tuple [.str "arrangement", d]) _ (((O2.trans O3).trans O4).trans (.of_same (same_new na))) ((D4.same (same_new na)).mono (by omega)) (.tup (hide_new D4 na) (.cons (.str _ (by decide)) (.cons (dd.same (hide_same (same_new na))) .nil))) (leaf_arr ob nb (by omega) N.nodup) ((lit_fine (by decide +kernel) f.1 f.2.1 f.2.2).mono (by omega) (by decide))
    refine if_f (decide_eq_false fun z => z2 (by have := V.int.inj z; omega)) ?_
    -- a small number
    refine ⟨fun σ H' => ∃ n2 : Nat, σ = [some (.ref p), some (.bl l), some (.int (so : Nat)), some (.int (ed : Nat)), some (.int (n : Nat)), some (.int (n2 : Nat)), none, none, none, none, none] ∧ n2 ≤ 60 ∧ Off p q H H' ∧ Dk H' p q (b + 4), ?_, ?_⟩
    · refine ⟨_, rfl, (by show 2 ≤ sizeLine; decide), fun l1 nl1 => ?_⟩
      have S1 := same_new (o := HO.lst [.int 6, .int 61]) nl1
      have e1 : upd H2 l1 (.lst [.int 6, .int 61]) l1 = some (.lst [.int 6, .int 61]) := upd_same
      have D3 := D2.same S1
      generalize upd H2 l1 (.lst [.int 6, .int 61]) = H3 at S1 e1 D3 ⊢
      obtain ⟨ds, mx, c0, D0, hc0⟩ := D3
      have eB : atI [V.int 6, V.int 61] (if l = true then 1 else 0) = some (.int ((if l = true then 61 else 6 : Nat) : Nat)) := by cases l <;> rfl
      have hB : 0 < (if l = true then 61 else 6 : Nat) ∧ (if l = true then 61 else 6 : Nat) ≤ 61 := by cases l <;> decide
      refine ⟨_, rfl, .inr ⟨_, rfl, l1, _, _, _, rfl, rfl, SqL.of e1, eB, p, q, ds, mx, c0, _, rfl, by omega, by omega, D0, by omega, fun nd ds2 H4 n0 n1 O3 D3 => ?_⟩⟩
      obtain ⟨nd, rfl⟩ := nat_of n0
      refine ⟨(by show 2 ≤ sizeLine; decide), fun l2 nl2 => ?_⟩
      have D3' : Dk H4 p q (b + 4) := ⟨_, mx, _, D3, by omega⟩
      have S3 := same_new (o := HO.lst [.int (nd : Nat), .int 60]) nl2
      have e2 : upd H4 l2 (.lst [.int (nd : Nat), .int 60]) l2 = some (.lst [.int (nd : Nat), .int 60]) := upd_same
      have O5 := ((O2.trans (.of_same S1)).trans O3).trans (.of_same S3)
      have eN : atI [V.int (nd : Nat), V.int 60] ((ed : Nat) : Int) = some (.int ((if ed = 0 then nd else 60 : Nat) : Nat)) := by
        refine atI_nat ?_
        rcases hed2 with rfl | rfl <;> rfl
      refine ⟨_, rfl, l2, _, _, _, rfl, rfl, SqL.of e2, eN, _, rfl, ?_, O5, D3'.same S3⟩
      split <;> omega
    rintro σ H3 ⟨n2, rfl, hn2, O3, D3⟩
    refine ⟨_, rfl, rfl, _, rfl, ?_⟩
    by_cases z3 : so = 3
    · refine if_t (decide_eq_true (by rw [z3]; rfl)) ?_
      obtain ⟨ds, mx, c0, D0, hc0⟩ := D3
      refine ⟨_, rfl, p, q, ds, mx, c0, 9, rfl, by decide, by decide, D0, by omega, fun x1 ds1 Ha a0 a1 Oa Da => ⟨_, _, rfl, rfl, _, rfl, p, q, ds1, mx, c0 + 1, 9, rfl, by decide, by decide, Da, by omega, fun x2 ds2 Hb b0 b1 Ob Db => ?_⟩⟩
      refine ⟨_, _, rfl, rfl, _, _, rfl, _, rfl, _, rfl, _, _, rfl, _, rfl, p, q, ds2, mx, c0 + 1 + 1, 30, rfl, by decide, by decide, Db, by omega, fun x3 ds3 Hc g0 g1 Oc Dc => ?_⟩
      refine ⟨_, _, rfl, rfl, _, rfl, _, rfl, _, _, rfl, _, rfl, p, q, ds3, mx, c0 + 1 + 1 + 1, 30, rfl, by decide, by decide, Dc, by omega, fun x4 ds4 Hd d0 d1 Od Dd => ?_⟩
      refine ⟨_, _, rfl, rfl, _, _, rfl, _, rfl, _, rfl, _, rfl, _, rfl, _, rfl, (by show 6 ≤ sizeLine; decide), fun a na => ?_⟩
      have D5 : Dk Hd p q (b + 8) := ⟨_, mx, _, Dd, by omega⟩
      obtain ⟨lo, hlo⟩ : ∃ lo : Int, lo = (if x2 - 4 < x1 - 4 then x2 - 4 else x1 - 4) - x3 := ⟨_, rfl⟩
      obtain ⟨hi, hhi⟩ : ∃ hi : Int, hi = (if x2 - 4 > x1 - 4 then x2 - 4 else x1 - 4) + x4 := ⟨_, rfl⟩
      have w1 : -60 ≤ lo ∧ lo ≤ x1 - 4 ∧ lo ≤ x2 - 4 := by
        rw [hlo]
        split <;> omega
      have w2 : hi ≤ 60 ∧ x1 - 4 ≤ hi ∧ x2 - 4 ≤ hi := by
        rw [hhi]
        split <;> omega
      have f := ints_all [((n2 : Nat) : Int), x1 - 4, x2 - 4, lo, hi] (by simp; omega)
      refine k _ (.tuple [.str "walk", .int (n2 : Nat), .int (x1 - 4), .int (x2 - 4), .int lo, .int hi]) _ (((((O3.trans Oa).trans Ob).trans Oc).trans Od).trans (.of_same (same_new na))) ((D5.same (same_new na)).mono (by omega)) (.tup (hide_new D5 na) (.cons (.str _ (by decide)) (.cons (.int _) (.cons (.int _) (.cons (.int _) (.cons ?_ (.cons ?_ .nil))))))) (leaf_walk hn2 w1.1 w1.2.1 w2.2.1 w1.2.2 w2.2.2 w2.1) ((lit_fine (by decide +kernel) f.1 (Nat.le_of_eq f.2.1) (Nat.le_of_eq f.2.2)).mono (by simp) (by decide))
      · rw [hlo]
        exact .int _
      · rw [hhi]
        exact .int _
    refine if_f (decide_eq_false fun z => z3 (by have := V.int.inj z; omega)) ?_
    refine ⟨_, rfl, (by show 2 ≤ sizeLine; decide), fun tp ntp => ?_⟩
    have St := same_new (o := HO.tup [.int 4, .int 7]) ntp
    have et : upd H3 tp (.tup [.int 4, .int 7]) tp = some (.tup [.int 4, .int 7]) := upd_same
    have D4 := D3.same St
    have O4 := O3.trans (.of_same St)
    generalize upd H3 tp (.tup [.int 4, .int 7]) = H4 at St et D4 O4 ⊢
    refine ⟨tp, _, rfl, .inr (SqT.of et), rfl, rfl, _, rfl, ?_⟩
    have ein := in47 ⟨so, hso⟩
    by_cases z4 : so = 4 ∨ so = 7
    · refine if_t (ein.trans (decide_eq_true z4)) ?_
      refine ⟨(by show 2 ≤ sizeLine; decide), fun l nl => ?_⟩
      have Sl := same_new (o := HO.lst [.str "cycle", .str "tree"]) nl
      have el : upd H4 l (.lst [.str "cycle", .str "tree"]) l = some (.lst [.str "cycle", .str "tree"]) := upd_same
      have D5 := D4.same Sl
      have O5 := O4.trans (.of_same Sl)
      generalize upd H4 l (.lst [.str "cycle", .str "tree"]) = H5 at Sl el D5 O5 ⊢
      have ec : atI [V.str "cycle", V.str "tree"] (if decide (V.int ((so : Nat) : Int) = V.int 7) = true then 1 else 0) = some (.str (if so = 4 then "cycle" else "tree")) := by
        rcases z4 with rfl | rfl <;> rfl
      refine ⟨_, rfl, rfl, .inr ⟨_, rfl, l, _, _, _, rfl, rfl, SqL.of el, ec, _, rfl, _, _, rfl, (by show 2 ≤ sizeLine; decide), fun a na => ?_⟩⟩
      have f := ints_all [((max 1 n : Nat) : Int)] (by simp; omega)
      refine k _ (.tuple [.str (if so = 4 then "cycle" else "tree"), .int ((max 1 n : Nat) : Int)]) _ (O5.trans (.of_same (same_new na))) ((D5.same (same_new na)).mono (by omega)) (.tup (hide_new D5 na) (.cons (.str _ ?_) (.cons ?_ .nil))) ?_ ((lit_fine ?_ f.1 (Nat.le_of_eq f.2.1) (Nat.le_of_eq f.2.2)).mono (by simp) (by decide))
      · rcases z4 with rfl | rfl <;> decide
      · rw [em]
        exact .int _
      · rcases z4 with rfl | rfl
        · exact leaf_cycle (by omega) (by omega)
        · exact leaf_tree (by omega) (by omega)
      · rcases z4 with rfl | rfl <;> decide +kernel
    refine if_f (ein.trans (decide_eq_false z4)) ?_
    refine ⟨_, rfl, rfl, _, rfl, ?_⟩
    by_cases z5 : so = 5
    · refine if_t (decide_eq_true (by rw [z5]; rfl)) ?_
      refine ⟨_, rfl, _, _, rfl, rfl, ⟨by decide, by decide⟩, (by show 2 ≤ sizeLine; decide), fun a na => ?_⟩
      have f := ints_all [((n / 2 : Nat) : Int)] (by simp; omega)
      exact k _ (.tuple [.str "matching", .int ((n / 2 : Nat) : Int)]) _ (O4.trans (.of_same (same_new na))) ((D4.same (same_new na)).mono (by omega)) (.tup (hide_new D4 na) (.cons (.str _ (by decide)) (.cons (.int ((n / 2 : Nat) : Int)) .nil))) (leaf_matching (by omega)) ((lit_fine (by decide +kernel) f.1 (Nat.le_of_eq f.2.1) (Nat.le_of_eq f.2.2)).mono (by simp) (by decide))
    refine if_f (decide_eq_false fun z => z5 (by have := V.int.inj z; omega)) ?_
    refine ⟨_, rfl, rfl, _, rfl, ?_⟩
    by_cases z6 : so = 6
    · refine if_t (decide_eq_true (by rw [z6]; rfl)) ?_
      refine ⟨_, rfl, _, rfl, n2, rfl, by omega, by omega, fun L nL => ?_⟩
      obtain ⟨Lp, Lq⟩ := D4.new nL
      refine lc_range (n := n2) (fun i Hx => ∃ acc : List Nat, Off p q H4 Hx ∧ Dk Hx p q (b + 4 + i) ∧ Hx L = some (.lst (acc.map fun i => V.int (i : Nat))) ∧ acc.Pairwise (· < ·) ∧ (∀ x ∈ acc, x < i) ∧ acc.length ≤ i)
        ⟨[], .of_same (same_new nL), (dk_upd D4 Lp Lq).mono (by omega), upd_same, .nil, by simp, by simp⟩ ?_ ?_
      · rintro i Hx hi ⟨acc, O6, D6, hL, hpa, hac, hla⟩
        rw [Int.zero_add]
        obtain ⟨ds6, mx6, c6, D6', hc6⟩ := D6
        refine ⟨rfl, _, rfl, p, q, ds6, mx6, c6, 2, rfl, by decide, by decide, D6', by omega, fun tg ds7 H7 g0 g1 O7 D7 => ?_⟩
        have D7' : Dk H7 p q (b + 4 + (i + 1)) := ⟨_, mx6, _, D7, by omega⟩
        have hL7 := O7 _ _ hL Lp Lq
        refine ⟨rfl, _, rfl, ?_⟩
        by_cases hg : tg = 0
        · refine if_t (decide_eq_true (by rw [hg])) ⟨_, rfl, _, hL7, ?_, acc ++ [i], ?_, dk_upd D7' Lp Lq, ?_, ?_, ?_, ?_⟩
          · rw [List.length_map, sizeLine_eq]
            omega
          · intro b' o e h1 h2
            have br : b' ≠ L := fun z => by
              rw [z, nL] at e
              cases e
            rw [upd_ne br]
            exact (O6.trans O7) b' o e h1 h2
          · rw [upd_same, List.map_append]
            rfl
          · exact List.pairwise_append.mpr ⟨hpa, by simp, fun x hx y hy => by
              obtain rfl : y = i := by simpa using hy
              exact hac x hx⟩
          · intro x hx
            rcases List.mem_append.mp hx with z | z
            · have := hac x z
              omega
            · obtain rfl : x = i := by simpa using z
              omega
          · rw [List.length_append, List.length_singleton]
            omega
        · exact if_f (decide_eq_false fun z => hg (V.int.inj z)) ⟨acc, O6.trans O7, D7', hL7, hpa, fun x hx => by have := hac x hx; omega, by omega⟩
      · rintro Hx ⟨acc, O6, D6, hL, hpa, hac, hla⟩
        refine ⟨L, _, rfl, .inl ⟨SqL.of hL, fun a2 n2' => ⟨(by show 3 ≤ sizeLine; decide), fun a3 n3 => ?_⟩⟩⟩
        have S7 := same_new (o := HO.tup (acc.map fun i => V.int (i : Nat))) n2'
        have D7 := D6.same S7
        have S8 := same_new (o := HO.tup [.str "permutation", .int (n2 : Nat), .ref a2]) n3
        have dI : ∀ (G : Hp) (l : List Nat), DatAll G (l.map fun i => V.int (i : Nat)) (l.map intD) := fun G l => by
          induction l with
          | nil => exact .nil
          | cons x l ih => exact .cons (.int _) ih
        have mI := ints_fine (s := 0) (S := acc) fun x hx => by have := hac x hx; omega
        have ei := fine_i (s := 0) (i := ((n2 : Nat) : Int)) (by omega) (by omega)
        refine k _ (.tuple [.str "permutation", .int (n2 : Nat), .tuple (acc.map intD)]) _ (((O4.trans O6).trans (.of_same S7)).trans (.of_same S8)) ((D7.same S8).mono (by omega)) (.tup (hide_new D7 n3) (.cons (.str _ (by decide)) (.cons (.int _) (.cons (.tup (hide_same S8 _ _ (hide_new D6 n2')) (dI _ _)) .nil)))) (leaf_perm hn2 hac hpa hla) ((lit_fine (m := 62) (n := 1) (by decide +kernel) ?_ ?_ ?_).mono (by decide) (by decide))
        · rw [fineAll, fineAll, fineAll, ei, fineB, mI.1]
          rfl
        · simp only [mass, massAll]
          omega
        · simp only [PyData.depth, PyData.depthAll]
          omega
    refine if_f (decide_eq_false fun z => z6 (by have := V.int.inj z; omega)) ?_
    refine ⟨_, rfl, p, q, b + 4, rfl, D4, by omega, fun v d H5 O5 D5 dd ab fi => ⟨_, rfl, (by show 3 ≤ sizeLine; decide), fun a na => ?_⟩⟩
    have ei := fine_i (s := 0) (i := ((n2 : Nat) : Int)) (by omega) (by omega)
    have f := fi.f
    have f2 := fi.m
    have f3 := fi.n
    refine k _ (.tuple [.str "string", d, .int (n2 : Nat)]) _ ((O4.trans O5).trans (.of_same (same_new na))) ((D5.same (same_new na)).mono (by omega)) (.tup (hide_new D5 na) (.cons (.str _ (by decide)) (.cons (dd.same (hide_same (same_new na))) (.cons (.int _) .nil)))) (leaf_string hn2 ab) ((lit_fine (m := 496) (n := 3) (by decide +kernel) ?_ ?_ ?_).mono (by decide) (by decide))
    · rw [fineAll, fineAll, fineAll, ei, f]
      rfl
    · simp only [mass, massAll]
      omega
    · simp only [PyData.depth, PyData.depthAll]
      omega
end
end K2
set_option maxRecDepth 100000
set_option maxHeartbeats 4000000
namespace L2
open PySem PySem.Spec PyProof.Rows
/-! ### ints and bools as numbers; a tuple turned around -/
/-- the number that an int or a bool is -/
def numV : V → Option Int
  | .int i => some i
  | .bl b => some (if b = true then 1 else 0)
  | _ => none
section
variable {X : Cx}
def rNumL (g : Int → Int → V) : R2 := fun x y H Q => ∃ i j, numV x = some i ∧ y = .int j ∧ Q (g i j) H
def rNumR (C : Int → Int → Prop) (g : Int → Int → V) : R2 := fun x y H Q => ∃ i j, x = .int i ∧ numV y = some j ∧ C i j ∧ Q (g i j) H
theorem numV_cases {x : V} {i : Int} (h : numV x = some i) : x = .int i ∨ ∃ b : Bool, x = .bl b ∧ i = if b = true then 1 else 0 := by
  cases x with
  | int j => exact .inl (by rw [Option.some.inj h])
  | bl b => exact .inr ⟨b, rfl, (Option.some.inj h).symm⟩
  | _ => cases h
theorem op_addNm : OpR X (binaryOp .Add) (rNumL fun i j => .int (i + j)) := by
  intro pins s σ H x y v u Q I rx ry h
  obtain ⟨i, j, hx, rfl, q⟩ := h
  obtain ⟨t, rfl⟩ := ry
  rcases numV_cases hx with rfl | ⟨b, rfl, rfl⟩
  · obtain ⟨t', rfl⟩ := rx
    exact PySem.P.add_int ⟨.int _, H, I.tok _, ⟨_, rfl⟩, q⟩
  · cases rx
    exact PySem.IntBool.add_bool_int ⟨.int _, H, I.tok _, ⟨_, rfl⟩, q⟩
theorem op_subNm : OpR X (binaryOp .Sub) (rNumL fun i j => .int (i - j)) := by
  intro pins s σ H x y v u Q I rx ry h
  obtain ⟨i, j, hx, rfl, q⟩ := h
  obtain ⟨t, rfl⟩ := ry
  rcases numV_cases hx with rfl | ⟨b, rfl, rfl⟩
  · obtain ⟨t', rfl⟩ := rx
    exact PySem.P.sub_int ⟨.int _, H, I.tok _, ⟨_, rfl⟩, q⟩
  · cases rx
    exact PySem.IntBool.sub_bool_int ⟨.int _, H, I.tok _, ⟨_, rfl⟩, q⟩
theorem op_subRNm : OpR X (binaryOp .Sub) (rNumR (fun _ _ => True) fun i j => .int (i - j)) := by
  intro pins s σ H x y v u Q I rx ry h
  obtain ⟨i, j, rfl, hy, _, q⟩ := h
  obtain ⟨t, rfl⟩ := rx
  rcases numV_cases hy with rfl | ⟨b, rfl, rfl⟩
  · obtain ⟨t', rfl⟩ := ry
    exact PySem.P.sub_int ⟨.int _, H, I.tok _, ⟨_, rfl⟩, q⟩
  · cases ry
    exact PySem.IntBool.sub_int_bool ⟨.int _, H, I.tok _, ⟨_, rfl⟩, q⟩
theorem op_mulRNm : OpR X (binaryOp .Mult) (rNumR CMulW fun i j => .int (i * j)) := by
  intro pins s σ H x y v u Q I rx ry h
  obtain ⟨i, j, rfl, hy, hc, q⟩ := h
  rcases numV_cases hy with rfl | ⟨b, rfl, rfl⟩
  · exact op_mulW pins s σ H _ _ _ _ Q I rx ry ⟨_, _, rfl, rfl, hc, q⟩
  · cases ry
    obtain ⟨t, rfl⟩ := rx
    exact PySem.IntBool.mul_int_bool ⟨.int _, H, I.tok _, ⟨_, rfl⟩, q⟩
theorem op_eqNm : OpR X (compareOp .Eq) (rNumL fun i j => .bl (i == j)) := by
  intro pins s σ H x y v u Q I rx ry h
  obtain ⟨i, j, hx, rfl, q⟩ := h
  rcases numV_cases hx with rfl | ⟨b, rfl, rfl⟩
  · have q' : Q (.bl (decide (V.int i = V.int j))) H := by
      have e : decide (V.int i = V.int j) = (i == j) := by
        by_cases z : i = j
        · rw [z]
          simp
        · rw [decide_eq_false (fun y => z (V.int.inj y)), beq_false_of_ne z]
      rw [e]
      exact q
    exact op_eq pins s σ H _ _ _ _ Q I rx ry ⟨rfl, q'⟩
  · cases rx
    obtain ⟨t, rfl⟩ := ry
    exact PySem.EqBoolInt.eq_bool_int ⟨.bl _, H, I, rfl, by cases b <;> exact q⟩
/-- str of an int or a bool -/
def numT : V → Str
  | .bl b => if b = true then "True" else "False"
  | .int i => toString i
  | _ => Str.empty
theorem call_strNm : CallR X (.type "str") (fun xs H Q => ∃ x i, xs = [x] ∧ numV x = some i ∧ i.natAbs.log2 < 1920 ∧ Q (.str (numT x)) H) := by
  intro pins s σ H xs us Q I r h
  obtain ⟨x, i, rfl, hx, hz, q⟩ := h
  obtain ⟨u, rfl, ru⟩ := vals1 r
  rcases numV_cases hx with rfl | ⟨b, rfl, rfl⟩
  · obtain ⟨t, rfl⟩ := ru
    exact PySem.P.str_of_int hz ⟨.str _, H, I.tok _, ⟨_, rfl⟩, q⟩
  · cases ru
    refine PySem.P.str_of_bool ⟨.str _, H, I.tok _, ⟨_, rfl⟩, ?_⟩
    cases b <;> exact q
end
end L2
set_option maxRecDepth 100000
set_option maxHeartbeats 4000000
namespace L2
open PySem PySem.Spec PyProof.Rows
/-! ### t[::-1] of a tuple -/
theorem fm_congr {α β : Type} {f g : α → Option β} : ∀ {l : List α}, (∀ x ∈ l, f x = g x) → l.filterMap f = l.filterMap g
  | [], _ => rfl
  | a :: l, h => by
    rw [List.filterMap_cons, List.filterMap_cons, h a (by simp), fm_congr (l := l) fun x hx => h x (by simp [hx])]
section
variable {prog : Program} {w : World} {A : Around} {E : Value → Shared → Prop} {s : Shared}
theorem adjust_rev (n : Nat) : Builtin.Slice.sliceAdjust none none (-1) (n : Int) = ((n : Int) - 1, -1) := by
  unfold Builtin.Slice.sliceAdjust
  have h1 : (-1 : Int) < 0 := by decide
  simp only [h1, if_true]
theorem places_rev (n : Nat) : Builtin.Slice.slicePlaces ((n : Int) - 1) (-1) (-1) = n := by
  unfold Builtin.Slice.slicePlaces
  have h1 : ¬ ((-1 : Int) > 0) := by decide
  have h2 : (-(-1) : Int) = 1 := by decide
  simp only [h1, if_false, h2, Int.ediv_one]
  split <;> omega
theorem applied_rev {sl : Addr} {vl vu vs : Value} {n : Nat} {Q : Int × Int × Nat → Shared → Prop} (hs : s.heap.IsSliceOf sl vl vu vs) (pl : IsPart vl none) (pu : IsPart vu none) (ps : IsPart vs (some (-1))) (h : Q ((n : Int) - 1, -1, n) s) :
    wpAny (model prog w) A (Builtin.Slice.sliceApplied (.ref sl) (pure (n : Int))) Q E s := by
  obtain ⟨os, gos, gcs, gds⟩ := hs
  unfold Builtin.Slice.sliceApplied Builtin.Slice.sliceFields
  (refine wpAny_bind (wpAny_bind (wpAny_field gos gds (x := vl) rfl (wpAny_bind (wpAny_field gos gds (x := vu) rfl (wpAny_bind (wpAny_field gos gds (x := vs) rfl (wpAny_pure ?_))))))))
  refine wpAny_bind (HT.slicePart_ ps ?_)
  show wpAny _ _ (if ((-1 : Int) == 0) = true then _ else _) _ _ s
  (rw [if_neg (by decide)]; refine wpAny_bind (HT.slicePart_ pl (wpAny_bind (HT.slicePart_ pu (wpAny_bind (wpAny_pure ?_))))))
  show wpAny _ _ (match Builtin.Slice.sliceAdjust none none (-1) (n : Int) with | (lo, hi) => pure (lo, (-1 : Int), Builtin.Slice.slicePlaces lo hi (-1))) _ _ s
  rw [adjust_rev n]
  show wpAny _ _ (pure ((n : Int) - 1, (-1 : Int), Builtin.Slice.slicePlaces ((n : Int) - 1) (-1) (-1))) _ _ s
  rw [places_rev]
  exact wpAny_pure h
theorem pick_rev (xs : Array Value) : ((List.range xs.size).filterMap fun (k : Nat) => xs[(((xs.size : Nat) : Int) - 1 + (k : Int) * (-1)).toNat]?).toArray = xs.toList.reverse.toArray := by
  have z := HT.pick_gen xs.toList.reverse.toArray 0 xs.size
  have e : (List.range xs.size).filterMap (fun (k : Nat) => xs[(((xs.size : Nat) : Int) - 1 + (k : Int) * (-1)).toNat]?) = (List.range xs.size).filterMap (fun (m : Nat) => xs.toList.reverse.toArray[(((0 : Nat) : Int) + (m : Int) * 1).toNat]?) := by
    refine fm_congr fun k hk => ?_
    have hk' : k < xs.size := List.mem_range.mp hk
    have e1 : (((xs.size : Nat) : Int) - 1 + (k : Int) * (-1)).toNat = xs.size - 1 - k := by omega
    have e2 : (((0 : Nat) : Int) + (k : Int) * 1).toNat = k := by omega
    have e3 : xs.toList.reverse.toArray[k]? = xs.toList.reverse[k]? := List.getElem?_toArray
    have e4 : xs.toList.length = xs.size := Array.length_toList
    rw [e1, e2, e3, List.getElem?_reverse (by rw [e4]; exact hk'), e4, Array.getElem?_toList]
  rw [e, z, List.drop_zero, List.take_of_length_le (by simp)]
theorem getItem_tuple_rev {t sl : Addr} {its : Array Value} {vl vu vs : Value} {Q : Value → Shared → Prop} (ht : IsTup s.heap t its) (hs : s.heap.IsSliceOf sl vl vu vs) (pl : IsPart vl none) (pu : IsPart vu none) (ps : IsPart vs (some (-1)))
    (h : Q (.ref s.heap.objs.size) { s with heap := s.heap.push { cls := .type "tuple", data := .seq its.toList.reverse.toArray } }) (hsz : its.size ≤ sizeLine) : wpAny (model prog w) A (getItem (.ref t) (.ref sl)) Q E s := by
  have htake : sizeOk (.seq its.toList.reverse.toArray) := by
    show its.toList.reverse.toArray.size ≤ sizeLine
    simpa using hsz
  obtain ⟨os, gos, gcs, gds⟩ := id hs
  have gTs : s.TypeIs (.ref sl) "slice" := ⟨os, gos, gcs⟩
  unfold getItem
  (try with_reducible refine wpAny_holding ?_)
  (first | refine wpAny_bind (wpAny_pure ?_) | skip)
  (refine wpAny_bind (wpAny_sequenceKey ht.typeIs (by decide) ?_))
  (refine wpAny_bind (wpAny_callSpecial?_slot (name := Str.ofString "__getitem__") ht.typeIs PyProof.Rows.slot_tuple_getitem (wpAny_call_entry PyProof.Rows.slot_tuple_getitem ht.typeIs entry_tuple_getitem ?_ (args_tuple_getitem _ _))))
  (show wpAny _ _ (Builtin.Tuple.tupleItemsOf (.ref t) >>= _) _ _ s)
  (refine wpAny_bind (tupleItemsOf_ ht (wpAny_bind (wpAny_typeOf gTs ?_))))
  rw [if_pos (by decide)]
  (refine wpAny_bind (applied_rev hs pl pu ps ?_))
  have hno : ¬ ((((its.size : Nat) : Int) - 1 == 0 && (-1 : Int) == 1 && its.size == its.size) = true) := by
    intro q
    rw [Bool.and_eq_true, Bool.and_eq_true] at q
    exact absurd q.1.2 (by decide)
  (show wpAny _ _ (if (((its.size : Nat) : Int) - 1 == 0 && (-1 : Int) == 1 && its.size == its.size) = true then _ else _) _ _ s)
  rw [if_neg hno, pick_rev]
  (first
    | exact wpAny_bind (m := Builtin.Tuple.tupleExact _) (wpAny_newObj_type (wpAny_pure ⟨_, rfl, wpAny_pure h⟩) htake) | exact wpAny_bind (m := Builtin.Tuple.tupleExact _) (wpAny_newObj_type (wpAny_bind (wpAny_pure (wpAny_pure ⟨_, rfl, wpAny_pure h⟩))) htake)
    | exact wpAny_bind (wpAny_bind (m := Builtin.Tuple.tupleExact _) (wpAny_newObj_type (wpAny_pure (wpAny_pure ⟨_, rfl, wpAny_pure h⟩)) htake)) | exact wpAny_bind (wpAny_bind (m := Builtin.Tuple.tupleExact _) (wpAny_newObj_type (wpAny_pure ⟨_, rfl, wpAny_pure h⟩) htake)))
end
def tRevT (K : PySem.W.Frag) (te : TE) : TE := fun σ H Q => te σ H fun x H1 => ∃ a xs, x = .ref a ∧ SqT K H1 a xs ∧ ∀ p, H1 p = none → Q (.ref p) (upd H1 p (.tup xs.reverse))
theorem pe_revT {X : Cx} {e : Expr} {te : TE} {k : Nat} {p1 p2 p3 pos : Pos} (he : PE X e te) : PE X (.Subscript e (.Slice none none (some (.UnaryOp .USub (.Constant (.int 1) k p1) p2)) p3) pos) (tRevT X.K te) := by
  refine ⟨fun pins s σ H Q I h => Subscript_ (thn (he.run pins s σ H _ I h) fun v s1 hv => ?_)⟩
  obtain ⟨x, H1, I1, r1, a, xs, ex, hx, q⟩ := hv
  subst ex
  cases r1
  have hst : PO X (some (.UnaryOp .USub (.Constant (.int 1) k p1) p2)) (tPart (tUn (rU fun i => .int (-i)) (tC (.int 1)))) := (po_some (pe_un un_neg pe_int))
  (refine wpAny_Slice (thn (po_none.run pins s1 σ H1 (fun o H2 => o = none ∧ H2 = H1) I1 ⟨rfl, rfl⟩) fun vl s2 hl => ?_))
  obtain ⟨l, H2, I2, pl, el, e2⟩ := hl
  subst el e2
  (refine thn (po_none.run pins s2 σ H2 (fun o H3 => o = none ∧ H3 = H2) I2 ⟨rfl, rfl⟩) fun vu s3 hu => ?_)
  obtain ⟨u, H3, I3, pu, eu, e3⟩ := hu
  subst eu e3
  (refine thn (hst.run pins s3 σ H3 (fun o H4 => o = some (-1) ∧ H4 = H3) I3 ⟨1, rfl, -1, rfl, rfl, rfl⟩) fun vs s4 hs4 => ?_)
  obtain ⟨o, H4, I4, ps, eo, e4⟩ := hs4
  subst eo e4
  have J : Inv X pins σ H4 { s4 with heap := s4.heap.push { cls := .type "slice", data := .fields #[vl, vu, vs] } } := (I4.kept (t' := s4.toks) fun b ob q => Heap.get?_push_of_some _ q)
  obtain ⟨its, r, ht, hz⟩ := J.tuple hx
  (show wpAny (model X.prog X.w) X.A (subscriptTail e (.Slice none none (some (.UnaryOp .USub (.Constant (.int 1) k p1) p2)) p3) (.ref a) (.ref s4.heap.objs.size)) (EP X pins σ Q) X.xe { s4 with heap := s4.heap.push { cls := .type "slice", data := .fields #[vl, vu, vs] } })
  refine tail_any (ops := [.ref a, .ref s4.heap.objs.size]) ht.typeIs (PyProof.Rows.slot_tuple_getitem.lookup) ?_ (by with_unfolding_all rfl)
  refine getItem_tuple_rev ht (Heap.IsSliceOf.new _ vl vu vs) pl pu ps ?_ (by rw [List.size_toArray, ← r.length]; exact hz)
  refine ⟨.ref _, _, J.laid (t' := s4.toks) (o := .tup xs.reverse) (fun b ob q => Heap.get?_push_of_some _ q) (Nat.le_refl _) ?_, rfl, q _ (J.hok.fresh (Nat.le_refl _))⟩
  exact ⟨by rw [List.length_reverse]; exact hz, _, r.reverse, IsTup.new _ _⟩
end L2
set_option maxRecDepth 100000
set_option maxHeartbeats 4000000
namespace K2
open PySem PySem.Spec PyProof.Rows L2
/-! ### what becomes of fine things when they are bent -/
mutual
theorem fine_up {s : Nat} : ∀ d : PyData, fineB s d = true → fineB (s + 1) d = true
  | .int i, h => by
    rw [fineB] at h ⊢
    exact decide_eq_true (Nat.lt_of_lt_of_le (of_decide_eq_true h) (Nat.pow_le_pow_right (by decide) (by omega)))
  | .str x, h => by
    rw [fineB, Bool.and_eq_true, Bool.and_eq_true] at h
    rw [fineB, h.1, h.2.1]
    have := of_decide_eq_true h.2.2
    exact decide_eq_true (by omega)
  | .list l, h => by
    rw [fineB] at h ⊢
    exact fine_ups l h
  | .tuple l, h => by
    rw [fineB] at h ⊢
    exact fine_ups l h
  | .dict kv, h => by
    rw [fineB] at h ⊢
    exact h
  | .none, _ => by rw [fineB]
  | .bool _, _ => by rw [fineB]
theorem fine_ups {s : Nat} : ∀ l : List PyData, fineAll s l = true → fineAll (s + 1) l = true
  | [], _ => rfl
  | d :: l, h => by
    have h' : fineB s d = true ∧ fineAll s l = true := by simpa [fineAll] using h
    rw [fineAll, fine_up d h'.1, fine_ups l h'.2]
    rfl
end
theorem Fine.up {s m n : Nat} {d : PyData} (F : Fine s m n d) : Fine (s + 1) m n d := ⟨fine_up d F.f, F.m, F.n⟩
/-- a list of fine things, its mass, its depth -/
structure FineL (s m n : Nat) (ds : List PyData) : Prop where
  f : ∀ d ∈ ds, fineB s d = true
  m : massAll ds ≤ m
  n : PyData.depthAll ds ≤ n
theorem FineL.tup {s m n : Nat} {ds : List PyData} (F : FineL s m n ds) : Fine s (m + 1) (n + 1) (.tuple ds) := tup_fine F.f F.m F.n
theorem FineL.lst {s m n : Nat} {ds : List PyData} (F : FineL s m n ds) : Fine s (m + 1) (n + 1) (.list ds) := by
  refine ⟨?_, ?_, ?_⟩
  · rw [fineB]
    exact fineAll_iff.mpr F.f
  · have := F.m
    simp only [mass]
    omega
  · have := F.n
    simp only [PyData.depth]
    omega
theorem Fine.inv {s m n : Nat} {ds : List PyData} (F : Fine s m n (.tuple ds)) : 1 ≤ m ∧ 1 ≤ n ∧ FineL s (m - 1) (n - 1) ds := by
  have h1 := F.f
  have h2 := F.m
  have h3 := F.n
  rw [fineB] at h1
  simp only [mass] at h2
  simp only [PyData.depth] at h3
  exact ⟨by omega, by omega, fineAll_iff.mp h1, by omega, by omega⟩
theorem FineL.app {s m n m' n' : Nat} {ds es : List PyData} (F : FineL s m n ds) (G : FineL s m' n' es) : FineL s (m + m') (max n n') (ds ++ es) := by
  refine ⟨fun d hd => (List.mem_append.mp hd).elim (F.f d) (G.f d), ?_, ?_⟩
  · have a := F.m
    have b := G.m
    rw [massAll_append]
    omega
  · have a := F.n
    have b := G.n
    rw [depthAll_append]
    omega
theorem FineL.mono {s m n m' n' : Nat} {ds : List PyData} (F : FineL s m n ds) (h : m ≤ m') (h2 : n ≤ n') : FineL s m' n' ds := ⟨F.f, Nat.le_trans F.m h, Nat.le_trans F.n h2⟩
theorem FineL.one {s m n : Nat} {d : PyData} (F : Fine s m n d) : FineL s m n [d] := by
  refine ⟨fun e he => by rw [List.mem_singleton.mp he]; exact F.f, ?_, ?_⟩
  · have := F.m
    simp only [massAll]
    omega
  · have := F.n
    simp only [PyData.depthAll]
    omega
theorem mass_take (ds : List PyData) (k : Nat) : massAll (ds.take k) + massAll (ds.drop k) = massAll ds ∧ PyData.depthAll (ds.take k) ≤ PyData.depthAll ds ∧ PyData.depthAll (ds.drop k) ≤ PyData.depthAll ds := by
  have z := massAll_append (ds.take k) (ds.drop k)
  have y := depthAll_append (ds.take k) (ds.drop k)
  rw [List.take_append_drop] at z y
  omega
theorem FineL.take {s m n : Nat} {ds : List PyData} (F : FineL s m n ds) (k : Nat) : FineL s m n (ds.take k) := by
  obtain ⟨a, b, c⟩ := mass_take ds k
  have h1 := F.m
  have h2 := F.n
  exact ⟨fun d hd => F.f d (List.mem_of_mem_take hd), by omega, by omega⟩
theorem FineL.drop {s m n : Nat} {ds : List PyData} (F : FineL s m n ds) (k : Nat) : FineL s m n (ds.drop k) := by
  obtain ⟨a, b, c⟩ := mass_take ds k
  have h1 := F.m
  have h2 := F.n
  exact ⟨fun d hd => F.f d (List.mem_of_mem_drop hd), by omega, by omega⟩
theorem mass_rev : ∀ ds : List PyData, massAll ds.reverse = massAll ds ∧ PyData.depthAll ds.reverse = PyData.depthAll ds
  | [] => ⟨rfl, rfl⟩
  | d :: ds => by
    obtain ⟨a, b⟩ := mass_rev ds
    rw [List.reverse_cons, massAll_append, depthAll_append, a, b]
    simp only [massAll, PyData.depthAll]
    omega
theorem FineL.rev {s m n : Nat} {ds : List PyData} (F : FineL s m n ds) : FineL s m n ds.reverse := by
  obtain ⟨a, b⟩ := mass_rev ds
  have h1 := F.m
  have h2 := F.n
  exact ⟨fun d hd => F.f d (List.mem_reverse.mp hd), by omega, by omega⟩
theorem FineL.up {s m n : Nat} {ds : List PyData} (F : FineL s m n ds) : FineL (s + 1) m n ds := ⟨fun d hd => fine_up d (F.f d hd), F.m, F.n⟩
theorem FineL.mem {s m n : Nat} {ds : List PyData} (F : FineL s m n ds) {d : PyData} (h : d ∈ ds) : Fine s m n d := by
  have g1 : ∀ l : List PyData, d ∈ l → mass d ≤ massAll l ∧ d.depth ≤ PyData.depthAll l := fun l => by
    induction l with
    | nil => intro z; cases z
    | cons e l ih =>
      intro z
      rw [massAll, PyData.depthAll]
      rcases List.mem_cons.mp z with z | z
      · rw [z]
        omega
      · have := ih z
        omega
  have := g1 ds h
  have h1 := F.m
  have h2 := F.n
  exact ⟨F.f d h, by omega, by omega⟩
/-- DatAll of parts -/
theorem dat_take {H : Hp} {xs : List V} {ds : List PyData} (k : Nat) (h : DatAll H xs ds) : DatAll H (xs.take k) (ds.take k) := by
  induction k generalizing xs ds with
  | zero => exact .nil
  | succ k ih =>
    cases h with
    | nil => exact .nil
    | cons a t => exact .cons a (ih t)
theorem dat_drop {H : Hp} {xs : List V} {ds : List PyData} (k : Nat) (h : DatAll H xs ds) : DatAll H (xs.drop k) (ds.drop k) := by
  induction k generalizing xs ds with
  | zero => exact h
  | succ k ih =>
    cases h with
    | nil => exact .nil
    | cons a t => exact ih t
theorem dat_rev {H : Hp} {xs : List V} {ds : List PyData} (h : DatAll H xs ds) : DatAll H xs.reverse ds.reverse := by
  cases h with
  | nil => exact .nil
  | cons a t =>
    rw [List.reverse_cons, List.reverse_cons]
    exact datAll_append (dat_rev t) (.cons a .nil)
/-- any part of a tuple -/
theorem slAny_of {K : PySem.W.Frag} {H : Hp} {a : Addr} {xs : List V} {lo hi : Option Int} {Q : VK} (ha : H a = some (.tup xs)) (hq : ∀ (b : Addr) (Hb : Hp), Same H Hb → Hb b = some (.tup (cutV xs lo hi)) → Q (.ref b) Hb) : rSlA K (.ref a) lo hi H Q := by
  refine ⟨a, xs, rfl, SqT.of ha, fun z => hq a H (Same.refl H) ?_, fun _ p np => hq p _ (same_new np) upd_same⟩
  rw [ha]
  have e : cutV xs lo hi = xs := by
    unfold cutV
    rw [z.1, z.2, List.drop_zero, Nat.sub_zero, List.take_length]
  rw [e]
/-- two tuples, one behind the other -/
theorem catA_of {K : PySem.W.Frag} {H : Hp} {a b : Addr} {xs ys : List V} {Q : VK} (ha : H a = some (.tup xs)) (hb : H b = some (.tup ys)) (hz : xs.length + ys.length ≤ sizeLine) (hq : ∀ (c : Addr) (Hc : Hp), Same H Hc → Hc c = some (.tup (xs ++ ys)) → Q (.ref c) Hc) : rCatA K (.ref a) (.ref b) H Q := by
  refine ⟨a, b, xs, ys, rfl, rfl, SqT.of ha, SqT.of hb, hz, fun e => hq b H (Same.refl H) ?_, fun _ e => hq a H (Same.refl H) ?_, fun _ _ p np => hq p _ (same_new np) upd_same⟩
  · rw [hb, e, List.nil_append]
  · rw [ha, e, List.append_nil]
theorem cut_from {xs : List V} {n m : Nat} : cutV xs (some (n : Int)) (some (m : Int)) = (xs.take m).drop n := by
  unfold cutV
  have e1 : HT.sIx xs.length 0 (some (n : Int)) = min n xs.length := HT.sIx_nat xs.length _ n
  have e2 : HT.sIx xs.length xs.length (some (m : Int)) = min m xs.length := HT.sIx_nat xs.length _ m
  rw [e1, e2, List.drop_take]
  by_cases h : n ≤ xs.length
  · rw [Nat.min_eq_left h]
    rw [List.take_eq_take_iff, List.length_drop]
    omega
  · have a1 : xs.drop n = [] := List.drop_eq_nil_of_le (by omega)
    have a2 : min n xs.length = xs.length := by omega
    rw [a2, List.drop_length, a1, List.take_nil, List.take_nil]
end K2
set_option maxRecDepth 100000
set_option maxHeartbeats 4000000
namespace K2
open PySem PySem.Spec PyProof.Rows L2
/-! ### numbers and texts that are bent -/
theorem txt_small {x : Str} (h : ∀ c ∈ x.cps.toList, c ≤ 90) : txtOk x = true := by
  unfold txtOk
  split
  · rename_i a b l e
    have ha : a ≤ 90 := h a (by rw [e]; simp)
    rw [Bool.not_eq_true']
    simp only [List.contains_cons, List.contains_nil, Bool.or_false, Bool.or_eq_false_iff]
    have z : ∀ k : Nat × Nat, 90 < k.1 → ((a, b) == k) = false := fun k hk => by
      rw [beq_eq_false_iff_ne]
      intro e2
      rw [← e2] at hk
      have : 90 < a := hk
      omega
    exact ⟨z _ (by decide), z _ (by decide), z _ (by decide), z _ (by decide)⟩
  · rfl
theorem num_signs (i : Int) : ∀ c ∈ (Str.ofString (toString i)).cps.toList, c ≤ 57 := by
  intro c hc
  rw [signs_ofString] at hc
  obtain ⟨ch, hch, rfl⟩ := List.mem_map.mp hc
  rcases int_sign i ch hch with z | z
  · exact (digit_range z).2
  · rw [z]
    decide
theorem str_fine {s : Nat} {x : Str} (h1 : ∀ c ∈ x.cps.toList, c < 128) (h2 : txtOk x = true) (h3 : x.length ≤ 200 * (s + 1)) : fineB s (.str x) = true := by
  rw [fineB, h2, decide_eq_true h3, Bool.and_true, Bool.and_true]
  exact List.all_eq_true.mpr fun c hc => decide_eq_true (h1 c hc)
theorem num_fine {v : V} {i : Int} {s : Nat} (h : numV v = some i) (hi : i.natAbs < 10 ^ (40 + s)) (hs : s ≤ 4) : Fine (s + 1) 50 0 (.str (numT v)) ∧ (numT v).length ≤ 1000 := by
  rcases numV_cases h with rfl | ⟨b, rfl, rfl⟩
  · have e : numT (.int i) = Str.ofString (toString i) := rfl
    have z := int_text_length_le10 (a := i) (k := 40 + s) (by omega) hi
    have l : (Str.ofString (toString i)).length ≤ 45 := by
      rw [PySem.ofString_length]
      omega
    rw [e]
    refine ⟨⟨str_fine (fun c hc => by have := num_signs i c hc; omega) (txt_small fun c hc => by have := num_signs i c hc; omega) (by omega), ?_, by simp [PyData.depth]⟩, by omega⟩
    have y : (Str.ofString (toString i)).length = (Str.ofString (toString i)).cps.size := rfl
    simp only [mass]
    omega
  · have z : ∀ b : Bool, fineB 0 (.str (numT (.bl b))) = true ∧ mass (.str (numT (.bl b))) ≤ 50 ∧ (numT (.bl b)).length ≤ 1000 := by decide +kernel
    have y : ∀ k : Nat, fineB k (.str (numT (.bl b))) = true := fun k => by
      induction k with
      | zero => exact (z b).1
      | succ k ih => exact fine_up _ ih
    exact ⟨⟨y _, (z b).2.1, by simp [PyData.depth]⟩, (z b).2.2⟩
theorem num_of {H : Hp} {v : V} {d : PyData} {s : Nat} (hd : Dat H v d) (hf : fineB s d = true) (h : (isInt d || isBool d) = true) : ∃ i, numV v = some i ∧ i.natAbs < 10 ^ (40 + s) := by
  cases hd with
  | int i =>
    rw [fineB] at hf
    exact ⟨i, rfl, of_decide_eq_true hf⟩
  | bl b =>
    refine ⟨_, rfl, ?_⟩
    have z : 1 < 10 ^ (40 + s) := Nat.lt_of_lt_of_le (show 1 < 10 ^ 1 by decide) (Nat.pow_le_pow_right (by decide) (by omega))
    cases b
    · show (0 : Int).natAbs < _
      omega
    · show (1 : Int).natAbs < _
      omega
  | _ => cases h
theorem int_up {s : Nat} {i j : Int} (hi : i.natAbs < 10 ^ (40 + s)) (h : j.natAbs ≤ 2 * i.natAbs + 2) : fineB (s + 1) (.int j) = true := by
  rw [fineB]
  refine decide_eq_true ?_
  have e : 10 ^ (40 + (s + 1)) = 10 ^ (40 + s) * 10 := by rw [show 40 + (s + 1) = (40 + s) + 1 by omega, Nat.pow_succ]
  have z : 1 < 10 ^ (40 + s) := Nat.lt_of_lt_of_le (show 1 < 10 ^ 1 by decide) (Nat.pow_le_pow_right (by decide) (by omega))
  rw [e]
  omega
theorem str_parts {s : Nat} {x : Str} (h : fineB s (.str x) = true) : (∀ c ∈ x.cps.toList, c < 128) ∧ txtOk x = true ∧ x.length ≤ 200 * (s + 1) := by
  rw [fineB, Bool.and_eq_true, Bool.and_eq_true] at h
  exact ⟨fun c hc => of_decide_eq_true (List.all_eq_true.mp h.1 c hc), h.2.1, of_decide_eq_true h.2.2⟩
/-- the first two signs decide -/
def two2 : List Nat → Bool
  | a :: b :: _ => !(([(112, 114), (112, 111), (99, 104), (100, 101)] : List (Nat × Nat)).contains (a, b))
  | _ => true
theorem txt_two (x : Str) : txtOk x = two2 x.cps.toList := by
  unfold txtOk two2
  split <;> simp_all
theorem two_snoc {l : List Nat} {c : Nat} (h : two2 l = true) (hc : c < 100) : two2 (l ++ [c]) = true := by
  match l, h with
  | [], _ => rfl
  | [a], _ => 
    show (!(([(112, 114), (112, 111), (99, 104), (100, 101)] : List (Nat × Nat)).contains (a, c))) = true
    have z : ∀ k : Nat × Nat, 100 ≤ k.2 → ((a, c) == k) = false := fun k hk => by
      rw [beq_eq_false_iff_ne]
      intro e2
      rw [← e2] at hk
      have : 100 ≤ c := hk
      omega
    simp only [List.contains_cons, List.contains_nil, Bool.or_false, z _ (show 100 ≤ (112, 114).2 by decide), z _ (show 100 ≤ (112, 111).2 by decide), z _ (show 100 ≤ (99, 104).2 by decide), z _ (show 100 ≤ (100, 101).2 by decide)]
    rfl
  | a :: b :: l, h => exact h
theorem two_take {l : List Nat} (k : Nat) (h : two2 l = true) : two2 (l.take k) = true := by
  match l, k, h with
  | [], k, _ => rw [List.take_nil]; rfl
  | [a], 0, _ => rfl
  | [a], k + 1, _ =>
    rw [List.take_succ_cons, List.take_nil]
    rfl
  | a :: b :: l, 0, _ => rfl
  | a :: b :: l, 1, _ => rfl
  | a :: b :: l, k + 2, h => exact h
theorem str_snoc {s : Nat} {x : Str} {c : Nat} (h : fineB s (.str x) = true) (hc : c < 100) (hs : s ≤ 3) : Fine (s + 1) (mass (.str x) + 1) 0 (.str (x ++ (⟨#[c]⟩ : Str))) ∧ (x ++ (⟨#[c]⟩ : Str)).length ≤ 1000 ∧ x.length + (⟨#[c]⟩ : Str).length ≤ sizeLine := by
  obtain ⟨h1, h2, h3⟩ := str_parts h
  have e : (x ++ (⟨#[c]⟩ : Str)).cps.toList = x.cps.toList ++ [c] := by
    show (x.cps ++ #[c]).toList = _
    simp
  have l : (x ++ (⟨#[c]⟩ : Str)).length = x.length + 1 := by
    show (x.cps ++ #[c]).size = x.cps.size + 1
    simp
  refine ⟨⟨str_fine (fun d hd => ?_) ?_ (by omega), ?_, by simp [PyData.depth]⟩, by omega, ?_⟩
  · rw [e] at hd
    rcases List.mem_append.mp hd with z | z
    · exact h1 d z
    · obtain rfl : d = c := by simpa using z
      omega
  · rw [txt_two, e]
    rw [txt_two] at h2
    exact two_snoc h2 hc
  · have y1 : (x ++ (⟨#[c]⟩ : Str)).length = (x ++ (⟨#[c]⟩ : Str)).cps.size := rfl
    have y2 : x.length = x.cps.size := rfl
    simp only [mass]
    omega
  · have : (⟨#[c]⟩ : Str).length = 1 := rfl
    rw [sizeLine_eq]
    omega
theorem str_cut {s : Nat} {x : Str} {hi : Option Int} (h : fineB s (.str x) = true) (hs : s ≤ 3) : Fine (s + 1) (mass (.str x)) 0 (.str (cutS x none hi)) ∧ (cutS x none hi).length ≤ 1000 := by
  obtain ⟨h1, h2, h3⟩ := str_parts h
  obtain ⟨k, e⟩ : ∃ k, (cutS x none hi).cps.toList = x.cps.toList.take k := by
    unfold cutS
    rw [HT.sIx_none, List.drop_zero]
    exact ⟨_, rfl⟩
  have l : (cutS x none hi).length ≤ x.length := by
    show (cutS x none hi).cps.size ≤ x.cps.size
    rw [← Array.length_toList, ← Array.length_toList, e, List.length_take]
    omega
  refine ⟨⟨str_fine (fun d hd => ?_) ?_ (by omega), ?_, by simp [PyData.depth]⟩, by omega⟩
  · rw [e] at hd
    exact h1 d (List.mem_of_mem_take hd)
  · rw [txt_two, e]
    rw [txt_two] at h2
    exact two_take k h2
  · have y1 : (cutS x none hi).length = (cutS x none hi).cps.size := rfl
    have y2 : x.length = x.cps.size := rfl
    simp only [mass]
    omega
theorem log_small {i : Int} {s : Nat} (hi : i.natAbs < 10 ^ (40 + s)) (hs : s ≤ 4) : i.natAbs.log2 < 1920 := by
  have z : i.natAbs < 2 ^ 1920 := Nat.lt_of_lt_of_le hi (Nat.le_trans (Nat.pow_le_pow_right (by decide) (show 40 + s ≤ 44 by omega)) (by decide +kernel))
  exact log2_small z
end K2
set_option maxRecDepth 100000
set_option maxHeartbeats 8000000
namespace K2
open PySem PySem.Spec PyProof.Rows L2
/-! ### the law's other -/
abbrev s_other : Stmt := top 95
theorem fine_le {d : PyData} (h : fineB 0 d = true) : ∀ s : Nat, fineB s d = true
  | 0 => h
  | s + 1 => fine_up d (fine_le h s)
def menu : List PyData := [.none, .bool true, .bool false, .int 0, .int 1, .int (-1), .int 400, .int 401, .int (10 ^ 39), .str "", .str "a", .str "subset", .str "item", .tuple [], .list [], .dict [], .tuple [.str "cycle", .int 3], .tuple [.int 0]]
theorem menu_fine : ∀ d ∈ menu, fineB 0 d = true ∧ mass d ≤ 12 ∧ d.depth ≤ 1 := by decide +kernel
theorem pick_fine {H : Hp} {p q t : Addr} {b S M N : Nat} {xs : List V} {ds : List PyData} {Q : VK} {E : XK} (D : Dk H p q b) (ht : H t = some (.lst xs)) (tp : t ≠ p) (tq : t ≠ q) (hx : DatAll (hide p q H) xs ds) (hF : ∀ d ∈ ds, Fine S M N d) (h0 : 0 < xs.length) (h1 : xs.length ≤ 1000) (hb : b < 100000000)
    (k : ∀ (v : V) (d : PyData) (H' : Hp), Off p q H H' → Dk H' p q (b + 1) → Dat (hide p q H') v d → Fine S M N d → Q v H') : spPick [.ref p, .ref t] H Q E :=
  pick_of D ht tp tq h0 h1 hb fun j x H' hj O D' => by
    obtain ⟨d, hd, td⟩ := hx.get hj
    exact k x d H' O D' (td.same (hide_off O)) (hF d (List.mem_of_getElem? hd))
def spOther : Sp := fun vs H Q _ => ∃ (p q : Addr) (b s m n : Nat) (v : V) (d : PyData), vs = [.ref p, v] ∧ Dk H p q b ∧ b + 3 ≤ 100000000 ∧ Dat (hide p q H) v d ∧ Fine s m n d ∧ s ≤ 3 ∧ m ≤ 100000 ∧
  ∀ (v' : V) (d' : PyData) (H' : Hp), Off p q H H' → Dk H' p q (b + 3) → Dat (hide p q H') v' d' → Fine (s + 1) (2 * m + 50) (n + 2) d' → Q v' H'
section
variable {P : Program} {w : World} {K : PySem.W.Frag} {mg : Str → Option Value} {base : Heap}
theorem sc_other : FnScope ["_law_deck_here", "_law_thing", "_law_way", "_law_items", "_law_words", "_law_at", "_law_swapped", "_law_longer"] ["_law_deck_here", "_law_thing"] (defScope s_other) := ⟨rfl, rfl, rfl, by decide +kernel, rfl, by decide +kernel, by decide +kernel⟩
theorem okl_other {f fD fP : Addr} {fd fdD fdP : FuncData} (F : Fun K "_law_other" "_law_other" s_other f fd) (T : Nm mg) (Tl : mg "list" = none)
    (D_draw : DefOk K mg "_law_draw" sDraw ["_law_deck_here", "_law_bound"] fD fdD) (D_pick : DefOk K mg "_law_pick" sPick ["_law_deck_here", "_law_items"] fP fdP) : FnOk P w K mg base CX0 3 f fd ["_law_deck_here", "_law_thing"] spOther := by
  have G_draw : FnOk P w K mg base CX0 1 fD fdD ["_law_deck_here", "_law_bound"] spDraw := ok_draw D_draw.F
  have G_pick : FnOk P w K mg base CX0 2 fP fdP ["_law_deck_here", "_law_items"] spPick := ok_pick D_pick.F T D_draw.F D_draw.b D_draw.g
  refine F.ok sc_other (fun vs H Q E h => ?_) (fun cdv A outer s H vs Q E hr h => ?_)
  · obtain ⟨p, q, b, s, m, n, v, d, rfl, _⟩ := h
    rfl
  · obtain ⟨p, q, b, sg, m, n, v, d, rfl, D, hb, hd, hF, hs3, hm, k⟩ := h
    have hr1 : Room 1 _ := hr.mono (by decide)
    have hu0 := hr.units0
    refine ⟨_, (pss_cons (ps_set (i := 2) sc_other.nd rfl (Or.inl rfl) (pe_call G_draw hr1 rfl D_draw.g D_draw.F.kp D_draw.b .nil pass0 (pa_cons (pv 0) (pa_cons pe_int pa_nil))))
      (pss_cons (ps_set (i := 3) sc_other.nd rfl (Or.inl rfl) (pe_lst (pa_cons pe_non (pa_cons pe_bl (pa_cons pe_bl (pa_cons pe_int (pa_cons pe_int (pa_cons (pe_un un_neg pe_int) (pa_cons pe_int (pa_cons pe_int (pa_cons (pe_op op_pow pe_int pe_int) (pa_cons pe_str (pa_cons pe_str (pa_cons pe_str (pa_cons pe_str (pa_cons (pe_tup pa_nil) (pa_cons (pe_lst pa_nil) (pa_cons pe_dnewK (pa_cons (pe_tup (pa_cons pe_str (pa_cons pe_int pa_nil))) (pa_cons (pe_tup (pa_cons pe_int pa_nil)) pa_nil))))))))))))))))))))
      (pss_cons (ps_if (pt_cmpR op_eq (pv 2) pe_int (nomark _))
        (pss_one (ps_ret (pe_call G_pick hr rfl D_pick.g D_pick.F.kp D_pick.b .nil pass0 (pa_cons (pv 0) (pa_cons (pv 3) pa_nil)))))
        pss_nil)
      (pss_cons (ps_if (pt_val (pe_callB call_isi (by rfl) T.isinstance boot_isinstance (pa_cons (pv 1) (pa_cons (pe_bltn (v := .ty "int") rfl T.int (by decide +kernel) rfl) pa_nil))))
        (pss_one (ps_ret (pe_call G_pick hr rfl D_pick.g D_pick.F.kp D_pick.b .nil pass0 (pa_cons (pv 0) (pa_cons (pe_lst (pa_cons (pe_op op_addNm (pv 1) pe_int) (pa_cons (pe_op op_subNm (pv 1) pe_int) (pa_cons (pe_op op_subRNm pe_int (pv 1)) (pa_cons (pe_cmpR op_eqNm (pv 1) pe_int (nomark _)) (pa_cons (pe_callTy call_strNm (by rfl) T.str (by decide +kernel) (pa_cons (pv 1) pa_nil)) (pa_cons (pe_tup (pa_cons (pv 1) pa_nil)) (pa_cons (pe_op op_mulRNm pe_int (pv 1)) pa_nil)))))))) pa_nil)))))
        pss_nil)
      (pss_cons (ps_if (pt_val (pe_callB call_isi (by rfl) T.isinstance boot_isinstance (pa_cons (pv 1) (pa_cons (pe_bltn (v := .ty "str") rfl T.str (by decide +kernel) rfl) pa_nil))))
        (pss_cons (ps_set (i := 4) sc_other.nd rfl (Or.inl rfl) (pe_lst (pa_cons (pe_op op_add_str (pv 1) pe_str) (pa_cons (pe_slice sl_str (pv 1) po_none (po_some (pe_un un_neg pe_int))) (pa_cons (pe_op op_add_str (pv 1) pe_str) (pa_cons (pe_op op_add_str (pv 1) pe_str) (pa_cons (pe_lst (pa_cons (pv 1) pa_nil)) (pa_cons (pe_tup (pa_cons (pv 1) pa_nil)) (pa_cons pe_str (pa_cons pe_str (pa_cons pe_str pa_nil)))))))))))
        (pss_one (ps_ret (pe_call G_pick hr rfl D_pick.g D_pick.F.kp D_pick.b .nil pass0 (pa_cons (pv 0) (pa_cons (pv 4) pa_nil))))))
        pss_nil)
      (pss_cons (ps_if (PW.pt (pw_or (pt_not (pt_val (pe_callB call_isi (by rfl) T.isinstance boot_isinstance (pa_cons (pv 1) (pa_cons (pe_bltn (v := .ty "tuple") rfl T.tuple (by decide +kernel) rfl) pa_nil))))) (pw_or1 (pt_cmpR (op_empty hu0) (pv 1) (pe_tup pa_nil) (nomark _)))))
        (pss_one (ps_ret (pe_tup (pa_cons (pe_tup pa_nil) pa_nil))))
        pss_nil)
      (pss_cons (ps_set (i := 5) sc_other.nd rfl (Or.inl rfl) (pe_call G_draw hr1 rfl D_draw.g D_draw.F.kp D_draw.b .nil pass0 (pa_cons (pv 0) (pa_cons (pe_callB cr_lenS (by rfl) T.len PySem.boot_len (pa_cons (pv 1) pa_nil)) pa_nil))))
      (pss_cons (ps_set (i := 6) sc_other.nd rfl (Or.inl rfl) (pe_op op_catA (pe_op op_catA (pe_slice sl_tupA (pv 1) po_none (po_some (pv 5))) (pe_revT (pe_slice sl_tupA (pv 1) (po_some (pv 5)) (po_some (pe_op op_addN (pv 5) pe_int))))) (pe_slice sl_tupA (pv 1) (po_some (pe_op op_addN (pv 5) pe_int)) po_none)))
      (pss_cons (ps_set (i := 7) sc_other.nd rfl (Or.inl rfl) (pe_lst (pa_cons (pe_op op_catA (pe_slice sl_tupA (pv 1) po_none (po_some (pe_op op_addN (pv 5) pe_int))) (pe_slice sl_tupA (pv 1) (po_some (pv 5)) po_none)) (pa_cons (pe_op op_catA (pv 1) (pe_tup (pa_cons pe_int pa_nil))) (pa_cons (pe_op op_catA (pv 1) (pe_tup (pa_cons (pe_tup pa_nil) pa_nil))) (pa_cons (pe_tup (pa_cons (pv 1) pa_nil)) pa_nil))))))
      (pss_one (ps_ret (pe_call G_pick hr rfl D_pick.g D_pick.F.kp D_pick.b .nil pass0 (pa_cons (pv 0) (pa_cons (pe_op op_cat (pv 7) (pe_lst (pa_cons (pe_op op_catA (pe_slice sl_tupA (pv 1) po_none (po_some (pv 5))) (pe_slice sl_tupA (pv 1) (po_some (pe_op op_addN (pv 5) pe_int)) po_none)) (pa_cons (pe_callTy call_list_of (by rfl) Tl (by decide +kernel) (pa_cons (pv 1) pa_nil)) (pa_cons (pe_revT (pv 1)) (pa_cons (pv 6) (pa_cons (pv 6) pa_nil))))))) pa_nil)))))))))))))), ?_⟩
    obtain ⟨ds0, mx, c0, D0, hc0⟩ := D
    refine ⟨_, rfl, p, q, ds0, mx, c0, 3, rfl, by decide, by decide, D0, by omega, fun wy ds1 H1 w0 w1 O1 D1 => ?_⟩
    have D1' : Dk H1 p q (b + 1) := ⟨_, mx, _, D1, by omega⟩
    have hd1 := hd.same (hide_off O1)
    -- the menu
    refine ⟨_, rfl, _, _, rfl, rfl, ⟨by decide, by decide, by decide⟩, (by show 0 ≤ sizeLine; decide), fun a1 n1 => ?_⟩
    have s1 := hide_same (p := p) (q := q) (same_new (o := HO.tup []) n1)
    have u1 := same_new (o := HO.tup []) n1
    have t1 := hide_new (o := HO.tup []) D1' n1
    have E1 := D1'.same u1
    generalize upd H1 a1 (.tup []) = J1 at s1 u1 t1 E1 ⊢
    refine ⟨(by show 0 ≤ sizeLine; decide), fun a2 n2 => ?_⟩
    have s2 := hide_same (p := p) (q := q) (same_new (o := HO.lst []) n2)
    have u2 := u1.trans (same_new (o := HO.lst []) n2)
    have t2 := hide_new (o := HO.lst []) E1 n2
    have E2 := E1.same (same_new (o := HO.lst []) n2)
    generalize upd J1 a2 (.lst []) = J2 at s2 u2 t2 E2 ⊢
    refine fun a3 n3 => ?_
    have s3 := hide_same (p := p) (q := q) (same_new (o := HO.dK []) n3)
    have u3 := u2.trans (same_new (o := HO.dK []) n3)
    have t3 := hide_new (o := HO.dK []) E2 n3
    have E3 := E2.same (same_new (o := HO.dK []) n3)
    generalize upd J2 a3 (.dK []) = J3 at s3 u3 t3 E3 ⊢
    refine ⟨(by show 2 ≤ sizeLine; decide), fun a4 n4 => ?_⟩
    have s4 := hide_same (p := p) (q := q) (same_new (o := HO.tup [.str "cycle", .int 3]) n4)
    have u4 := u3.trans (same_new (o := HO.tup [.str "cycle", .int 3]) n4)
    have t4 := hide_new (o := HO.tup [.str "cycle", .int 3]) E3 n4
    have E4 := E3.same (same_new (o := HO.tup [.str "cycle", .int 3]) n4)
    generalize upd J3 a4 (.tup [.str "cycle", .int 3]) = J4 at s4 u4 t4 E4 ⊢
    refine ⟨(by show 1 ≤ sizeLine; decide), fun a5 n5 => ?_⟩
    have s5 := hide_same (p := p) (q := q) (same_new (o := HO.tup [.int 0]) n5)
    have u5 := u4.trans (same_new (o := HO.tup [.int 0]) n5)
    have t5 := hide_new (o := HO.tup [.int 0]) E4 n5
    have E5 := E4.same (same_new (o := HO.tup [.int 0]) n5)
    generalize upd J4 a5 (.tup [.int 0]) = J5 at s5 u5 t5 E5 ⊢
    refine ⟨(by show 18 ≤ sizeLine; decide), fun l nl => ?_⟩
    have dm : DatAll (hide p q J5) [V.non, .bl true, .bl false, .int 0, .int 1, .int (-1), .int 400, .int 401, .int (10 ^ 39), .str "", .str "a", .str "subset", .str "item", .ref a1, .ref a2, .ref a3, .ref a4, .ref a5] menu := by
      have r1 := (((s2.trans s3).trans s4).trans s5) _ _ t1
      have r2 := ((s3.trans s4).trans s5) _ _ t2
      have r3 := (s4.trans s5) _ _ t3
      have r4 := s5 _ _ t4
      exact .cons .non (.cons (.bl _) (.cons (.bl _) (.cons (.int _) (.cons (.int _) (.cons (.int _) (.cons (.int _) (.cons (.int _) (.cons (.int _) (.cons (.str _ (by decide)) (.cons (.str _ (by decide)) (.cons (.str _ (by decide)) (.cons (.str _ (by decide)) (.cons (.tup r1 .nil) (.cons (.lst r2 .nil) (.cons (.d0 r3)
        (.cons (.tup r4 (.cons (.str _ (by decide)) (.cons (.int _) .nil))) (.cons (.tup t5 (.cons (.int _) .nil)) .nil)))))))))))))))))
    obtain ⟨lp, lq⟩ := E5.new nl
    have ul := same_new (o := HO.lst [V.non, .bl true, .bl false, .int 0, .int 1, .int (-1), .int 400, .int 401, .int (10 ^ 39), .str "", .str "a", .str "subset", .str "item", .ref a1, .ref a2, .ref a3, .ref a4, .ref a5]) nl
    have tl : upd J5 l (.lst [V.non, .bl true, .bl false, .int 0, .int 1, .int (-1), .int 400, .int 401, .int (10 ^ 39), .str "", .str "a", .str "subset", .str "item", .ref a1, .ref a2, .ref a3, .ref a4, .ref a5]) l = some (.lst [V.non, .bl true, .bl false, .int 0, .int 1, .int (-1), .int 400, .int 401, .int (10 ^ 39), .str "", .str "a", .str "subset", .str "item", .ref a1, .ref a2, .ref a3, .ref a4, .ref a5]) := upd_same
    have hG : ∀ G : Hp → Prop, (∀ Z, Z = upd J5 l (.lst [V.non, .bl true, .bl false, .int 0, .int 1, .int (-1), .int 400, .int 401, .int (10 ^ 39), .str "", .str "a", .str "subset", .str "item", .ref a1, .ref a2, .ref a3, .ref a4, .ref a5]) → G Z) → G (upd J5 l (.lst [V.non, .bl true, .bl false, .int 0, .int 1, .int (-1), .int 400, .int 401, .int (10 ^ 39), .str "", .str "a", .str "subset", .str "item", .ref a1, .ref a2, .ref a3, .ref a4, .ref a5])) := fun G h => h _ rfl
    refine hG _ fun H2 e2 => ?_
    rw [← e2] at ul tl
    clear e2 hG
    have D2 := E5.same ul
    have dm2 := dm.same (hide_same ul)
    have u2f := u5.trans ul
    have O2 : Off p q H H2 := O1.trans (.of_same u2f)
    have hd2 := hd1.same (hide_same u2f)
    clear s1 s2 s3 s4 s5 t1 t2 t3 t4 t5
    have mp : 1 ≤ m := Nat.le_trans (mass_pos d) hF.m
    have lit : ∀ e : PyData, fineB 0 e = true → mass e ≤ 49 → e.depth ≤ 2 → Fine (sg + 1) (2 * m + 50) (n + 2) e := fun e h1 h2 h3 => ⟨fine_le h1 _, by omega, by omega⟩
    refine ⟨_, rfl, rfl, _, rfl, ?_⟩
    by_cases z0 : wy = 0
    · refine if_t (decide_eq_true (by rw [z0])) ⟨_, rfl, _, rfl, ?_⟩
      refine pick_fine (E := E0) D2 tl lp lq dm2 (fun e he => lit e (menu_fine e he).1 (by have := (menu_fine e he).2.1; omega) (by have := (menu_fine e he).2.2; omega)) (by simp) (by simp) (by omega) fun v' d' H' O' D' dd ff => k v' d' H' (O2.trans O') (D'.mono (by omega)) dd ff
    refine if_f (decide_eq_false fun z => z0 (V.int.inj z)) ?_
    have hv2 := hd2.same (hide_sub p q H2)
    -- a number
    refine ⟨_, rfl, v, .ty "int", _, _, _, rfl, .ty _, hv2.ty, kit_int _ d, _, rfl, ?_⟩
    by_cases zi : (isInt d || isBool d) = true
    · refine if_t zi ⟨_, rfl, ?_⟩
      obtain ⟨i, hi, hl⟩ := num_of hd2 hF.f zi
      obtain ⟨nf, nl10⟩ := num_fine hi hl (by omega)
      refine ⟨_, rfl, i, 1, hi, rfl, _, rfl, i, 1, hi, rfl, _, rfl, 0, i, rfl, hi, trivial, _, rfl, i, 1, hi, rfl, _, rfl, v, i, rfl, hi, log_small hl (by omega), _, rfl, (by show 1 ≤ sizeLine; decide), fun a6 n6 => ?_⟩
      have u6 := same_new (o := HO.tup [v]) n6
      have t6 := hide_new (o := HO.tup [v]) D2 n6
      have D6 := D2.same u6
      have hd6 := hd2.same (hide_same (p := p) (q := q) u6)
      generalize upd H2 a6 (.tup [v]) = H6 at u6 t6 D6 hd6 ⊢
      refine ⟨_, rfl, 2, i, rfl, hi, ?_, (by show 7 ≤ sizeLine; decide), fun l7 n7 => ?_⟩
      · have z := log_small hl (by omega)
        have y : (2 : Int).natAbs.log2 < 2 := by decide
        show (2 : Int).natAbs.log2 + i.natAbs.log2 < 1000000
        omega
      obtain ⟨l7p, l7q⟩ := D6.new n7
      have u7 := same_new (o := HO.lst [.int (i + 1), .int (i - 1), .int (0 - i), .bl (i == 1), .str (numT v), .ref a6, .int (2 * i)]) n7
      have dl : DatAll (hide p q H6) [.int (i + 1), .int (i - 1), .int (0 - i), .bl (i == 1), .str (numT v), .ref a6, .int (2 * i)] [.int (i + 1), .int (i - 1), .int (0 - i), .bool (i == 1), .str (numT v), .tuple [d], .int (2 * i)] :=
        .cons (.int _) (.cons (.int _) (.cons (.int _) (.cons (.bl _) (.cons (.str _ nl10) (.cons (.tup t6 (.cons hd6 .nil)) (.cons (.int _) .nil))))))
      have fi : ∀ j : Int, j.natAbs ≤ 2 * i.natAbs + 2 → Fine (sg + 1) (2 * m + 50) (n + 2) (.int j) := fun j hj => ⟨int_up hl hj, by simp only [mass]; omega, by simp [PyData.depth]⟩
      have fl : ∀ e ∈ [PyData.int (i + 1), .int (i - 1), .int (0 - i), .bool (i == 1), .str (numT v), .tuple [d], .int (2 * i)], Fine (sg + 1) (2 * m + 50) (n + 2) e := by
        intro e he
        simp only [List.mem_cons, List.not_mem_nil, or_false] at he
        rcases he with rfl | rfl | rfl | rfl | rfl | rfl | rfl
        · exact fi _ (by omega)
        · exact fi _ (by omega)
        · exact fi _ (by omega)
        · exact ⟨by rw [fineB], by simp only [mass]; omega, by simp [PyData.depth]⟩
        · exact nf.mono (by omega) (by omega)
        · exact ((FineL.one hF).tup.up).mono (by omega) (by omega)
        · exact fi _ (by omega)
      refine pick_fine (E := E0) (D6.same u7) upd_same l7p l7q (dl.same (hide_same u7)) fl (by simp) (by simp) (by omega) fun v' d' H' O' D' dd ff => k v' d' H' (((O2.trans (.of_same u6)).trans (.of_same u7)).trans O') (D'.mono (by omega)) dd ff
    refine if_f (Bool.not_eq_true _ ▸ zi) ?_
    -- a text
    refine ⟨_, rfl, v, .ty "str", _, _, _, rfl, .ty _, hv2.ty, kit_str _ d, _, rfl, ?_⟩
    by_cases zs : isStr d = true
    · refine if_t zs ?_
      obtain ⟨x, rfl⟩ : ∃ x, d = .str x := by
        cases d with
        | str x => exact ⟨x, rfl⟩
        | _ => cases zs
      cases hd2 with
      | str _ hx =>
        obtain ⟨fa, la, za⟩ := str_snoc (c := 97) hF.f (by decide) hs3
        obtain ⟨fA, lA, zA⟩ := str_snoc (c := 65) hF.f (by decide) hs3
        obtain ⟨fS, lS, zS⟩ := str_snoc (c := 32) hF.f (by decide) hs3
        obtain ⟨fc, lc⟩ := str_cut (hi := some (-1)) hF.f hs3
        have hm2 := hF.m
        have ea : (⟨#[97]⟩ : Str) = "a" := by decide +kernel
        have eA : (⟨#[65]⟩ : Str) = "A" := by decide +kernel
        have eS : (⟨#[32]⟩ : Str) = " " := by decide +kernel
        rw [ea] at fa la za
        rw [eA] at fA lA zA
        rw [eS] at fS lS zS
        have xs : x.length ≤ sizeLine := by
          rw [sizeLine_eq]
          omega
        refine ⟨_, rfl, x, "a", rfl, rfl, za, _, rfl, 1, rfl, -1, rfl, x, rfl, xs, _, rfl, x, "A", rfl, rfl, zA, _, rfl, x, " ", rfl, rfl, zS, _, rfl, (by show 1 ≤ sizeLine; decide), fun a6 n6 => ?_⟩
        have u6 := same_new (o := HO.lst [.str x]) n6
        have t6 := hide_new (o := HO.lst [.str x]) D2 n6
        have D6 := D2.same u6
        generalize upd H2 a6 (.lst [.str x]) = H6 at u6 t6 D6 ⊢
        refine ⟨_, rfl, (by show 1 ≤ sizeLine; decide), fun a7 n7 => ?_⟩
        have u7 := same_new (o := HO.tup [.str x]) n7
        have t7 := hide_new (o := HO.tup [.str x]) D6 n7
        have D7 := D6.same u7
        have t67 := hide_same (p := p) (q := q) u7 _ _ t6
        generalize upd H6 a7 (.tup [.str x]) = H7 at u7 t7 D7 t67 ⊢
        refine ⟨(by show 9 ≤ sizeLine; decide), fun l8 n8 => ?_⟩
        obtain ⟨l8p, l8q⟩ := D7.new n8
        have u8 := same_new (o := HO.lst [.str (x ++ "a"), .str (cutS x none (some (-1))), .str (x ++ "A"), .str (x ++ " "), .ref a6, .ref a7, .str "series", .str "word", .str "tree"]) n8
        have dl : DatAll (hide p q H7) [.str (x ++ "a"), .str (cutS x none (some (-1))), .str (x ++ "A"), .str (x ++ " "), .ref a6, .ref a7, .str "series", .str "word", .str "tree"] [.str (x ++ "a"), .str (cutS x none (some (-1))), .str (x ++ "A"), .str (x ++ " "), .list [.str x], .tuple [.str x], .str "series", .str "word", .str "tree"] :=
          .cons (.str _ la) (.cons (.str _ lc) (.cons (.str _ lA) (.cons (.str _ lS) (.cons (.lst t67 (.cons (.str _ hx) .nil)) (.cons (.tup t7 (.cons (.str _ hx) .nil)) (.cons (.str _ (by decide)) (.cons (.str _ (by decide)) (.cons (.str _ (by decide)) .nil))))))))
        have wf : ∀ z ∈ [("series" : Str), "word", "tree"], fineB 0 (.str z) = true ∧ mass (.str z) ≤ 12 ∧ (PyData.str z).depth ≤ 0 := by decide +kernel
        have wl : ∀ z ∈ [("series" : Str), "word", "tree"], Fine (sg + 1) (2 * m + 50) (n + 2) (.str z) := fun z hz => lit _ (wf z hz).1 (by have := (wf z hz).2.1; omega) (by have := (wf z hz).2.2; omega)
        have fl : ∀ e ∈ [PyData.str (x ++ "a"), .str (cutS x none (some (-1))), .str (x ++ "A"), .str (x ++ " "), .list [.str x], .tuple [.str x], .str "series", .str "word", .str "tree"], Fine (sg + 1) (2 * m + 50) (n + 2) e := by
          intro e he
          simp only [List.mem_cons, List.not_mem_nil, or_false] at he
          rcases he with rfl | rfl | rfl | rfl | rfl | rfl | rfl | rfl | rfl
          · exact fa.mono (by omega) (by omega)
          · exact fc.mono (by omega) (by omega)
          · exact fA.mono (by omega) (by omega)
          · exact fS.mono (by omega) (by omega)
          · exact ((FineL.one hF).lst.up).mono (by omega) (by omega)
          · exact ((FineL.one hF).tup.up).mono (by omega) (by omega)
          · exact wl _ (by simp)
          · exact wl _ (by simp)
          · exact wl _ (by simp)
        refine ⟨_, rfl, _, rfl, ?_⟩
        refine pick_fine (E := E0) (D7.same u8) upd_same l8p l8q (dl.same (hide_same u8)) fl (by simp) (by simp) (by omega) fun v' d' H' O' D' dd ff => k v' d' H' ((((O2.trans (.of_same u6)).trans (.of_same u7)).trans (.of_same u8)).trans O') (D'.mono (by omega)) dd ff
    refine if_f (Bool.not_eq_true _ ▸ zs) ?_
    refine ⟨_, rfl, v, .ty "tuple", _, _, _, rfl, .ty _, hv2.ty, kit_tuple _ d, _, rfl, ?_⟩
    by_cases zt : isTup d = true
    case neg =>
      refine if_t (by rw [Bool.not_eq_true] at zt; rw [zt]; rfl) ?_
      refine ⟨(by show 0 ≤ sizeLine; decide), fun a6 n6 => ⟨(by show 1 ≤ sizeLine; decide), fun a7 n7 => ?_⟩⟩
      have u6 := same_new (o := HO.tup []) n6
      have u7 := same_new (o := HO.tup [.ref a6]) n7
      have D6 := D2.same u6
      exact k _ (.tuple [.tuple []]) _ ((O2.trans (.of_same u6)).trans (.of_same u7)) ((D6.same u7).mono (by omega)) (.tup (hide_new D6 n7) (.cons (.tup (hide_same u7 _ _ (hide_new D2 n6)) .nil) .nil)) (lit _ (by decide +kernel) (by decide +kernel) (by decide +kernel))
    obtain ⟨ds, rfl⟩ : ∃ ds, d = .tuple ds := by
      cases d with
      | tuple ds => exact ⟨ds, rfl⟩
      | _ => cases zt
    cases hd2 with
    | @tup a xs _ hha hhx =>
      have ha := hide_sub p q H2 _ _ hha
      refine if_f rfl ⟨_, rfl, (by show 0 ≤ sizeLine; decide), fun a6 n6 => ⟨a, a6, xs, rfl, rfl, .inr ⟨same_new n6 _ _ ha, upd_same⟩, _, rfl, ?_⟩⟩
      have u6 := same_new (o := HO.tup []) n6
      have t6 := hide_new (o := HO.tup []) D2 n6
      have D6 := D2.same u6
      have O6 := O2.trans (.of_same u6)
      have ha6 := u6 _ _ ha
      have hx6 := hhx.same (hide_same (p := p) (q := q) u6)
      have hha6 := hide_same (p := p) (q := q) u6 _ _ hha
      generalize upd H2 a6 (.tup []) = H6 at u6 t6 D6 O6 ha6 hx6 hha6 ⊢
      have hxl := hhx.len
      by_cases he : xs.isEmpty = true
      · refine if_t he ?_
        refine ⟨(by show 0 ≤ sizeLine; decide), fun a7 n7 => ⟨(by show 1 ≤ sizeLine; decide), fun a8 n8 => ?_⟩⟩
        have u7 := same_new (o := HO.tup []) n7
        have u8 := same_new (o := HO.tup [.ref a7]) n8
        have D7 := D6.same u7
        exact k _ (.tuple [.tuple []]) _ ((O6.trans (.of_same u7)).trans (.of_same u8)) ((D7.same u8).mono (by omega)) (.tup (hide_new D7 n8) (.cons (.tup (hide_same u8 _ _ (hide_new D6 n7)) .nil) .nil)) (lit _ (by decide +kernel) (by decide +kernel) (by decide +kernel))
      refine if_f (Bool.not_eq_true _ ▸ he) ?_
      have hpos : 0 < xs.length := by
        cases xs with
        | nil => exact absurd rfl he
        | cons y ys => simp
      obtain ⟨m1, n1, FL⟩ := hF.inv
      have hlm : xs.length ≤ 100000 := by
        have y1 := len_nodes ds
        have y2 := massAll_nodes ds
        have y3 := FL.m
        omega
      obtain ⟨dsx, mxx, cx, Dx, hcx⟩ := D6
      refine ⟨_, rfl, _, rfl, a, xs, rfl, .inr (SqT.of ha6), p, q, dsx, mxx, cx, _, rfl, by omega, by omega, Dx, by omega, fun ai ds7 H7 i0 i1 O7 D7x => ?_⟩
      obtain ⟨ai, rfl⟩ := nat_of i0
      have D7 : Dk H7 p q (b + 2) := ⟨_, mxx, _, D7x, by omega⟩
      have hha7 := hide_off O7 _ _ hha6
      have hx7 := hx6.same (hide_off O7)
      have ha7 := hide_sub p q H7 _ _ hha7
      have O67 := O6.trans O7
      have S0 : ∀ A B : Nat, A ≤ 4 * xs.length → B ≤ 4 * xs.length + 4 → A + B ≤ sizeLine := fun A B h1 h2 => by
        rw [sizeLine_eq]
        omega
      have cl : ∀ lo hi : Option Int, (cutV xs lo hi).length ≤ xs.length := cutV_length xs
      -- swapped
      refine ⟨_, rfl, _, rfl, (ai : Int), rfl, slAny_of ha7 fun b1 J1 e1 g1 => ?_⟩
      have F1 := e1 _ _ ha7
      refine ⟨_, rfl, _, rfl, (ai : Int), rfl, _, rfl, ai, 2, rfl, rfl, ((ai + 2 : Nat) : Int), rfl, slAny_of F1 fun b2 J2 e2 g2 => ⟨b2, _, rfl, SqT.of g2, fun b3 nb3 => ?_⟩⟩
      have e3 := same_new (o := HO.tup (cutV xs (some (ai : Int)) (some ((ai + 2 : Nat) : Int))).reverse) nb3
      have g3 : upd J2 b3 (.tup (cutV xs (some (ai : Int)) (some ((ai + 2 : Nat) : Int))).reverse) b3 = some (.tup (cutV xs (some (ai : Int)) (some ((ai + 2 : Nat) : Int))).reverse) := upd_same
      generalize upd J2 b3 (.tup (cutV xs (some (ai : Int)) (some ((ai + 2 : Nat) : Int))).reverse) = J3 at e3 g3 ⊢
      refine catA_of (e3 _ _ (e2 _ _ g1)) g3 (S0 _ _ (by have := cl none (some (ai : Int)); omega) (by rw [List.length_reverse]; have := cl (some (ai : Int)) (some ((ai + 2 : Nat) : Int)); omega)) fun c1 J4 e4 g4 => ?_
      have f4 := ((e1.trans e2).trans e3).trans e4
      refine ⟨_, rfl, _, rfl, ai, 2, rfl, rfl, ((ai + 2 : Nat) : Int), rfl, ?_⟩
      dsimp only [tNoPart]
      refine slAny_of (f4 _ _ ha7) fun b4 J5 e5 g5 => ?_
      refine catA_of (e5 _ _ g4) g5 (S0 _ _ ?_ ?_) fun c2 J6 e6 g6 => ?_
      · rw [List.length_append, List.length_reverse]
        have := cl none (some (ai : Int))
        have := cl (some (ai : Int)) (some ((ai + 2 : Nat) : Int))
        omega
      · have := cl (some ((ai + 2 : Nat) : Int)) none
        omega
      have f6 := (f4.trans e5).trans e6
      have D6' := D7.same f6
      have O6' := O67.trans (.of_same f6)
      have ha6' := f6 _ _ ha7
      have hha6' := hide_same (p := p) (q := q) f6 _ _ hha7
      have hx6' := hx7.same (hide_same (p := p) (q := q) f6)
      have sw : hide p q J6 c2 = some (.tup ((cutV xs none (some (ai : Int)) ++ (cutV xs (some (ai : Int)) (some ((ai + 2 : Nat) : Int))).reverse) ++ cutV xs (some ((ai + 2 : Nat) : Int)) none)) := hide_at g6 (dk_ne D6' g6).1 (dk_ne D6' g6).2
      -- longer
      refine ⟨_, rfl, _, rfl, ai, 1, rfl, rfl, ((ai + 1 : Nat) : Int), rfl, slAny_of ha6' fun b5 J7 e7 g7 => ?_⟩
      refine ⟨_, rfl, _, rfl, (ai : Int), rfl, ?_⟩
      dsimp only [tNoPart]
      refine slAny_of (e7 _ _ ha6') fun b6 J8 e8 g8 => catA_of (e8 _ _ g7) g8 (S0 _ _ (by have := cl none (some ((ai + 1 : Nat) : Int)); omega) (by have := cl (some (ai : Int)) none; omega)) fun c3 J9 e9 g9 => ?_
      have f9 := (e7.trans e8).trans e9
      have ha9 := f9 _ _ ha6'
      refine ⟨_, rfl, (by show 1 ≤ sizeLine; decide), fun b7 nb7 => ?_⟩
      have e10 := same_new (o := HO.tup [.int 0]) nb7
      have g10 : upd J9 b7 (.tup [.int 0]) b7 = some (.tup [.int 0]) := upd_same
      generalize upd J9 b7 (.tup [.int 0]) = J10 at e10 g10 ⊢
      refine catA_of (e10 _ _ ha9) g10 (S0 _ _ (by omega) (by simp)) fun c4 J11 e11 g11 => ?_
      have f11 := (f9.trans e10).trans e11
      refine ⟨_, rfl, (by show 0 ≤ sizeLine; decide), fun b8 nb8 => ?_⟩
      have D11 := D6'.same f11
      have e12 := same_new (o := HO.tup []) nb8
      have g12 := hide_new (o := HO.tup []) D11 nb8
      have D12 := D11.same e12
      generalize upd J11 b8 (.tup []) = J12 at e12 g12 D12 ⊢
      refine ⟨(by show 1 ≤ sizeLine; decide), fun b9 nb9 => ?_⟩
      have e13 := same_new (o := HO.tup [.ref b8]) nb9
      have g13 : upd J12 b9 (.tup [.ref b8]) b9 = some (.tup [.ref b8]) := upd_same
      have g12' := hide_same (p := p) (q := q) e13 _ _ g12
      generalize upd J12 b9 (.tup [.ref b8]) = J13 at e13 g13 g12' ⊢
      have f13 := (f11.trans e12).trans e13
      refine catA_of (f13 _ _ ha6') g13 (S0 _ _ (by omega) (by simp)) fun c5 J14 e14 g14 => ?_
      have f14 := f13.trans e14
      refine ⟨_, rfl, (by show 1 ≤ sizeLine; decide), fun c6 nc6 => ?_⟩
      have e15 := same_new (o := HO.tup [.ref a]) nc6
      have g15 : upd J14 c6 (.tup [.ref a]) c6 = some (.tup [.ref a]) := upd_same
      generalize upd J14 c6 (.tup [.ref a]) = J15 at e15 g15 ⊢
      have f15 := f14.trans e15
      refine ⟨(by show 4 ≤ sizeLine; decide), fun l1 nl1 => ?_⟩
      have e16 := same_new (o := HO.lst [.ref c3, .ref c4, .ref c5, .ref c6]) nl1
      have g16 : upd J15 l1 (.lst [.ref c3, .ref c4, .ref c5, .ref c6]) l1 = some (.lst [.ref c3, .ref c4, .ref c5, .ref c6]) := upd_same
      generalize upd J15 l1 (.lst [.ref c3, .ref c4, .ref c5, .ref c6]) = J16 at e16 g16 ⊢
      have f16 := f15.trans e16
      have ha16 := f16 _ _ ha6'
      -- the rest
      refine ⟨_, rfl, _, rfl, _, rfl, _, rfl, (ai : Int), rfl, slAny_of ha16 fun b10 J17 e17 g17 => ?_⟩
      refine ⟨_, rfl, _, rfl, ai, 1, rfl, rfl, ((ai + 1 : Nat) : Int), rfl, ?_⟩
      dsimp only [tNoPart]
      refine slAny_of (e17 _ _ ha16) fun b11 J18 e18 g18 => catA_of (e18 _ _ g17) g18 (S0 _ _ (by have := cl none (some (ai : Int)); omega) (by have := cl (some ((ai + 1 : Nat) : Int)) none; omega)) fun c7 J19 e19 g19 => ?_
      have f19 := (e17.trans e18).trans e19
      have ha19 := f19 _ _ ha16
      refine ⟨_, rfl, a, xs, rfl, .inr (SqT.of ha19), fun c8 nc8 => ?_⟩
      have e20 := same_new (o := HO.lst xs) nc8
      have g20 : upd J19 c8 (.lst xs) c8 = some (.lst xs) := upd_same
      generalize upd J19 c8 (.lst xs) = J20 at e20 g20 ⊢
      refine ⟨_, rfl, a, xs, rfl, SqT.of (e20 _ _ ha19), fun c9 nc9 => ?_⟩
      have e21 := same_new (o := HO.tup xs.reverse) nc9
      have g21 : upd J20 c9 (.tup xs.reverse) c9 = some (.tup xs.reverse) := upd_same
      generalize upd J20 c9 (.tup xs.reverse) = J21 at e21 g21 ⊢
      refine ⟨_, rfl, _, rfl, (by show 5 ≤ sizeLine; decide), fun l2 nl2 => ?_⟩
      have e22 := same_new (o := HO.lst [.ref c7, .ref c8, .ref c9, .ref c2, .ref c2]) nl2
      have g22 : upd J21 l2 (.lst [.ref c7, .ref c8, .ref c9, .ref c2, .ref c2]) l2 = some (.lst [.ref c7, .ref c8, .ref c9, .ref c2, .ref c2]) := upd_same
      generalize upd J21 l2 (.lst [.ref c7, .ref c8, .ref c9, .ref c2, .ref c2]) = J22 at e22 g22 ⊢
      have f22 := ((f19.trans e20).trans e21).trans e22
      refine ⟨l1, l2, _, _, rfl, rfl, f22 _ _ g16, g22, (by show 9 ≤ sizeLine; decide), fun l3 nl3 => ?_⟩
      have D19 := (D6'.same f16).same f19
      have D22 := (D6'.same f16).same f22
      obtain ⟨l3p, l3q⟩ := D22.new nl3
      have u3 := same_new (o := HO.lst ([.ref c3, .ref c4, .ref c5, .ref c6] ++ [.ref c7, .ref c8, .ref c9, .ref c2, .ref c2])) nl3
      have hx22 := hx6'.same (hide_same (p := p) (q := q) (f16.trans f22))
      have ht : ∀ {c : Addr} {ys : List V}, J22 c = some (.tup ys) → hide p q J22 c = some (.tup ys) := fun h => hide_at h (dk_ne D22 h).1 (dk_ne D22 h).2
      have to22 := (e20.trans e21).trans e22
      have q3 := ht (f22 _ _ (((((((e10.trans e11).trans e12).trans e13).trans e14).trans e15).trans e16) _ _ g9))
      have q4 := ht (f22 _ _ (((((e12.trans e13).trans e14).trans e15).trans e16) _ _ g11))
      have q5 := ht (f22 _ _ ((e15.trans e16) _ _ g14))
      have q6 := ht (f22 _ _ (e16 _ _ g15))
      have q7 := ht (to22 _ _ g19)
      have q8 : hide p q J22 c8 = some (.lst xs) := hide_at ((e21.trans e22) _ _ g20) (D19.new nc8).1 (D19.new nc8).2
      have q9 := ht (e22 _ _ g21)
      have q2 := hide_same (p := p) (q := q) (f16.trans f22) _ _ sw
      have q0 := hide_same (p := p) (q := q) (((e14.trans e15).trans e16).trans f22) _ _ g12'
      have qa := hide_same (p := p) (q := q) (f16.trans f22) _ _ hha6'
      rw [cut_take, cut_drop] at q3 q7
      rw [cut_take, cut_from, cut_drop] at q2
      have dl : DatAll (hide p q J22) ([.ref c3, .ref c4, .ref c5, .ref c6] ++ [.ref c7, .ref c8, .ref c9, .ref c2, .ref c2]) [.tuple (ds.take (ai + 1) ++ ds.drop ai), .tuple (ds ++ [.int 0]), .tuple (ds ++ [.tuple []]), .tuple [.tuple ds], .tuple (ds.take ai ++ ds.drop (ai + 1)), .list ds, .tuple ds.reverse,
          .tuple ((ds.take ai ++ ((ds.take (ai + 2)).drop ai).reverse) ++ ds.drop (ai + 2)), .tuple ((ds.take ai ++ ((ds.take (ai + 2)).drop ai).reverse) ++ ds.drop (ai + 2))] := by
        have d2 := Dat.tup q2 (datAll_append (datAll_append (dat_take ai hx22) (dat_rev (dat_drop ai (dat_take (ai + 2) hx22)))) (dat_drop (ai + 2) hx22))
        exact .cons (.tup q3 (datAll_append (dat_take (ai + 1) hx22) (dat_drop ai hx22))) (.cons (.tup q4 (datAll_append hx22 (.cons (.int _) .nil))) (.cons (.tup q5 (datAll_append hx22 (.cons (.tup q0 .nil) .nil))) (.cons (.tup q6 (.cons (.tup qa hx22) .nil))
          (.cons (.tup q7 (datAll_append (dat_take ai hx22) (dat_drop (ai + 1) hx22))) (.cons (.lst q8 hx22) (.cons (.tup q9 (dat_rev hx22)) (.cons d2 (.cons d2 .nil))))))))
      have F0 : FineL sg 1 1 [.int 0] := ⟨fun e he => by rw [List.mem_singleton.mp he]; exact fine_le (by decide +kernel) _, by decide +kernel, by decide +kernel⟩
      have F1' : FineL sg 1 1 [.tuple []] := ⟨fun e he => by rw [List.mem_singleton.mp he]; exact fine_le (by decide +kernel) _, by decide +kernel, by decide +kernel⟩
      have F2 : FineL sg (m - 1) (n - 1) ((ds.take ai ++ ((ds.take (ai + 2)).drop ai).reverse) ++ ds.drop (ai + 2)) := by
        obtain ⟨x1, x2, x3⟩ := mass_take (ds.take (ai + 2)) ai
        obtain ⟨y1, y2, y3⟩ := mass_take ds (ai + 2)
        obtain ⟨r1, r2⟩ := mass_rev ((ds.take (ai + 2)).drop ai)
        have tt : (ds.take (ai + 2)).take ai = ds.take ai := by
          rw [List.take_take, Nat.min_eq_left (by omega)]
        rw [tt] at x1 x2
        have m1 := FL.m
        have m2 := FL.n
        refine ⟨fun e he => FL.f e ?_, ?_, ?_⟩
        · rcases List.mem_append.mp he with z | z
          · rcases List.mem_append.mp z with z | z
            · exact List.mem_of_mem_take z
            · exact List.mem_of_mem_take (List.mem_of_mem_drop (List.mem_reverse.mp z))
          · exact List.mem_of_mem_drop z
        · rw [massAll_append, massAll_append, r1]
          omega
        · rw [depthAll_append, depthAll_append, r2]
          omega
      have mp1 : ∀ {M N : Nat} {ys : List PyData}, FineL sg M N ys → M ≤ 2 * m + 49 → N ≤ n + 1 → Fine (sg + 1) (2 * m + 50) (n + 2) (.tuple ys) := fun G h1 h2 => (G.tup.up).mono (by omega) (by omega)
      have fl : ∀ e ∈ [PyData.tuple (ds.take (ai + 1) ++ ds.drop ai), .tuple (ds ++ [.int 0]), .tuple (ds ++ [.tuple []]), .tuple [.tuple ds], .tuple (ds.take ai ++ ds.drop (ai + 1)), .list ds, .tuple ds.reverse,
          .tuple ((ds.take ai ++ ((ds.take (ai + 2)).drop ai).reverse) ++ ds.drop (ai + 2)), .tuple ((ds.take ai ++ ((ds.take (ai + 2)).drop ai).reverse) ++ ds.drop (ai + 2))], Fine (sg + 1) (2 * m + 50) (n + 2) e := by
        intro e he
        simp only [List.mem_cons, List.not_mem_nil, or_false] at he
        rcases he with rfl | rfl | rfl | rfl | rfl | rfl | rfl | rfl | rfl
        · exact mp1 ((FL.take (ai + 1)).app (FL.drop ai)) (by omega) (by omega)
        · exact mp1 (FL.app F0) (by omega) (by omega)
        · exact mp1 (FL.app F1') (by omega) (by omega)
        · exact mp1 (FineL.one hF) (by omega) (by omega)
        · exact mp1 ((FL.take ai).app (FL.drop (ai + 1))) (by omega) (by omega)
        · exact (FL.lst.up).mono (by omega) (by omega)
        · exact mp1 FL.rev (by omega) (by omega)
        · exact mp1 F2 (by omega) (by omega)
        · exact mp1 F2 (by omega) (by omega)
      refine pick_fine (E := E0) (D22.same u3) upd_same l3p l3q (dl.same (hide_same u3)) fl (by simp) (by simp) (by omega) fun v' d' H' O' D' dd ff => k v' d' H' (((O6'.trans (.of_same (f16.trans f22))).trans (.of_same u3)).trans O') (D'.mono (by omega)) dd ff
end
end K2
set_option maxRecDepth 100000
set_option maxHeartbeats 8000000
namespace K2
open PySem PySem.Spec PyProof.Rows L2
/-! ### the law's bent -/
abbrev s_bent : Stmt := top 96
def spBent (N : Nat) : Sp := fun vs H Q _ => ∃ (p q : Addr) (b c s m : Nat) (v : V) (d : PyData), vs = [.ref p, v] ∧ Dk H p q b ∧ b + 2 * N + 6 ≤ c ∧ c ≤ 100000000 ∧ Dat (hide p q H) v d ∧ Fine s m N d ∧ s ≤ 3 ∧ m ≤ 100000 ∧
  ∀ (v' : V) (d' : PyData) (H' : Hp), Off p q H H' → Dk H' p q c → Dat (hide p q H') v' d' → Fine (s + 1) (2 * m + 50) (N + 2) d' → Q v' H'
theorem drop_get {ds : List PyData} {i : Nat} {d : PyData} (h : ds[i]? = some d) : ds.drop i = d :: ds.drop (i + 1) := by
  have hi := (List.getElem?_eq_some_iff.mp h)
  obtain ⟨hlt, e⟩ := hi
  rw [List.drop_eq_getElem_cons hlt, e]
section
variable {P : Program} {w : World} {K : PySem.W.Frag} {mg : Str → Option Value} {base : Heap}
theorem sc_bent : FnScope ["_law_deck_here", "_law_thing", "_law_at"] ["_law_deck_here", "_law_thing"] (defScope s_bent) := ⟨rfl, rfl, rfl, by decide +kernel, rfl, by decide +kernel, by decide +kernel⟩
theorem bn_body {f fD fP fO : Addr} {fd fdD fdP fdO : FuncData} {sp : Sp} (N : Nat) (F : Fun K "_law_bent" "_law_bent" s_bent f fd) (bs : L2.Binds K fd ["_law_deck_here", "_law_thing"] []) (g : mg "_law_bent" = some (.ref f)) (G : FnOk P w K mg base CX0 (3 + N) f fd ["_law_deck_here", "_law_thing"] sp) (T : Nm mg) (Tl : mg "list" = none)
    (D_draw : DefOk K mg "_law_draw" sDraw ["_law_deck_here", "_law_bound"] fD fdD) (D_pick : DefOk K mg "_law_pick" sPick ["_law_deck_here", "_law_items"] fP fdP) (D_other : DefOk K mg "_law_other" s_other ["_law_deck_here", "_law_thing"] fO fdO)
    (hn : ∀ M, N = M + 1 → ∀ vs H Q E, spBent M vs H Q E → sp vs H Q E) : FnOk P w K mg base CX0 (4 + N) f fd ["_law_deck_here", "_law_thing"] (spBent N) := by
  have G_draw : FnOk P w K mg base CX0 1 fD fdD ["_law_deck_here", "_law_bound"] spDraw := ok_draw D_draw.F
  have G_other : FnOk P w K mg base CX0 3 fO fdO ["_law_deck_here", "_law_thing"] spOther := okl_other D_other.F T Tl D_draw D_pick
  rw [show 4 + N = (3 + N) + 1 by omega]
  refine F.ok sc_bent (fun vs H Q E h => ?_) (fun cdv A outer s H vs Q E hr h => ?_)
  · obtain ⟨p, q, b, c, s, m, v, d, rfl, _⟩ := h
    rfl
  · obtain ⟨p, q, b, c, sg, m, v, d, rfl, D, hb, hc, hd, hF, hs3, hm, k⟩ := h
    have hr1 : Room 1 _ := hr.mono (by omega)
    have hr3 : Room 3 _ := hr.mono (by omega)
    have hu0 := hr.units0
    refine ⟨_, (pss_cons (ps_if (PW.pt (pw_or (pt_not (pt_val (pe_callB call_isi (by rfl) T.isinstance boot_isinstance (pa_cons (pv 1) (pa_cons (pe_bltn (v := .ty "tuple") rfl T.tuple (by decide +kernel) rfl) pa_nil))))) (pw_or (pt_cmpR (op_empty hu0) (pv 1) (pe_tup pa_nil) (nomark _)) (pw_or1 (pt_cmpR op_eq (pe_call G_draw hr1 rfl D_draw.g D_draw.F.kp D_draw.b .nil pass0 (pa_cons (pv 0) (pa_cons pe_int pa_nil))) pe_int (nomark _))))))
        (pss_one (ps_ret (pe_call G_other hr3 rfl D_other.g D_other.F.kp D_other.b .nil pass0 (pa_cons (pv 0) (pa_cons (pv 1) pa_nil)))))
        pss_nil)
      (pss_cons (ps_set (i := 2) sc_bent.nd rfl (Or.inl rfl) (pe_call G_draw hr1 rfl D_draw.g D_draw.F.kp D_draw.b .nil pass0 (pa_cons (pv 0) (pa_cons (pe_callB cr_lenS (by rfl) T.len PySem.boot_len (pa_cons (pv 1) pa_nil)) pa_nil))))
      (pss_one (ps_ret (pe_op op_catA (pe_op op_catA (pe_slice sl_tupA (pv 1) po_none (po_some (pv 2))) (pe_tup (pa_cons (pe_call G hr rfl g F.kp bs .nil pass0 (pa_cons (pv 0) (pa_cons (pe_ix ix_tup (pv 1) (pv 2) (fun _ _ => rfl)) pa_nil))) pa_nil))) (pe_slice sl_tupA (pv 1) (po_some (pe_op op_addN (pv 2) pe_int)) po_none)))))), ?_⟩
    have hv := hd.same (hide_sub p q H)
    have oth : ∀ (H1 : Hp) (R : VK) (b1 : Nat), Off p q H H1 → Dk H1 p q b1 → b1 + 3 ≤ c → Dat (hide p q H1) v d → R = Q → spOther [.ref p, v] H1 R E0 := fun H1 R b1 O1 D1 hb1 hd1 e => by
      subst e
      exact ⟨p, q, b1, sg, m, N, v, d, rfl, D1, by omega, hd1, hF, hs3, hm, fun v' d' H' O' D' dd ff => k v' d' H' (O1.trans O') (D'.mono (by omega)) dd ff⟩
    refine ⟨_, rfl, v, .ty "tuple", _, _, _, rfl, .ty _, hv.ty, kit_tuple _ d, _, rfl, ?_⟩
    by_cases zt : isTup d = true
    case neg =>
      refine if_t (by rw [Bool.not_eq_true] at zt; rw [zt]; rfl) ?_
      refine ⟨_, rfl, _, rfl, ?_⟩
      exact oth H _ b (Off.refl) D (by omega) hd rfl
    obtain ⟨ds, rfl⟩ : ∃ ds, d = .tuple ds := by
      cases d with
      | tuple ds => exact ⟨ds, rfl⟩
      | _ => cases zt
    cases hd with
    | @tup a xs _ hha hhx =>
      have ha := hide_sub p q H _ _ hha
      refine if_f rfl ⟨_, rfl, (by show 0 ≤ sizeLine; decide), fun a6 n6 => ⟨a, a6, xs, rfl, rfl, .inr ⟨same_new n6 _ _ ha, upd_same⟩, _, rfl, ?_⟩⟩
      have u6 := same_new (o := HO.tup []) n6
      have D6 := D.same u6
      have O6 : Off p q H (upd H a6 (.tup [])) := .of_same u6
      have hha6 := hide_same (p := p) (q := q) u6 _ _ hha
      have hx6 := hhx.same (hide_same (p := p) (q := q) u6)
      generalize upd H a6 (.tup []) = H6 at u6 D6 O6 hha6 hx6 ⊢
      have hxl := hhx.len
      by_cases he : xs.isEmpty = true
      · refine if_t he (if_t rfl ?_)
        refine ⟨_, rfl, _, rfl, ?_⟩
        exact oth H6 _ b O6 D6 (by omega) (.tup hha6 hx6) rfl
      refine if_f (Bool.not_eq_true _ ▸ he) ?_
      have hpos : 0 < xs.length := by
        cases xs with
        | nil => exact absurd rfl he
        | cons y ys => simp
      obtain ⟨dsx, mxx, cx, Dx, hcx⟩ := D6
      refine ⟨_, rfl, p, q, dsx, mxx, cx, 5, rfl, by decide, by decide, Dx, by omega, fun w5 ds5 H7 i0 i1 O7 D7x => ⟨rfl, _, rfl, ?_⟩⟩
      have D7 : Dk H7 p q (b + 1) := ⟨_, mxx, _, D7x, by omega⟩
      have hha7 := hide_off O7 _ _ hha6
      have hx7 := hx6.same (hide_off O7)
      have ha7 := hide_sub p q H7 _ _ hha7
      have O67 := O6.trans O7
      by_cases z5 : w5 = 0
      · refine if_t (decide_eq_true (by rw [z5])) ?_
        refine ⟨_, rfl, _, rfl, ?_⟩
        exact oth H7 _ (b + 1) O67 D7 (by omega) (.tup hha7 hx7) rfl
      refine if_f (decide_eq_false fun z => z5 (V.int.inj z)) ?_
      obtain ⟨m1, n1, FL⟩ := hF.inv
      obtain ⟨M, hM⟩ : ∃ M, N = M + 1 := ⟨N - 1, by omega⟩
      have hlm : xs.length ≤ 100000 := by
        have y1 := len_nodes ds
        have y2 := massAll_nodes ds
        have y3 := FL.m
        omega
      obtain ⟨dsy, mxy, cy, Dy, hcy⟩ := D7
      refine ⟨_, rfl, _, rfl, a, xs, rfl, .inr (SqT.of ha7), p, q, dsy, mxy, cy, _, rfl, by omega, by omega, Dy, by omega, fun ai ds8 H8 j0 j1 O8 D8x => ?_⟩
      obtain ⟨ai, rfl⟩ := nat_of j0
      have D8 : Dk H8 p q (b + 2) := ⟨_, mxy, _, D8x, by omega⟩
      have hha8 := hide_off O8 _ _ hha7
      have hx8 := hx7.same (hide_off O8)
      have ha8 := hide_sub p q H8 _ _ hha8
      have hai : ai < xs.length := by omega
      have hxi : xs[ai]? = some xs[ai] := List.getElem?_eq_getElem hai
      obtain ⟨e, hei, te⟩ := hx8.get hxi
      have FE := FL.mem (List.mem_of_getElem? hei)
      have FE' : Fine sg (mass e) M e := ⟨FE.f, Nat.le_refl _, by have := FE.n; omega⟩
      have me := FE.m
      have cl : ∀ lo hi : Option Int, (cutV xs lo hi).length ≤ xs.length := cutV_length xs
      refine ⟨_, rfl, _, rfl, (ai : Int), rfl, slAny_of ha8 fun b1 J1 e1 g1 => ?_⟩
      have ha9 := e1 _ _ ha8
      refine ⟨_, rfl, _, rfl, _, rfl, a, xs, _, xs[ai], rfl, rfl, SqT.of ha9, atI_nat hxi, ?_⟩
      refine hn M hM _ _ _ _ ⟨p, q, b + 2, c, sg, mass e, xs[ai], e, rfl, D8.same e1, by omega, hc, te.same (hide_same e1), FE', hs3, by omega, fun v' d' H9 O9 D9 dd ff => ?_⟩
      have e9 : ∀ {z : Addr} {ys : List V}, J1 z = some (.tup ys) → H9 z = some (.tup ys) := fun {z ys} h => O9 _ _ h (dk_ne (D8.same e1) h).1 (dk_ne (D8.same e1) h).2
      refine ⟨(by show 1 ≤ sizeLine; decide), fun b2 nb2 => ?_⟩
      have e10 := same_new (o := HO.tup [v']) nb2
      have g10 : upd H9 b2 (.tup [v']) b2 = some (.tup [v']) := upd_same
      generalize upd H9 b2 (.tup [v']) = J2 at e10 g10 ⊢
      refine catA_of (e10 _ _ (e9 g1)) g10 (by rw [sizeLine_eq]; have := cl none (some (ai : Int)); simp; omega) fun c1 J3 e11 g11 => ?_
      have f11 := e10.trans e11
      refine ⟨_, rfl, _, rfl, ai, 1, rfl, rfl, ((ai + 1 : Nat) : Int), rfl, ?_⟩
      dsimp only [tNoPart]
      refine slAny_of (f11 _ _ (e9 ha9)) fun b3 J4 e12 g12 => catA_of (e12 _ _ g11) g12 ?_ fun c2 J5 e13 g13 => ?_
      · rw [sizeLine_eq, List.length_append, List.length_singleton]
        have := cl none (some (ai : Int))
        have := cl (some ((ai + 1 : Nat) : Int)) none
        omega
      have f13 := (f11.trans e12).trans e13
      have D13 := D9.same f13
      have h89 : Same (hide p q H8) (hide p q J5) := ((hide_same e1).trans (hide_off O9)).trans (hide_same f13)
      have hx13 := hx8.same h89
      have dv := dd.same (hide_same (p := p) (q := q) f13)
      rw [cut_take, cut_drop] at g13
      obtain ⟨w1, w2, w3⟩ := mass_take ds ai
      have w4 := drop_get hei
      have w5' : massAll (ds.drop ai) = mass e + massAll (ds.drop (ai + 1)) := by rw [w4, massAll]
      have FLm := FL.m
      have FD := FL.drop (ai + 1)
      have FT := FL.take ai
      have hFm := hF.m
      refine k _ (.tuple ((ds.take ai ++ [d']) ++ ds.drop (ai + 1))) _ (((O67.trans O8).trans (.of_same e1)).trans (O9.trans (.of_same f13))) D13 (.tup (hide_at g13 (dk_ne D13 g13).1 (dk_ne D13 g13).2) (datAll_append (datAll_append (dat_take ai hx13) (.cons dv .nil)) (dat_drop (ai + 1) hx13))) ?_
      have FF : FineL (sg + 1) (2 * m + 49) (N + 1) ((ds.take ai ++ [d']) ++ ds.drop (ai + 1)) := by
        have G1 := (FT.up.app (FineL.one ff)).app FD.up
        have g2 := FD.n
        have g3 := FT.n
        refine ⟨G1.f, ?_, ?_⟩
        · rw [massAll_append, massAll_append]
          have := ff.m
          simp only [massAll]
          omega
        · have := G1.n
          omega
      exact FF.tup
theorem okl_bent {f fD fP fO : Addr} {fd fdD fdP fdO : FuncData} (F : Fun K "_law_bent" "_law_bent" s_bent f fd) (bs : L2.Binds K fd ["_law_deck_here", "_law_thing"] []) (g : mg "_law_bent" = some (.ref f)) (T : Nm mg) (Tl : mg "list" = none)
    (D_draw : DefOk K mg "_law_draw" sDraw ["_law_deck_here", "_law_bound"] fD fdD) (D_pick : DefOk K mg "_law_pick" sPick ["_law_deck_here", "_law_items"] fP fdP) (D_other : DefOk K mg "_law_other" s_other ["_law_deck_here", "_law_thing"] fO fdO) : ∀ N : Nat, FnOk P w K mg base CX0 (4 + N) f fd ["_law_deck_here", "_law_thing"] (spBent N)
  | 0 => bn_body (sp := fun _ _ _ _ => False) 0 F bs g fn_none T Tl D_draw D_pick D_other fun M e => by cases e
  | N + 1 => by
    have G := okl_bent F bs g T Tl D_draw D_pick D_other N
    rw [show 4 + N = 3 + (N + 1) by omega] at G
    refine bn_body (N + 1) F bs g G T Tl D_draw D_pick D_other fun M e vs H Q E h => ?_
    obtain rfl : N = M := Nat.succ.inj e
    exact h
end
end K2
set_option maxRecDepth 100000
set_option maxHeartbeats 4000000
namespace K2
open PySem PySem.Spec PyProof.Rows L2
/-! ### written data: what it is, wherever it lies -/
def tDat (d : PyData) : TE := fun _ H Q => ∀ (v : V) (H' : Hp), Same H H' → Dat H' v d → Q v H'
def tDats (ds : List PyData) : TA := fun _ H Q => ∀ (vs : List V) (H' : Hp), Same H H' → DatAll H' vs ds → Q vs H'
section
variable {X : Cx} {e : Expr} {es : List Expr} {d : PyData} {ds : List PyData}
theorem pe_weak {t t' : TE} (h : PE X e t) (w : ∀ σ H Q, t' σ H Q → t σ H Q) : PE X e t' := ⟨fun pins s σ H Q I hq => h.run pins s σ H Q I (w σ H Q hq)⟩
theorem pa_weak {t t' : TA} (h : PA X es t) (w : ∀ σ H Q, t' σ H Q → t σ H Q) : PA X es t' := ⟨fun pos pins s σ H Q I hq => h.run pos pins s σ H Q I (w σ H Q hq)⟩
theorem pd_nil : PA X [] (tDats []) := pa_weak pa_nil fun σ H Q h => h [] H (Same.refl H) .nil
theorem pd_cons (a : PE X e (tDat d)) (b : PA X es (tDats ds)) (hs : starEach (e :: es) X.env = (false, eval e X.env) :: starEach es X.env := by rfl) : PA X (e :: es) (tDats (d :: ds)) :=
  pa_weak (pa_cons a b hs) fun σ H Q h v H1 S1 dv vs H2 S2 dvs => h (v :: vs) H2 (S1.trans S2) (.cons (dv.same S2) dvs)
theorem pd_tup {ctx : Nat} {pos : Pos} (hl : ds.length ≤ 1000) (a : PA X es (tDats ds)) : PE X (.Tuple es ctx pos) (tDat (.tuple ds)) :=
  pe_weak (pe_tup a) fun σ H Q h vs H1 S1 dvs => ⟨by rw [dvs.len, sizeLine_eq]; omega, fun p np => h (.ref p) _ (S1.trans (same_new np)) (.tup upd_same (dvs.same (same_new np)))⟩
theorem pd_lst {pos : Pos} (hl : ds.length ≤ 1000) (a : PA X es (tDats ds)) : PE X (.List es pos) (tDat (.list ds)) :=
  pe_weak (pe_lst a) fun σ H Q h vs H1 S1 dvs => ⟨by rw [dvs.len, sizeLine_eq]; omega, fun p np => h (.ref p) _ (S1.trans (same_new np)) (.lst upd_same (dvs.same (same_new np)))⟩
theorem pd_of {v : V} (a : PE X e (tC v)) (h : ∀ H : Hp, Dat H v d) : PE X e (tDat d) := pe_weak a fun σ H Q q => q v H (Same.refl H) (h H)
theorem pd_none (a : PE X e (tC .non)) : PE X e (tDat .none) := pd_of a fun _ => .non
theorem pd_bool {b : Bool} (a : PE X e (tC (.bl b))) : PE X e (tDat (.bool b)) := pd_of a fun _ => .bl b
theorem pd_int {i : Int} (a : PE X e (tC (.int i))) : PE X e (tDat (.int i)) := pd_of a fun _ => .int i
theorem pd_str {x : Str} (hx : x.length ≤ 1000) (a : PE X e (tC (.str x))) : PE X e (tDat (.str x)) := pd_of a fun _ => .str x hx
theorem pd_neg {i : Int} {pos : Pos} (a : PE X e (tC (.int i))) : PE X (.UnaryOp .USub e pos) (tDat (.int (-i))) := pe_weak (pe_un un_neg a) fun σ H Q q => ⟨i, rfl, q _ H (Same.refl H) (.int _)⟩
theorem pd_dict {pos : Pos} : PE X (.Dict [] [] pos) (tDat (.dict [])) := pe_weak pe_dnewK fun σ H Q q p np => q (.ref p) _ (same_new np) (.d0 upd_same)
end
end K2
set_option maxRecDepth 100000
set_option maxHeartbeats 4000000
namespace K2
open PySem PySem.Spec PyProof.Rows L2
/-! ### the law's deep order -/
abbrev s_deep_order : Stmt := top 98
def deepD : Nat → PyData
  | 0 => itemD "a"
  | k + 1 => joinD "parallel" [itemD ⟨#[98 + (k + 1)]⟩, deepD k]
/-- of depth n + 1 -/
def spDeep : Sp := fun vs H Q _ => ∃ n : Nat, vs = [.int ((n + 1 : Nat) : Int)] ∧ n ≤ 6 ∧ ∀ (v : V) (H' : Hp), Same H H' → Dat H' v (deepD n) → Q v H'
theorem deep_sign : ∀ k : Fin 8, atI ("bcdefghi" : Str).cps.toList ((k.val : Nat) : Int) = some (98 + k.val) := by decide +kernel
section
variable {P : Program} {w : World} {K : PySem.W.Frag} {mg : Str → Option Value} {base : Heap}
theorem sc_deep_order : FnScope ["_law_depth", "_law_order_here", "_law_k"] ["_law_depth"] (defScope s_deep_order) := ⟨rfl, rfl, rfl, by decide +kernel, rfl, by decide +kernel, by decide +kernel⟩
theorem okl_deep {f : Addr} {fd : FuncData} (F : Fun K "_law_deep_order" "_law_deep_order" s_deep_order f fd) (T : Nm mg) : FnOk P w K mg base CX0 1 f fd ["_law_depth"] spDeep := by
  refine F.ok sc_deep_order (fun vs H Q E h => ?_) (fun cdv A outer s H vs Q E hr h => ?_)
  · obtain ⟨n, rfl, _⟩ := h
    rfl
  · obtain ⟨n, rfl, hn, q⟩ := h
    refine ⟨_, (pss_cons (ps_set (i := 1) sc_deep_order.nd rfl (Or.inl rfl) (pd_tup (by decide) (pd_cons (pd_str (by decide) pe_str) (pd_cons (pd_str (by decide) pe_str) pd_nil))))
      (pss_cons (ps_for PassesOwn.never rfl (pi_range2 rfl T.range (pa_cons pe_int (pa_cons (pv 0) pa_nil))) (pg_name (i := 2) sc_deep_order.nd rfl (Or.inl rfl))
        (pss_one (ps_set (i := 1) sc_deep_order.nd rfl (Or.inl rfl) (pe_tup (pa_cons pe_str (pa_cons (pe_tup (pa_cons (pe_tup (pa_cons pe_str (pa_cons (pe_ix ix_str pe_str (pv 2) (fun _ _ => rfl)) pa_nil))) (pa_cons (pv 1) pa_nil))) pa_nil))))))
      (pss_one (ps_ret (pv 1))))), ?_⟩
    refine fun v1 H1 S1 d1 => ?_
    have en : (((n + 1 : Nat) : Int) - 1).toNat = n := by omega
    refine ⟨_, rfl, 1, _, rfl, by omega, for_range (lo := 1) (n := (((n + 1 : Nat) : Int) - 1).toNat) (fun i σ H' => ∃ (v : V) (x2 : Option V), σ = [some (.int ((n + 1 : Nat) : Int)), some v, x2] ∧ Same H H' ∧ Dat H' v (deepD i)) ⟨v1, none, rfl, S1, d1⟩ ?_ ?_⟩
    · rintro i σ H2 hi ⟨v, x2, rfl, S2, dv⟩
      have e1 : (1 : Int) + ((i : Nat) : Int) = ((i + 1 : Nat) : Int) := by omega
      rw [e1]
      refine ⟨_, rfl, "bcdefghi", ((i + 1 : Nat) : Int), 98 + (i + 1), rfl, rfl, by decide, deep_sign ⟨i + 1, by omega⟩, (by show 2 ≤ sizeLine; decide), fun a1 n1 => ?_⟩
      have u1 := same_new (o := HO.tup [.str "item", .str ⟨#[98 + (i + 1)]⟩]) n1
      have g1 : upd H2 a1 (.tup [.str "item", .str ⟨#[98 + (i + 1)]⟩]) a1 = some (.tup [.str "item", .str ⟨#[98 + (i + 1)]⟩]) := upd_same
      generalize upd H2 a1 (.tup [.str "item", .str ⟨#[98 + (i + 1)]⟩]) = H3 at u1 g1 ⊢
      refine ⟨_, rfl, (by show 2 ≤ sizeLine; decide), fun a2 n2 => ?_⟩
      have u2 := same_new (o := HO.tup [.ref a1, v]) n2
      have g2 : upd H3 a2 (.tup [.ref a1, v]) a2 = some (.tup [.ref a1, v]) := upd_same
      generalize upd H3 a2 (.tup [.ref a1, v]) = H4 at u2 g2 ⊢
      refine ⟨(by show 2 ≤ sizeLine; decide), fun a3 n3 => ?_⟩
      have u3 := same_new (o := HO.tup [.str "parallel", .ref a2]) n3
      have one : (⟨#[98 + (i + 1)]⟩ : Str).length ≤ 1000 := by
        show 1 ≤ 1000
        decide
      exact ⟨.ref a3, _, rfl, ((S2.trans u1).trans u2).trans u3, .tup upd_same (.cons (.str _ (by decide)) (.cons (.tup (u3 _ _ g2) (.cons (.tup (u3 _ _ (u2 _ _ g1)) (.cons (.str _ (by decide)) (.cons (.str _ one) .nil))) (.cons (dv.same ((u1.trans u2).trans u3)) .nil))) .nil))⟩
    · rintro σ H2 ⟨v, x2, rfl, S2, dv⟩
      rw [en] at dv
      exact ⟨_, rfl, q v H2 S2 dv⟩
end
end K2
set_option maxRecDepth 100000
set_option maxHeartbeats 4000000
namespace K2
open PySem PySem.Spec PyProof.Rows L2
/-! ### the law's many names -/
abbrev s_many_names : Stmt := top 99
def sig (i : Nat) : Str := ⟨#[97 + i]⟩
def rowN (i : Nat) : List Str := (List.range 20).map fun j => sig i ++ sig j
def manyN (i : Nat) : List Str := (List.range i).flatMap rowN
def at20 : Str := "abcdefghijklmnopqrst"
theorem at20_get : ∀ i : Fin 20, at20.cps[i.val]? = some (97 + i.val) := by decide +kernel
theorem at20_size : at20.cps.size = 20 := by decide +kernel
def spMany : Sp := fun vs H Q _ => vs = [] ∧ ∀ (t : Addr) (H' : Hp), Same H H' → H t = none → H' t = some (.lst ((manyN 20).map .str)) → Q (.ref t) H'
theorem many_len : ∀ i : Nat, (manyN i).length = 20 * i
  | 0 => rfl
  | i + 1 => by
    unfold manyN
    rw [List.range_succ, List.flatMap_append, List.length_append]
    have z := many_len i
    unfold manyN at z
    rw [z]
    simp [rowN]
    omega
section
variable {P : Program} {w : World} {K : PySem.W.Frag} {mg : Str → Option Value} {base : Heap}
theorem sc_many_names : FnScope ["_law_names_here", "_law_first", "_law_second"] [] (defScope s_many_names) := ⟨rfl, rfl, rfl, by decide +kernel, rfl, by decide +kernel, by decide +kernel⟩
theorem okl_many {f : Addr} {fd : FuncData} (F : Fun K "_law_many_names" "_law_many_names" s_many_names f fd) : FnOk P w K mg base CX0 1 f fd [] spMany := by
  refine F.ok sc_many_names (fun vs H Q E h => ?_) (fun cdv A outer s H vs Q E hr h => ?_)
  · obtain ⟨rfl, _⟩ := h
    rfl
  · obtain ⟨rfl, q⟩ := h
    refine ⟨_, (pss_cons (ps_set (i := 0) sc_many_names.nd rfl (Or.inl rfl) (pe_lst pa_nil))
      (pss_cons (ps_for PassesOwn.never rfl (pi_str pe_str) (pg_name (i := 1) sc_many_names.nd rfl (Or.inr rfl))
        (pss_one (ps_expr (pe_bm PySem.F.plainAttrs_list PySem.F.slot_list_extend PySem.F.type_list_extend mt_extend (pv 0) (pa_cons (pe_lc (own := [("_law_second", 2)]) (g := (gName 2)) (tt := tYes) (te := tOp (fun x y H Q => ∃ i j, x = V.str i ∧ y = V.str j ∧ i.length + j.length ≤ sizeLine ∧ Q (V.str (i ++ j)) H) (tVar 1) (tVar 2)) rfl sc_many_names.nd (pi_str pe_str) (blkOk_by (N := ["_law_names_here", "_law_first", "_law_second"]) (sc := defScope s_many_names) (by decide +kernel))
          (fun _ _ _ _ _ => (pg_name (i := 2) sc_many_names.nd rfl (Or.inl rfl))) (fun _ _ _ _ _ => pts_nil) (fun _ _ _ _ _ => (pe_op op_add_str (pv 1) (pv 2)))) pa_nil)))))
      (pss_one (ps_ret (pv 0))))), ?_⟩
    refine ⟨(by show 0 ≤ sizeLine; decide), fun r nr => ?_⟩
    have Sr := same_new (o := HO.lst []) nr
    refine ⟨at20, rfl, for_it (walk_str (z := at20)) (fun i σ H' => ∃ (x1 x2 : Option V), σ = [some (.ref r), x1, x2] ∧ Same H H' ∧ H' r = some (.lst ((manyN i).map .str))) ⟨none, none, rfl, Sr, upd_same⟩ (fun _ _ _ _ _ => trivial) ?_ ?_⟩
    · rintro i x σ H1o H1 hi ⟨x1, x2, rfl, S1, hr1⟩ ⟨rfl, c, hc, rfl⟩
      have hi20 : i < 20 := by rw [← at20_size]; exact hi
      have ec : 97 + i = c := Option.some.inj ((at20_get ⟨i, hi20⟩).symm.trans hc)
      subst ec
      refine ⟨_, rfl, .inl ⟨rfl, _, SqL.of hr1⟩, at20, rfl, fun L nL => lc_it (walk_str (z := at20)) (fun j Hx => Same H1 Hx ∧ Hx L = some (.lst ((((List.range j).map fun k => sig i ++ sig k)).map .str))) ⟨same_new nL, upd_same⟩ (fun _ _ _ _ => trivial) ?_ ?_⟩
      · rintro j y Hx Hx' hj ⟨S2, hL⟩ ⟨rfl, c2, hc2, rfl⟩
        have hj20 : j < 20 := by rw [← at20_size]; exact hj
        have ec2 : 97 + j = c2 := Option.some.inj ((at20_get ⟨j, hj20⟩).symm.trans hc2)
        subst ec2
        refine ⟨rfl, _, rfl, _, rfl, sig i, sig j, rfl, rfl, (by show 1 + 1 ≤ sizeLine; decide), _, hL, ?_, grow nL S2, ?_⟩
        · rw [List.length_map, List.length_map, List.length_range, sizeLine_eq]
          omega
        · rw [upd_same, List.range_succ, List.map_append, List.map_append]
          rfl
      · rintro Hx ⟨S2, hL⟩
        rw [at20_size] at hL
        refine ⟨r, L, _, _, rfl, rfl, S2 _ _ hr1, hL, ?_, ?_⟩
        · rw [List.length_map, many_len, List.length_map, List.length_map, List.length_range, sizeLine_eq]
          omega
        · refine ⟨_, _, rfl, ?_, ?_⟩
          · intro b o e
            have br : b ≠ r := fun z => by
              rw [z, nr] at e
              cases e
            rw [upd_ne br]
            exact S2 _ _ (S1 b o e)
          · rw [upd_same]
            unfold manyN
            have er : List.range (i + 1) = List.range i ++ [i] := List.range_succ
            rw [er, List.flatMap_append, List.map_append, List.flatMap_singleton]
            rfl
    · rintro σ H1 ⟨x1, x2, rfl, S1, hr1⟩
      rw [at20_size] at hr1
      exact ⟨_, rfl, q r H1 S1 nr hr1⟩
end
end K2
set_option maxRecDepth 100000
set_option maxHeartbeats 8000000
namespace K2
open PySem PySem.Spec PyProof.Rows L2
/-! ### the law's tall order -/
abbrev s_tall_order : Stmt := top 97
def chunk (sz : Nat) (ns : List Str) (j : Nat) : List Str := (ns.take (j * sz + sz)).drop (j * sz)
def sizeN (n : Nat) : Nat := (n + 5) / 6
def countN (n : Nat) : Nat := (n + sizeN n - 1) / sizeN n
def tallD : Nat → List Str → PyData
  | 0, _ => .none
  | k + 1, ns => if ns.length = 1 then itemD (ns.headD Str.empty) else joinD (if ns.length % 2 = 0 then "series" else "parallel") ((List.range (countN ns.length)).map fun j => tallD k (chunk (sizeN ns.length) ns j))
def limT : Nat → Nat
  | 0 => 1
  | k + 1 => 6 * limT k
def spTall (k : Nat) : Sp := fun vs H Q _ => ∃ (t : Addr) (ns : List Str), vs = [.ref t] ∧ H t = some (.lst (ns.map .str)) ∧ 1 ≤ ns.length ∧ ns.length ≤ limT k ∧ ns.length ≤ 1000 ∧ (∀ x ∈ ns, x.length ≤ 1000) ∧ ∀ (v : V) (H' : Hp), Same H H' → Dat H' v (tallD (k + 1) ns) → Q v H'
theorem chunk_len {sz : Nat} {ns : List Str} {j : Nat} (h : j * sz < ns.length) (hs : 1 ≤ sz) : 1 ≤ (chunk sz ns j).length ∧ (chunk sz ns j).length ≤ sz := by
  unfold chunk
  rw [List.length_drop, List.length_take]
  omega
theorem chunk_mem {sz : Nat} {ns : List Str} {j : Nat} {x : Str} (h : x ∈ chunk sz ns j) : x ∈ ns := List.mem_of_mem_take (List.mem_of_mem_drop h)
theorem rg_size : ∀ n : Fin 1001, 1 ≤ n.val → ((sizeN n.val : Nat) : Int) ≠ 0 ∧ ((sizeN n.val : Nat) : Int).natAbs < 1073741824 ∧ Builtin.Range.small 0 ((n.val : Nat) : Int) ((sizeN n.val : Nat) : Int) = true ∧ Builtin.Range.rangeSize 0 ((n.val : Nat) : Int) ((sizeN n.val : Nat) : Int) = ((countN n.val : Nat) : Int) := by decide +kernel
theorem cn_size : ∀ n : Fin 1001, 1 ≤ n.val → 1 ≤ sizeN n.val ∧ countN n.val ≤ 6 ∧ ∀ j : Fin 7, j.val < countN n.val → j.val * sizeN n.val < n.val := by decide +kernel
mutual
def noL : PyData → Bool
  | .list _ => false
  | .dict _ => false
  | .tuple l => noLs l
  | .none => true
  | .bool _ => true
  | .int _ => true
  | .str _ => true
def noLs : List PyData → Bool
  | [] => true
  | d :: ds => noL d && noLs ds
end
mutual
theorem dat_noR {H : Hp} {r : Addr} {zs : List V} (hr : H r = some (.lst zs)) : ∀ {v : V} {d : PyData}, Dat H v d → noL d = true → Dat (noR r H) v d
  | _, _, .non, _ => .non
  | _, _, .bl b, _ => .bl b
  | _, _, .int i, _ => .int i
  | _, _, .str x h, _ => .str x h
  | _, _, .lst _ _, h => by simp [noL] at h
  | _, _, .d0 _, h => by simp [noL] at h
  | _, _, .tup (a := a) e t, h => .tup (noR_at e fun z => by rw [z, hr] at e; cases e) (datAll_noR hr t (by simpa only [noL] using h))
theorem datAll_noR {H : Hp} {r : Addr} {zs : List V} (hr : H r = some (.lst zs)) : ∀ {vs : List V} {ds : List PyData}, DatAll H vs ds → noLs ds = true → DatAll (noR r H) vs ds
  | _, _, .nil, _ => .nil
  | _, _, .cons (d := d) (ds := ds) a t, h => by
    have h' : noL d = true ∧ noLs ds = true := by simpa only [noLs, Bool.and_eq_true] using h
    exact .cons (dat_noR hr a h'.1) (datAll_noR hr t h'.2)
end
theorem noLs_iff : ∀ {l : List PyData}, noLs l = true ↔ ∀ d ∈ l, noL d = true
  | [] => by simp [noLs]
  | a :: l => by simp [noLs, noLs_iff (l := l)]
theorem tall_noL : ∀ (k : Nat) (ns : List Str), noL (tallD k ns) = true
  | 0, _ => rfl
  | k + 1, ns => by
    rw [tallD]
    split
    · rfl
    · unfold joinD
      rw [noL, noLs, noLs, noLs, noL, noL, Bool.true_and, Bool.and_true]
      refine noLs_iff.mpr fun d hd => ?_
      obtain ⟨j, _, rfl⟩ := List.mem_map.mp hd
      exact tall_noL k _
theorem same_noR {r : Addr} {H H' : Hp} (S : Same H H') : Same (noR r H) (noR r H') := fun b o e => by
  unfold noR at e ⊢
  split at e
  · cases e
  · rename_i h
    rw [if_neg h]
    exact S _ _ e
section
variable {P : Program} {w : World} {K : PySem.W.Frag} {mg : Str → Option Value} {base : Heap}
theorem sc_tall_order : FnScope ["_law_names_here", "_law_size", "_law_parts", "_law_k", "_law_part"] ["_law_names_here"] (defScope s_tall_order) := ⟨rfl, rfl, rfl, by decide +kernel, rfl, by decide +kernel, by decide +kernel⟩
theorem tl_body {f : Addr} {fd : FuncData} {sp : Sp} (k : Nat) (F : Fun K "_law_tall_order" "_law_tall_order" s_tall_order f fd) (bs : L2.Binds K fd ["_law_names_here"] []) (g : mg "_law_tall_order" = some (.ref f)) (G : ∀ base : Heap, FnOk P w K mg base CX0 k f fd ["_law_names_here"] sp) (T : Nm mg)
    (hn : ∀ M, k = M + 1 → ∀ vs H Q E, spTall M vs H Q E → sp vs H Q E) : FnOk P w K mg base CX0 (1 + k) f fd ["_law_names_here"] (spTall k) := by
  rw [show 1 + k = k + 1 by omega]
  refine F.ok sc_tall_order (fun vs H Q E h => ?_) (fun cdv A outer s H vs Q E hr h => ?_)
  · obtain ⟨t, ns, rfl, _⟩ := h
    rfl
  · obtain ⟨t, ns, rfl, ht, h1, hk, hk2, hns, q⟩ := h
    refine ⟨_, (pss_cons (ps_if (pt_cmpR op_eq (pe_callB cr_lenS (by rfl) T.len PySem.boot_len (pa_cons (pv 0) pa_nil)) pe_int (nomark _))
        (pss_one (ps_ret (pe_tup (pa_cons pe_str (pa_cons (pe_ix ix_list (pv 0) pe_int (fun _ _ => rfl)) pa_nil)))))
        pss_nil)
      (pss_cons (ps_set (i := 1) sc_tall_order.nd rfl (Or.inr rfl) (pe_op op_fdiv (pe_op op_add (pe_callB cr_lenS (by rfl) T.len PySem.boot_len (pa_cons (pv 0) pa_nil)) pe_int) pe_int))
      (pss_cons (ps_setLc (i := 2) (own := [("_law_k", 3)]) (g := (gName 3)) (tt := tYes) (te := tSl (rSlL K) (tVar 0) (tPart (tVar 3)) (tPart (tOp (fun x y H Q => ∃ n m : Nat, x = V.int (n : Int) ∧ y = V.int (m : Int) ∧ Q (V.int ((n + m : Nat) : Int)) H) (tVar 3) (tVar 1)))) rfl sc_tall_order.nd rfl rfl (sw_true rfl rfl rfl (by decide +kernel)) (pi_range3 rfl T.range (pa_cons pe_int (pa_cons (pe_callB cr_lenS (by rfl) T.len PySem.boot_len (pa_cons (pv 0) pa_nil)) (pa_cons (pv 1) pa_nil)))) (blkOk_by (N := ["_law_names_here", "_law_size", "_law_parts", "_law_k", "_law_part"]) (sc := defScope s_tall_order) (by decide +kernel))
          (fun _ _ _ _ _ => (pg_name (i := 3) sc_tall_order.nd rfl (Or.inl rfl))) (fun _ _ _ _ _ => pts_nil) (fun _ _ _ _ _ => (pe_slice sl_list (pv 0) (po_some (pv 3)) (po_some (pe_op op_addN (pv 3) (pv 1))))))
      (pss_one (ps_ret (pe_tup (pa_cons (pe_ix ix_list (pe_lst (pa_cons pe_str (pa_cons pe_str pa_nil))) (pe_op op_mod (pe_callB cr_lenS (by rfl) T.len PySem.boot_len (pa_cons (pv 0) pa_nil)) pe_int) (fun _ _ => rfl)) (pa_cons (pe_callTy call_tuple_of (by rfl) T.tuple (by decide +kernel) (pa_cons (pe_lc (own := [("_law_part", 4)]) (g := (gName 4)) (tt := tYes) (te := tCall sp [] E0 (tCons (tVar 4) tNil)) rfl sc_tall_order.nd (pi_list (pv 2)) (blkOk_by (N := ["_law_names_here", "_law_size", "_law_parts", "_law_k", "_law_part"]) (sc := defScope s_tall_order) (by decide +kernel))
          (fun _ _ _ _ _ => (pg_name (i := 4) sc_tall_order.nd rfl (Or.inl rfl))) (fun _ _ _ _ _ => pts_nil) (fun _ _ _ _ _ => (pe_call (G _) hr rfl g F.kp bs .nil pass0 (pa_cons (pv 4) pa_nil)))) pa_nil)) pa_nil)))))))), ?_⟩
    have hl : (ns.map V.str).length = ns.length := List.length_map ..
    refine ⟨_, rfl, t, _, rfl, .inl (SqL.of ht), rfl, _, rfl, ?_⟩
    by_cases e1 : ns.length = 1
    · obtain ⟨x, rfl⟩ : ∃ x, ns = [x] := List.length_eq_one_iff.mp e1
      refine if_t (decide_eq_true rfl) ?_
      refine ⟨_, rfl, t, _, _, _, rfl, rfl, SqL.of ht, atI_nat (j := 0) rfl, (by show 2 ≤ sizeLine; decide), fun a na => ?_⟩
      exact q _ _ (same_new na) (.tup upd_same (.cons (.str _ (by decide)) (.cons (.str _ (hns x (by simp))) .nil)))
    · refine if_f (decide_eq_false fun e => e1 ?_) ?_
      · have z := V.int.inj e
        rw [hl] at z
        omega
      refine ⟨_, rfl, t, _, rfl, .inl (SqL.of ht), _, _, rfl, rfl, _, _, rfl, rfl, ⟨by decide, by decide⟩, ?_⟩
      obtain ⟨m, hm⟩ : ∃ m, k = m + 1 := by
        cases k with
        | zero => exact absurd hk (by rw [limT]; omega)
        | succ m => exact ⟨m, rfl⟩
      obtain ⟨r1, r2, r3, r4⟩ := rg_size ⟨ns.length, by omega⟩ h1
      obtain ⟨c1, c6, cj⟩ := cn_size ⟨ns.length, by omega⟩ h1
      have hsz : sizeN ns.length ≤ limT m := by
        unfold sizeN
        rw [hm, limT] at hk
        omega
      have es : ((((ns.map V.str).length : Nat) : Int) + 5) / 6 = ((sizeN ns.length : Nat) : Int) := by
        rw [hl]
        rfl
      obtain ⟨sz, hs⟩ : ∃ sz, sz = sizeN ns.length := ⟨_, rfl⟩
      obtain ⟨cn, hc⟩ : ∃ cn, cn = countN ns.length := ⟨_, rfl⟩
      have el : (((ns.map V.str).length : Nat) : Int) = ((ns.length : Nat) : Int) := by rw [hl]
      dsimp only at r1 r2 r3 r4 c1 c6 cj
      rw [← hs] at r1 r2 r3 r4 c1 cj hsz es
      rw [← hc] at r4 c6 cj
      refine ⟨_, rfl, t, _, rfl, .inl (SqL.of ht), _, rfl, 0, ((ns.length : Nat) : Int), ((sz : Nat) : Int), cn, ?_, ⟨r1, r2, r3, r4⟩, fun D nD => ?_⟩
      · rw [el]
        rw [el] at es
        show [V.int 0, V.int ((ns.length : Nat) : Int), V.int ((((ns.length : Nat) : Int) + 5) / 6)] = _
        rw [es]
      refine lc_it (walk_rangeC (lo := 0) (c := ((sz : Nat) : Int)) (n := cn)) (fun j Hx => Same H Hx ∧ ∃ bs : List Addr, Hx D = some (.lst (bs.map V.ref)) ∧ bs.length = j ∧ ∀ (i : Nat) (b : Addr), bs[i]? = some b → Hx b = some (.lst ((chunk sz ns i).map .str)) ∧ b ≠ D)
        ⟨same_new nD, [], upd_same, rfl, by simp⟩ (fun _ _ _ _ => trivial) ?_ ?_
      · rintro j x Hx Hx' hj ⟨S2, bs, hD, hbl, hb⟩ ⟨rfl, hx⟩
        have hx' : some x = some (V.int (0 + ((j : Nat) : Int) * ((sz : Nat) : Int))) := by
          first
            | exact hx.symm
            | exact hx
            | exact congrArg some hx
        obtain rfl := Option.some.inj hx'
        have ej : (0 : Int) + ((j : Nat) : Int) * ((sz : Nat) : Int) = ((j * sz : Nat) : Int) := by rw [Int.zero_add, Int.natCast_mul]
        rw [ej]
        refine ⟨rfl, _, rfl, _, rfl, ((j * sz : Nat) : Int), rfl, _, rfl, _, rfl, j * sz, sz, rfl, congrArg V.int es, ((j * sz + sz : Nat) : Int), rfl, t, _, rfl, SqL.of (S2 _ _ ht), fun b nb => ?_⟩
        have u := same_new (o := HO.lst (cutV (ns.map V.str) (some ((j * sz : Nat) : Int)) (some ((j * sz + sz : Nat) : Int)))) nb
        have bD : b ≠ D := fun z => by
          rw [z, hD] at nb
          cases nb
        refine ⟨_, u _ _ hD, ?_, grow nD (S2.trans u), bs ++ [b], ?_, by rw [List.length_append, List.length_singleton, hbl], fun i' b' hb' => ?_⟩
        · rw [List.length_map, hbl, sizeLine_eq]
          omega
        · rw [upd_same, List.map_append]
          rfl
        · by_cases h : i' < bs.length
          · rw [List.getElem?_append_left h] at hb'
            obtain ⟨x1, x2⟩ := hb i' b' hb'
            exact ⟨by rw [upd_ne x2]; exact u _ _ x1, x2⟩
          · rw [List.getElem?_append_right (by omega)] at hb'
            have z : i' - bs.length = 0 := by
              by_cases y : i' - bs.length = 0
              · exact y
              · rw [List.getElem?_eq_none (by simp; omega)] at hb'
                cases hb'
            rw [z] at hb'
            obtain rfl := Option.some.inj hb'
            have ei : i' = j := by omega
            refine ⟨?_, bD⟩
            rw [upd_ne bD, upd_same, cut_from, ei]
            unfold chunk
            rw [List.map_drop, List.map_take]
      · rintro H3 ⟨S3, bs, hD, hbl, hb⟩
        refine ⟨(by show 2 ≤ sizeLine; decide), fun l nl => ?_⟩
        have u := same_new (o := HO.lst [.str "series", .str "parallel"]) nl
        have gl : upd H3 l (.lst [.str "series", .str "parallel"]) l = some (.lst [.str "series", .str "parallel"]) := upd_same
        generalize upd H3 l (.lst [.str "series", .str "parallel"]) = H4 at u gl ⊢
        have S4 := S3.trans u
        have ew : atI [V.str "series", V.str "parallel"] ((((ns.map V.str).length : Nat) : Int) % 2) = some (.str (if ns.length % 2 = 0 then "series" else "parallel")) := by
          rw [hl]
          refine atI_nat (j := ns.length % 2) ?_
          have : ns.length % 2 = 0 ∨ ns.length % 2 = 1 := by omega
          rcases this with z | z <;> rw [z] <;> rfl
        refine ⟨_, rfl, t, _, rfl, .inl (SqL.of (S4 _ _ ht)), _, _, rfl, rfl, (by show (0 : Int) < 2; decide), l, _, _, _, rfl, rfl, SqL.of gl, ew, ?_⟩
        have hD4 := u _ _ hD
        have hb4 : ∀ (i : Nat) (b : Addr), bs[i]? = some b → H4 b = some (.lst ((chunk sz ns i).map .str)) := fun i b z => u _ _ (hb i b z).1
        refine ⟨_, rfl, D, rfl, ⟨_, SqL.of hD4⟩, fun D2 nD2 => lc_list (K := K) (a := D) (xs := bs.map V.ref) (fun j Hx => Same H4 Hx ∧ ∃ acc : List V, Hx D2 = some (.lst acc) ∧ acc.length = j ∧ DatAll (noR D2 Hx) acc ((List.range j).map fun i => tallD k (chunk sz ns i)))
          ⟨same_new nD2, [], upd_same, rfl, .nil⟩ (fun j Hx _ ⟨S, _⟩ => SqL.of (S _ _ hD4)) ?_ ?_⟩
        · rintro j x Hx hj ⟨S5, acc, hA, hal, dA⟩
          obtain ⟨b, hbj, rfl⟩ : ∃ b, bs[j]? = some b ∧ x = V.ref b := by
            rw [List.getElem?_map] at hj
            cases e : bs[j]? with
            | none =>
              rw [e] at hj
              cases hj
            | some z =>
              rw [e] at hj
              exact ⟨z, rfl, (Option.some.inj hj).symm⟩
          have hjl : j < cn := by
            have := (List.getElem?_eq_some_iff.mp hbj).1
            omega
          obtain ⟨l1, l2⟩ := chunk_len (sz := sz) (ns := ns) (j := j) (cj ⟨j, by omega⟩ hjl) c1
          refine ⟨rfl, _, rfl, hn m hm _ _ _ _ ⟨b, chunk sz ns j, rfl, S5 _ _ (hb4 j b hbj), l1, by omega, by omega, fun x hx => hns x (chunk_mem hx), fun v H' S6 dv => ⟨acc, S6 _ _ hA, ?_, grow nD2 (S5.trans S6), acc ++ [v], upd_same, by rw [List.length_append, List.length_singleton, hal], ?_⟩⟩⟩
          · rw [hal, sizeLine_eq]
            omega
          · rw [noR_upd, List.range_succ, List.map_append]
            rw [← hm] at dv
            exact datAll_append (dA.same (same_noR S6)) (.cons (dat_noR (S6 _ _ hA) dv (tall_noL _ _)) .nil)
        · rintro H5 ⟨S5, acc, hA, hal, dA⟩
          rw [List.length_map, hbl] at hal dA
          refine ⟨D2, acc, rfl, .inl ⟨SqL.of hA, fun a1 n1 => ⟨(by show 2 ≤ sizeLine; decide), fun a2 n2 => ?_⟩⟩⟩
          have u1 := same_new (o := HO.tup acc) n1
          have u2 := same_new (o := HO.tup [.str (if ns.length % 2 = 0 then "series" else "parallel"), .ref a1]) n2
          refine q _ _ ((((S4.trans S5).trans u1).trans u2)) ?_
          rw [tallD, if_neg e1, ← hc, ← hs]
          refine .tup upd_same (.cons (.str _ ?_) (.cons (.tup (u2 _ _ upd_same) (((dA.same noR_sub).same u1).same u2)) .nil))
          split <;> decide
theorem okl_tall {f : Addr} {fd : FuncData} (F : Fun K "_law_tall_order" "_law_tall_order" s_tall_order f fd) (bs : L2.Binds K fd ["_law_names_here"] []) (g : mg "_law_tall_order" = some (.ref f)) (T : Nm mg) : ∀ (k : Nat) (base : Heap), FnOk P w K mg base CX0 (1 + k) f fd ["_law_names_here"] (spTall k)
  | 0, _ => tl_body (sp := fun _ _ _ _ => False) 0 F bs g (fun _ => fn_none) T fun M e => by cases e
  | k + 1, _ => by
    have G := okl_tall F bs g T k
    rw [show 1 + k = k + 1 by omega] at G
    refine tl_body (k + 1) F bs g G T fun M e vs H Q E h => ?_
    obtain rfl : k = M := Nat.succ.inj e
    exact h
end
end K2
set_option maxRecDepth 100000
set_option maxHeartbeats 8000000
namespace K2
open PySem PySem.Spec PyProof.Rows L2
/-! ### the law's valid leaves: the parts -/
/-- one list behind the other, as data -/
theorem cat_dat {H : Hp} {v u : V} {as bs : List PyData} {Q : VK} (hv : Dat H v (.list as)) (hu : Dat H u (.list bs)) (hl : as.length + bs.length ≤ 1000) (q : ∀ (p : Addr) (H' : Hp), Same H H' → Dat H' (.ref p) (.list (as ++ bs)) → Q (.ref p) H') : rCat v u H Q := by
  cases hv with
  | @lst a xs _ ha hx =>
    cases hu with
    | @lst b ys _ hb hy =>
      refine ⟨a, b, xs, ys, rfl, rfl, ha, hb, by rw [hx.len, hy.len, sizeLine_eq]; omega, fun p np => q p _ (same_new np) (.lst upd_same ((datAll_append hx hy).same (same_new np)))⟩
def mvD (s j : Nat) : PyData := .tuple [.int (s : Nat), .str (sig j), .int (7 - (s : Nat))]
def movesD (n : Nat) : List PyData := (List.range n).flatMap fun s => (List.range 6).map (mvD s)
theorem movesD_len (n : Nat) : (movesD n).length = 6 * n := by
  induction n with
  | zero => rfl
  | succ n ih =>
    unfold movesD at ih ⊢
    have er : List.range (n + 1) = List.range n ++ [n] := List.range_succ
    rw [er, List.flatMap_append, List.length_append, ih, List.flatMap_singleton, List.length_map, List.length_range]
    omega
theorem mv_noL (s : Nat) (l : List Nat) : noLs (l.map (mvD s)) = true := noLs_iff.mpr fun d hd => by
  obtain ⟨j, _, rfl⟩ := List.mem_map.mp hd
  rfl
def af6 : Str := "abcdef"
theorem af6_get : ∀ i : Fin 6, af6.cps[i.val]? = some (97 + i.val) := by decide +kernel
theorem af6_size : af6.cps.size = 6 := by decide +kernel
def wordD : List PyData := (List.range 6).map fun j => .tuple [.str (sig j), .int 66]
def permD : List PyData := (List.range 60).map intD
def validD : List PyData :=
  [.tuple [.str "subset", .int 400, .int 400], .tuple [.str "subset", .int 0, .int 0], .tuple [.str "word", .tuple [.tuple [.str "a", .int 400]]], .tuple [.str "cycle", .int 400], .tuple [.str "cycle", .int 1],
   .tuple [.str "word", .tuple wordD], .tuple [.str "tree", .int 1], .tuple [.str "tree", .int 400], .tuple [.str "matching", .int 0], .tuple [.str "matching", .int 200],
   .tuple [.str "walk", .int 60, .int (-60), .int 60, .int (-60), .int 60], .tuple [.str "walk", .int 0, .int 5, .int 5, .int 5, .int 5], .tuple [.str "permutation", .int 0, .tuple []], .tuple [.str "permutation", .int 60, .tuple permD],
   .tuple [.str "string", .tuple [.tuple [], .tuple []], .int 0], .tuple [.str "string", .tuple [.tuple (movesD 8), .tuple ((List.range 8).map intD)], .int 60], .tuple [.str "walk", .int 1, .int 0, .int 0, .int 0, .int 0],
   .tuple [.str "arrangement", tallD 5 (manyN 20)], .tuple [.str "arrangement", deepD 5], .tuple [.str "arrangement", .tuple [.str "item", .str "zzzzzz"]], .tuple [.str "walk", .int 60, .int 0, .int 60, .int (-60), .int 60],
   .tuple [.str "string", .tuple [.tuple [], .tuple [.int 7]], .int 60]]
theorem tall_ord : orderB 6 (tallD 5 (manyN 20)) = true := by decide +kernel
theorem tall_nam : namesN 6 (tallD 5 (manyN 20)) = manyN 20 := by decide +kernel
theorem many_nodup : (manyN 20).Nodup := by
  have z : ((manyN 20).map fun s => s.cps.toList.getD 0 0 * 1000 + s.cps.toList.getD 1 0).Nodup := by decide +kernel
  refine (List.pairwise_map.mp z).imp fun {x y} h e => h ?_
  rw [e]
theorem tall_leaf : leafB (.tuple [.str "arrangement", tallD 5 (manyN 20)]) = true := leaf_arr tall_ord tall_nam (by rw [many_len]; decide) many_nodup
theorem valid_leaf : ∀ d ∈ validD, leafB d = true := by
  have z : ∀ d ∈ validD.take 17 ++ validD.drop 18, leafB d = true := by decide +kernel
  have e : validD = validD.take 17 ++ (.tuple [.str "arrangement", tallD 5 (manyN 20)]) :: validD.drop 18 := rfl
  intro d hd
  rw [e] at hd
  rcases List.mem_append.mp hd with h | h
  · exact z d (List.mem_append.mpr (.inl h))
  · rcases List.mem_cons.mp h with h | h
    · rw [h]
      exact tall_leaf
    · exact z d (List.mem_append.mpr (.inr h))
mutual
def intB : PyData → Bool
  | .int i => decide (i.natAbs < 10 ^ 4300)
  | .list l => intBs l
  | .tuple l => intBs l
  | .none => true
  | .bool _ => true
  | .str _ => true
  | .dict _ => true
def intBs : List PyData → Bool
  | [] => true
  | d :: ds => intB d && intBs ds
end
mutual
theorem intB_ok : ∀ d : PyData, intB d = true → okInt d
  | .int i, h => by
    rw [intB] at h
    rw [okInt]
    exact of_decide_eq_true h
  | .list l, h => by
    rw [intB] at h
    rw [okInt]
    exact intBs_ok l h
  | .tuple l, h => by
    rw [intB] at h
    rw [okInt]
    exact intBs_ok l h
  | .none, _ => by simp [okInt]
  | .bool _, _ => by simp [okInt]
  | .str _, _ => by simp [okInt]
  | .dict _, _ => by simp [okInt]
theorem intBs_ok : ∀ l : List PyData, intBs l = true → okInts l
  | [], _ => by simp [okInts]
  | d :: ds, h => by
    rw [intBs, Bool.and_eq_true] at h
    rw [okInts]
    exact ⟨intB_ok d h.1, intBs_ok ds h.2⟩
end
/-- what the makers' fixed values are, by evaluation: their leaves are no longer than B signs -/
def chkB (B : Nat) (d : PyData) : Bool := leafD d && (intB d && (decide (d.depth ≤ 60) && (decide (nodes d ≤ 2400) && (d.leavesShort B && decide ((B + 2) * d.bulk + B ≤ 16777216)))))
theorem chk_ok {B : Nat} (hB : 8 ≤ B) {d : PyData} (h : chkB B d = true) : Ok d := by
  unfold chkB at h
  rw [Bool.and_eq_true, Bool.and_eq_true, Bool.and_eq_true, Bool.and_eq_true, Bool.and_eq_true] at h
  obtain ⟨h1, h2, h3, h4, h5, h6⟩ := h
  refine ⟨h1, intB_ok d h2, of_decide_eq_true h3, of_decide_eq_true h4, ?_⟩
  have z := PyData.shown_le_bulk B hB d h5
  have y := of_decide_eq_true h6
  rw [sizeLine_eq]
  omega
theorem valid_ok : ∀ d ∈ validD, Ok d := fun d hd => by
  have z : ∀ d ∈ validD, chkB 60 d = true := by decide +kernel
  exact chk_ok (by decide) (z d hd)
end K2
set_option maxRecDepth 100000
set_option maxHeartbeats 8000000
namespace K2
open PySem PySem.Spec PyProof.Rows L2
/-! ### the law's valid leaves -/
abbrev s_valid : Stmt := top 100
def spValid : Sp := fun vs H Q _ => vs = [] ∧ ∀ (v : V) (H' : Hp), Same H H' → Dat H' v (.list validD) → Q v H'
section
variable {P : Program} {w : World} {K : PySem.W.Frag} {mg : Str → Option Value} {base : Heap}
theorem sc_valid : FnScope ["_law_names_here", "_law_moves", "_law_state", "_law_found", "_law_letter"] [] (defScope s_valid) := ⟨rfl, rfl, rfl, by decide +kernel, rfl, by decide +kernel, by decide +kernel⟩
theorem okl_valid {f fM fT fD : Addr} {fd fdM fdT fdD : FuncData} (F : Fun K "_law_valid" "_law_valid" s_valid f fd) (T : Nm mg) (D_many : DefOk K mg "_law_many_names" s_many_names [] fM fdM) (D_tall : DefOk K mg "_law_tall_order" s_tall_order ["_law_names_here"] fT fdT)
    (D_deep : DefOk K mg "_law_deep_order" s_deep_order ["_law_depth"] fD fdD) : FnOk P w K mg base CX0 6 f fd [] spValid := by
  have G_many : FnOk P w K mg base CX0 1 fM fdM [] spMany := okl_many D_many.F
  have G_tall : FnOk P w K mg base CX0 5 fT fdT ["_law_names_here"] (spTall 4) := okl_tall D_tall.F D_tall.b D_tall.g T 4 base
  have G_deep : FnOk P w K mg base CX0 1 fD fdD ["_law_depth"] spDeep := okl_deep D_deep.F T
  refine F.ok sc_valid (fun vs H Q E h => ?_) (fun cdv A outer s H vs Q E hr h => ?_)
  · obtain ⟨rfl, _⟩ := h
    rfl
  · obtain ⟨rfl, q⟩ := h
    have hr1 : Room 1 _ := hr.mono (by decide)
    refine ⟨_, (pss_cons (ps_par (i := 0) (j := 1) rfl sc_valid.nd rfl rfl (by decide) rfl rfl (pa_cons (pe_call0 G_many hr1 rfl D_many.g D_many.F.kp D_many.b .nil pass0) (pa_cons (pe_lst pa_nil) pa_nil)) (by rfl))
      (pss_cons (ps_for PassesOwn.never rfl (pi_range1 rfl T.range (pa_cons pe_int pa_nil)) (pg_name (i := 2) sc_valid.nd rfl (Or.inr rfl))
        (pss_one (ps_expr (pe_bm PySem.F.plainAttrs_list PySem.F.slot_list_extend PySem.F.type_list_extend mt_extend (pv 1) (pa_cons (pe_lc (own := [("_law_letter", 4)]) (g := (gName 4)) (tt := tYes) rfl sc_valid.nd (pi_str pe_str) (blkOk_by (N := ["_law_names_here", "_law_moves", "_law_state", "_law_found", "_law_letter"]) (sc := defScope s_valid) (by decide +kernel))
          (fun _ _ _ _ _ => (pg_name (i := 4) sc_valid.nd rfl (Or.inl rfl))) (fun _ _ _ _ _ => pts_nil) (fun _ _ _ _ _ => (pe_tup (pa_cons (pv 2) (pa_cons (pv 4) (pa_cons (pe_op op_sub pe_int (pv 2)) pa_nil)))))) pa_nil)))))
      (pss_cons (ps_set (i := 3) sc_valid.nd rfl (Or.inl rfl) (pd_lst (by decide) (pd_cons (pd_tup (by decide) (pd_cons (pd_str (by decide) pe_str) (pd_cons (pd_int pe_int) (pd_cons (pd_int pe_int) pd_nil)))) (pd_cons (pd_tup (by decide) (pd_cons (pd_str (by decide) pe_str) (pd_cons (pd_int pe_int) (pd_cons (pd_int pe_int) pd_nil)))) (pd_cons (pd_tup (by decide) (pd_cons (pd_str (by decide) pe_str) (pd_cons (pd_tup (by decide) (pd_cons (pd_tup (by decide) (pd_cons (pd_str (by decide) pe_str) (pd_cons (pd_int pe_int) pd_nil))) pd_nil)) pd_nil))) (pd_cons (pd_tup (by decide) (pd_cons (pd_str (by decide) pe_str) (pd_cons (pd_int pe_int) pd_nil))) (pd_cons (pd_tup (by decide) (pd_cons (pd_str (by decide) pe_str) (pd_cons (pd_int pe_int) pd_nil))) pd_nil)))))))
      (pss_cons (ps_set (i := 3) sc_valid.nd rfl (Or.inl rfl) (pe_op op_cat (pv 3) (pe_lst (pa_cons (pe_tup (pa_cons pe_str (pa_cons (pe_callTy call_tuple_of (by rfl) T.tuple (by decide +kernel) (pa_cons (pe_lc (own := [("_law_letter", 4)]) (g := (gName 4)) (tt := tYes) rfl sc_valid.nd (pi_str pe_str) (blkOk_by (N := ["_law_names_here", "_law_moves", "_law_state", "_law_found", "_law_letter"]) (sc := defScope s_valid) (by decide +kernel))
          (fun _ _ _ _ _ => (pg_name (i := 4) sc_valid.nd rfl (Or.inl rfl))) (fun _ _ _ _ _ => pts_nil) (fun _ _ _ _ _ => (pe_tup (pa_cons (pv 4) (pa_cons pe_int pa_nil))))) pa_nil)) pa_nil))) (pa_cons (pd_tup (by decide) (pd_cons (pd_str (by decide) pe_str) (pd_cons (pd_int pe_int) pd_nil))) (pa_cons (pd_tup (by decide) (pd_cons (pd_str (by decide) pe_str) (pd_cons (pd_int pe_int) pd_nil))) pa_nil))))))
      (pss_cons (ps_set (i := 3) sc_valid.nd rfl (Or.inl rfl) (pe_op op_cat (pv 3) (pd_lst (by decide) (pd_cons (pd_tup (by decide) (pd_cons (pd_str (by decide) pe_str) (pd_cons (pd_int pe_int) pd_nil))) (pd_cons (pd_tup (by decide) (pd_cons (pd_str (by decide) pe_str) (pd_cons (pd_int pe_int) pd_nil))) (pd_cons (pd_tup (by decide) (pd_cons (pd_str (by decide) pe_str) (pd_cons (pd_int pe_int) (pd_cons (pd_neg pe_int) (pd_cons (pd_int pe_int) (pd_cons (pd_neg pe_int) (pd_cons (pd_int pe_int) pd_nil))))))) (pd_cons (pd_tup (by decide) (pd_cons (pd_str (by decide) pe_str) (pd_cons (pd_int pe_int) (pd_cons (pd_int pe_int) (pd_cons (pd_int pe_int) (pd_cons (pd_int pe_int) (pd_cons (pd_int pe_int) pd_nil))))))) pd_nil)))))))
      (pss_cons (ps_set (i := 3) sc_valid.nd rfl (Or.inl rfl) (pe_op op_cat (pv 3) (pe_lst (pa_cons (pd_tup (by decide) (pd_cons (pd_str (by decide) pe_str) (pd_cons (pd_int pe_int) (pd_cons (pd_tup (by decide) pd_nil) pd_nil)))) (pa_cons (pe_tup (pa_cons pe_str (pa_cons pe_int (pa_cons (pe_tupRg rfl (by rfl) T.tuple (prg_1 (by rfl) T.range pe_int)) pa_nil)))) (pa_cons (pd_tup (by decide) (pd_cons (pd_str (by decide) pe_str) (pd_cons (pd_tup (by decide) (pd_cons (pd_tup (by decide) pd_nil) (pd_cons (pd_tup (by decide) pd_nil) pd_nil))) (pd_cons (pd_int pe_int) pd_nil)))) pa_nil))))))
      (pss_cons (ps_set (i := 3) sc_valid.nd rfl (Or.inl rfl) (pe_op op_cat (pv 3) (pe_lst (pa_cons (pe_tup (pa_cons pe_str (pa_cons (pe_tup (pa_cons (pe_callTy call_tuple_of (by rfl) T.tuple (by decide +kernel) (pa_cons (pv 1) pa_nil)) (pa_cons (pe_tupRg rfl (by rfl) T.tuple (prg_1 (by rfl) T.range pe_int)) pa_nil))) (pa_cons pe_int pa_nil)))) (pa_cons (pd_tup (by decide) (pd_cons (pd_str (by decide) pe_str) (pd_cons (pd_int pe_int) (pd_cons (pd_int pe_int) (pd_cons (pd_int pe_int) (pd_cons (pd_int pe_int) (pd_cons (pd_int pe_int) pd_nil))))))) pa_nil)))))
      (pss_cons (ps_set (i := 3) sc_valid.nd rfl (Or.inl rfl) (pe_op op_cat (pv 3) (pe_lst (pa_cons (pe_tup (pa_cons pe_str (pa_cons (pe_call G_tall hr rfl D_tall.g D_tall.F.kp D_tall.b .nil pass0 (pa_cons (pv 0) pa_nil)) pa_nil))) (pa_cons (pe_tup (pa_cons pe_str (pa_cons (pe_call G_deep hr1 rfl D_deep.g D_deep.F.kp D_deep.b .nil pass0 (pa_cons pe_int pa_nil)) pa_nil))) pa_nil)))))
      (pss_one (ps_ret (pe_op op_cat (pv 3) (pd_lst (by decide) (pd_cons (pd_tup (by decide) (pd_cons (pd_str (by decide) pe_str) (pd_cons (pd_tup (by decide) (pd_cons (pd_str (by decide) pe_str) (pd_cons (pd_str (by decide) pe_str) pd_nil))) pd_nil))) (pd_cons (pd_tup (by decide) (pd_cons (pd_str (by decide) pe_str) (pd_cons (pd_int pe_int) (pd_cons (pd_int pe_int) (pd_cons (pd_int pe_int) (pd_cons (pd_neg pe_int) (pd_cons (pd_int pe_int) pd_nil))))))) (pd_cons (pd_tup (by decide) (pd_cons (pd_str (by decide) pe_str) (pd_cons (pd_tup (by decide) (pd_cons (pd_tup (by decide) pd_nil) (pd_cons (pd_tup (by decide) (pd_cons (pd_int pe_int) pd_nil)) pd_nil))) (pd_cons (pd_int pe_int) pd_nil)))) pd_nil))))))))))))))), ?_⟩
    refine ⟨rfl, fun t H1 S1 nt ht => ⟨(by show 0 ≤ sizeLine; decide), fun r nr => ⟨_, _, rfl, ?_⟩⟩⟩
    have Sr := same_new (o := HO.lst []) nr
    have S1r := S1.trans Sr
    refine ⟨8, rfl, by decide, by decide, for_range (n := 8) (fun s σ Hx => ∃ (x2 x4 : Option V) (items : List V), σ = [some (.ref t), some (.ref r), x2, none, x4] ∧ Same H1 Hx ∧ Hx r = some (.lst items) ∧ DatAll (noR r Hx) items (movesD s))
      ⟨none, none, [], rfl, Sr, upd_same, .nil⟩ ?_ ?_⟩
    · rintro s σ H2 hs ⟨x2, x4, items, rfl, S2, hr2, dI⟩
      rw [Int.zero_add]
      refine ⟨_, rfl, .inl ⟨rfl, _, SqL.of hr2⟩, af6, rfl, fun L nL => lc_it (walk_str (z := af6)) (fun j Hx => Same H2 Hx ∧ ∃ acc : List V, Hx L = some (.lst acc) ∧ acc.length = j ∧ DatAll (noR L Hx) acc ((List.range j).map (mvD s))) ⟨same_new nL, [], upd_same, rfl, .nil⟩ (fun _ _ _ _ => trivial) ?_ ?_⟩
      · rintro j y Hxo Hx hj ⟨S3, acc, hL, hal, dA⟩ ⟨rfl, c2, hc2, rfl⟩
        have hj6 : j < 6 := by rw [← af6_size]; exact hj
        have ec2 : 97 + j = c2 := Option.some.inj ((af6_get ⟨j, hj6⟩).symm.trans hc2)
        subst ec2
        refine ⟨rfl, _, rfl, _, rfl, _, rfl, _, _, rfl, rfl, (by show 3 ≤ sizeLine; decide), fun a na => ?_⟩
        have u := same_new (o := HO.tup [.int ((s : Nat) : Int), .str (sig j), .int (7 - ((s : Nat) : Int))]) na
        have aL : a ≠ L := fun z => by
          rw [z, hL] at na
          cases na
        refine ⟨acc, u _ _ hL, by rw [hal, sizeLine_eq]; omega, grow nL (S3.trans u), acc ++ [.ref a], upd_same, by rw [List.length_append, List.length_singleton, hal], ?_⟩
        rw [noR_upd, List.range_succ, List.map_append]
        refine datAll_append (dA.same (same_noR u)) (.cons (.tup (noR_at upd_same aL) (.cons (.int _) (.cons (.str _ ?_) (.cons (.int _) .nil)))) .nil)
        show 1 ≤ 1000
        decide
      · rintro H3 ⟨S3, acc, hL, hal, dA⟩
        rw [af6_size] at hal dA
        have hr3 := S3 _ _ hr2
        have il : items.length = 6 * s := by rw [dI.len, movesD_len]
        refine ⟨r, L, items, acc, rfl, rfl, hr3, hL, by rw [il, hal, sizeLine_eq]; omega, _, _, _, rfl, ?_, upd_same, ?_⟩
        · intro b o e
          have br : b ≠ r := fun z => by
            rw [z, nr] at e
            cases e
          rw [upd_ne br]
          exact S3 _ _ (S2 b o e)
        · rw [noR_upd]
          have er : movesD (s + 1) = movesD s ++ (List.range 6).map (mvD s) := by
            unfold movesD
            have e1 : List.range (s + 1) = List.range s ++ [s] := List.range_succ
            rw [e1, List.flatMap_append, List.flatMap_singleton]
          rw [er]
          exact datAll_append (dI.same (same_noR S3)) (datAll_noR hr3 (dA.same noR_sub) (mv_noL s _))
    · rintro σ H2 ⟨x2, x4, items, rfl, S2, hr2, dI⟩
      have r60 : ∀ (G : Hp) (n : Nat), DatAll G (rgV 0 (n : Nat)) ((List.range n).map intD) := fun G n => by
        unfold rgV
        rw [show (((n : Nat) : Int) - 0).toNat = n by omega]
        induction n with
        | zero => exact .nil
        | succ n ih =>
          rw [List.range_succ, List.map_append, List.map_append]
          refine datAll_append ih (.cons ?_ .nil)
          show Dat G (.int (0 + ((n : Nat) : Int))) (intD n)
          rw [Int.zero_add]
          exact .int _
      refine fun f0 H3 S3 d3 => ?_
      -- a word of six letters
      refine ⟨_, rfl, af6, rfl, fun L nL => lc_it (walk_str (z := af6)) (fun j Hx => Same H3 Hx ∧ ∃ acc : List V, Hx L = some (.lst acc) ∧ acc.length = j ∧ DatAll (noR L Hx) acc ((List.range j).map fun j => .tuple [.str (sig j), .int 66])) ⟨same_new nL, [], upd_same, rfl, .nil⟩ (fun _ _ _ _ => trivial) ?_ ?_⟩
      · rintro j y Hxo Hx hj ⟨S4, acc, hL, hal, dA⟩ ⟨rfl, c2, hc2, rfl⟩
        have hj6 : j < 6 := by rw [← af6_size]; exact hj
        have ec2 : 97 + j = c2 := Option.some.inj ((af6_get ⟨j, hj6⟩).symm.trans hc2)
        subst ec2
        refine ⟨rfl, _, rfl, (by show 2 ≤ sizeLine; decide), fun a na => ?_⟩
        have u := same_new (o := HO.tup [.str (sig j), .int 66]) na
        have aL : a ≠ L := fun z => by
          rw [z, hL] at na
          cases na
        refine ⟨acc, u _ _ hL, by rw [hal, sizeLine_eq]; omega, grow nL (S4.trans u), acc ++ [.ref a], upd_same, by rw [List.length_append, List.length_singleton, hal], ?_⟩
        rw [noR_upd, List.range_succ, List.map_append]
        refine datAll_append (dA.same (same_noR u)) (.cons (.tup (noR_at upd_same aL) (.cons (.str _ ?_) (.cons (.int _) .nil))) .nil)
        show 1 ≤ 1000
        decide
      rintro H4 ⟨S4, acc, hL, hal, dA⟩
      rw [af6_size] at hal dA
      have dA4 := dA.same (noR_sub (r := L) (H := H4))
      refine ⟨L, acc, rfl, .inl ⟨SqL.of hL, fun a1 n1 => ⟨(by show 2 ≤ sizeLine; decide), fun a2 n2 => ?_⟩⟩⟩
      have u1 := same_new (o := HO.tup acc) n1
      have u2 := same_new (o := HO.tup [.str "word", .ref a1]) n2
      have dw := Dat.tup (upd_same (H := upd H4 a1 (.tup acc)) (a := a2) (o := .tup [.str "word", .ref a1])) (.cons (.str "word" (by decide)) (.cons (.tup (u2 _ _ upd_same) ((dA4.same u1).same u2)) .nil))
      have S4b := (S4.trans u1).trans u2
      generalize upd (upd H4 a1 (.tup acc)) a2 (.tup [.str "word", .ref a1]) = H5 at dw S4b ⊢
      refine fun v5 H6 S6 d6 v7 H7 S7 d7 => ⟨(by show 3 ≤ sizeLine; decide), fun l1 nl1 => ?_⟩
      have u3 := same_new (o := HO.lst [.ref a2, v5, v7]) nl1
      have S37 := ((S4b.trans S6).trans S7).trans u3
      refine cat_dat (d3.same S37) (.lst upd_same (.cons (((dw.same S6).same S7).same u3) (.cons ((d6.same S7).same u3) (.cons (d7.same u3) .nil)))) (by decide) fun p1 H8 S8 d8 => ?_
      have T8 := S37.trans S8
      -- plain ones
      refine ⟨_, rfl, fun u9 H9 S9 d9 => cat_dat (d8.same S9) d9 (by decide) fun p2 H10 S10 d10 => ?_⟩
      have T10 := (T8.trans S9).trans S10
      -- a whole permutation
      refine ⟨_, rfl, fun v11 H11 S11 d11 => ⟨60, rfl, ⟨by decide, by decide, by decide, by decide, by decide⟩, fun a3 n3 => ⟨(by show 3 ≤ sizeLine; decide), fun a4 n4 => ?_⟩⟩⟩
      have u4 := same_new (o := HO.tup (rgV 0 60)) n3
      have u5 := same_new (o := HO.tup [.str "permutation", .int 60, .ref a3]) n4
      have dp := Dat.tup (upd_same (H := upd H11 a3 (.tup (rgV 0 60))) (a := a4) (o := .tup [.str "permutation", .int 60, .ref a3])) (.cons (.str "permutation" (by decide)) (.cons (.int 60) (.cons (.tup (u5 _ _ upd_same) (r60 _ 60)) .nil)))
      have S12 := u4.trans u5
      generalize upd (upd H11 a3 (.tup (rgV 0 60))) a4 (.tup [.str "permutation", .int 60, .ref a3]) = H12 at dp S12 ⊢
      refine fun v13 H13 S13 d13 => ⟨(by show 3 ≤ sizeLine; decide), fun l2 nl2 => ?_⟩
      have u6 := same_new (o := HO.lst [v11, .ref a4, v13]) nl2
      have S14 := (S12.trans S13).trans u6
      refine cat_dat (d10.same (S11.trans S14)) (.lst upd_same (.cons (d11.same S14) (.cons ((dp.same S13).same u6) (.cons (d13.same u6) .nil)))) (by decide) fun p3 H15 S15 d15 => ?_
      have T15 := (T10.trans (S11.trans S14)).trans S15
      -- a whole automaton
      have hr15 := (S3.trans T15) _ _ hr2
      have dI15 := (dI.same noR_sub).same (S3.trans T15)
      refine ⟨_, rfl, _, rfl, r, items, rfl, .inl ⟨SqL.of hr15, fun a5 n5 => ⟨8, rfl, ⟨by decide, by decide, by decide, by decide, by decide⟩, fun a6 n6 => ⟨(by show 2 ≤ sizeLine; decide), fun a7 n7 => ⟨(by show 3 ≤ sizeLine; decide), fun a8 n8 => ?_⟩⟩⟩⟩⟩
      have w5 := same_new (o := HO.tup items) n5
      have w6 := same_new (o := HO.tup (rgV 0 8)) n6
      have w7 := same_new (o := HO.tup [.ref a5, .ref a6]) n7
      have w8 := same_new (o := HO.tup [.str "string", .ref a7, .int 60]) n8
      have ds := Dat.tup (upd_same (H := upd (upd (upd H15 a5 (.tup items)) a6 (.tup (rgV 0 8))) a7 (.tup [.ref a5, .ref a6])) (a := a8) (o := .tup [.str "string", .ref a7, .int 60])) (.cons (.str "string" (by decide)) (.cons (.tup (w8 _ _ upd_same) (.cons (.tup (w8 _ _ (w7 _ _ (w6 _ _ upd_same))) ((((dI15.same w5).same w6).same w7).same w8)) (.cons (.tup (w8 _ _ (w7 _ _ upd_same)) (r60 _ 8)) .nil))) (.cons (.int 60) .nil)))
      have S16 := ((w5.trans w6).trans w7).trans w8
      generalize upd (upd (upd (upd H15 a5 (.tup items)) a6 (.tup (rgV 0 8))) a7 (.tup [.ref a5, .ref a6])) a8 (.tup [.str "string", .ref a7, .int 60]) = H16 at ds S16 ⊢
      refine fun v17 H17 S17 d17 => ⟨(by show 2 ≤ sizeLine; decide), fun l3 nl3 => ?_⟩
      have u7 := same_new (o := HO.lst [.ref a8, v17]) nl3
      refine cat_dat (d15.same ((S16.trans S17).trans u7)) (.lst upd_same (.cons ((ds.same S17).same u7) (.cons (d17.same u7) .nil))) (by decide) fun p4 H18 S18 d18 => ?_
      have T18 := T15.trans (((S16.trans S17).trans u7).trans S18)
      -- orders
      have ht18 := ((S2.trans S3).trans T18) _ _ ht
      refine ⟨_, rfl, _, rfl, t, manyN 20, rfl, ht18, by rw [many_len]; decide, by rw [many_len]; decide, by rw [many_len]; decide, ?_, fun v19 H19 S19 d19 => ⟨(by show 2 ≤ sizeLine; decide), fun a9 n9 => ?_⟩⟩
      · have z : ∀ x ∈ manyN 20, x.length ≤ 1000 := by decide +kernel
        exact z
      have w9 := same_new (o := HO.tup [.str "arrangement", v19]) n9
      have da := Dat.tup (upd_same (H := H19) (a := a9) (o := .tup [.str "arrangement", v19])) (.cons (.str "arrangement" (by decide)) (.cons (d19.same w9) .nil))
      generalize upd H19 a9 (.tup [.str "arrangement", v19]) = H20 at w9 da ⊢
      refine ⟨5, rfl, by decide, fun v21 H21 S21 d21 => ⟨(by show 2 ≤ sizeLine; decide), fun a10 n10 => ⟨(by show 2 ≤ sizeLine; decide), fun l4 nl4 => ?_⟩⟩⟩
      have w10 := same_new (o := HO.tup [.str "arrangement", v21]) n10
      have w11 := same_new (o := HO.lst [.ref a9, .ref a10]) nl4
      have db := Dat.tup (upd_same (H := H21) (a := a10) (o := .tup [.str "arrangement", v21])) (.cons (.str "arrangement" (by decide)) (.cons (d21.same w10) .nil))
      have S22 := (S21.trans w10).trans w11
      refine cat_dat (d18.same ((S19.trans w9).trans S22)) (.lst upd_same (.cons (da.same S22) (.cons (db.same w11) .nil))) (by decide) fun p5 H23 S23 d23 => ?_
      have T23 := T18.trans (((S19.trans w9).trans S22).trans S23)
      refine ⟨_, rfl, fun u24 H24 S24 d24 => cat_dat (d23.same S24) d24 (by decide) fun p6 H25 S25 d25 => ?_⟩
      exact q _ _ (((((S1.trans S2).trans S3).trans T23).trans S24).trans S25) d25
end
end K2
set_option maxRecDepth 100000
set_option maxHeartbeats 8000000
namespace K2
open PySem PySem.Spec PyProof.Rows L2
/-! ### the law's invalid values -/
def bigD : Int := 10 ^ 3999
def iv0 : List PyData := [.tuple [.str "subset", .int 401, .int 0], .tuple [.str "subset", .int 2, .int 3], .tuple [.str "subset", .int 2, .int (-1)], .tuple [.str "subset", .int 2, .bool true], .tuple [.str "subset", .int 2], .tuple [.str "subset"]]
def iv1 : List PyData := [.list [.str "subset", .int 2, .int 1], .tuple [.str "word", .tuple []], .tuple [.str "word", .tuple [.tuple [.str "a", .int 401]]], .tuple [.str "word", .tuple [.tuple [.str "a", .int 200], .tuple [.str "b", .int 201]]]]
def iv2 : List PyData := [.tuple [.str "word", .tuple ((List.range 7).map fun j => .tuple [.str (sig j), .int 1])], .tuple [.str "word", .tuple [.tuple [.str "b", .int 1], .tuple [.str "a", .int 1]]]]
def iv3 : List PyData := [.tuple [.str "word", .tuple [.tuple [.str "a", .int 1], .tuple [.str "a", .int 2]]], .tuple [.str "word", .tuple [.tuple [.str "a", .int 0]]], .tuple [.str "word", .tuple [.tuple [.str "A", .int 1]]], .tuple [.str "word", .list [.tuple [.str "a", .int 1]]]]
def iv4 : List PyData := [.tuple [.str "word", .tuple [.tuple [.str "abcdefg", .int 1]]], .tuple [.str "word", .tuple [.tuple [.str "", .int 1]]], .tuple [.str "cycle", .int 0], .tuple [.str "cycle", .int 401], .tuple [.str "tree", .int 0]]
def iv5 : List PyData := [.tuple [.str "tree", .int 401], .tuple [.str "matching", .int (-1)], .tuple [.str "matching", .int 201], .tuple [.str "walk", .int 61, .int 0, .int 0, .int 0, .int 0], .tuple [.str "cycle", .bool true]]
def iv6 : List PyData := [.tuple [.str "walk", .int 1, .int 0, .int 0, .int (-61), .int 0], .tuple [.str "walk", .int 1, .int 0, .int 0, .int 0, .int 61], .tuple [.str "walk", .int 1, .int 2, .int 0, .int 0, .int 1], .tuple [.str "walk", .int 1, .int 0, .int 1]]
def iv7 : List PyData := [.tuple [.str "walk", .int 1, .int 0, .int 0, .int 1, .int 0], .tuple [.str "walk", .int 1, .int 0, .int (-1), .int 0, .int 1], .tuple [.str "permutation", .int 61, .tuple []], .tuple [.str "permutation", .int 3]]
def iv8 : List PyData := [.tuple [.str "permutation", .int 3, .tuple [.int 2, .int 1]], .tuple [.str "permutation", .int 3, .tuple [.int 3]], .tuple [.str "permutation", .int 3, .tuple [.int 1, .int 1]], .tuple [.str "cycle", .str "3"]]
def iv9 : List PyData := [.tuple [.str "permutation", .int 3, .list [.int 1]], .tuple [.str "string", .tuple [.tuple [.tuple [.int 0, .str "a", .int 8]], .tuple [.int 0]], .int 1], .tuple [.str "string", .tuple [.tuple [], .tuple [.int 8]], .int 1]]
def iv10 : List PyData := [.tuple [.str "string", .tuple [.tuple [.tuple [.int 0, .str "a", .int 0], .tuple [.int 0, .str "a", .int 1]], .tuple [.int 0]], .int 1], .tuple [.str "string", .tuple [.tuple [], .tuple [.int 1, .int 0]], .int 1]]
def iv11 : List PyData := [.tuple [.str "string", .tuple [.tuple [.tuple [.int 0, .str "b", .int 0], .tuple [.int 0, .str "a", .int 0]], .tuple []], .int 1], .tuple [.str "string", .tuple [.tuple [], .tuple []], .int 61], .tuple [.str "string", .tuple [.tuple []], .int 1]]
def iv12 : List PyData := [.tuple [.str "string", .tuple [.tuple ((List.range 7).map fun j => .tuple [.int 0, .str (sig j), .int 0]), .tuple [.int 0]], .int 1], .tuple [.str "string", .tuple [.tuple [], .tuple []]]]
def iv13 : List PyData := [.tuple [.str "arrangement", .tuple [.str "series", .tuple [.tuple [.str "item", .str "a"]]]], .tuple [.str "arrangement", .tuple [.str "item", .str "aaaaaaa"]]]
def iv14 : List PyData := [.tuple [.str "arrangement", tallD 5 (manyN 20 ++ [("zz" : Str)])]]
def iv15 : List PyData := [.tuple [.str "arrangement", .tuple [.str "parallel", .tuple [.tuple [.str "item", .str "series"], .tuple [.str "item", .str "series"]]]]]
def iv16 : List PyData := [.tuple [.str "arrangement", .tuple [.str "parallel", .tuple ((List.range 7).map fun j => .tuple [.str "item", .str (sig j)])]]]
def iv17 : List PyData := [.tuple [.str "arrangement", .tuple [.str "series", .tuple [.tuple [.str "item", .str "a"], .tuple [.str "item", .str "a"]]]], .tuple [.str "arrangement", deepD 6]]
def iv18 : List PyData := [.tuple [.str "subset", .int bigD, .int 2], .tuple [.str "walk", .int bigD, .int 0, .int 0, .int 0, .int 1], .tuple [.str "tree", .int bigD]]
def iv19 : List PyData := [.tuple [.str "word", .tuple [.tuple [.str "a", .int bigD]]], .tuple [.str "string", .tuple [.tuple [.tuple [.int 0, .str "a", .int bigD]], .tuple [.int 0]], .int 1]]
def iv20 : List PyData := [.none, .bool true, .int 0, .str "cycle 3", .tuple [], .list [], .dict [], .tuple [.tuple []], .tuple [.none, .int 3], .tuple [.list [.str "cycle"], .int 3], .tuple [.dict [], .int 3], .tuple [.str "cycles", .int 3]]
def invalidD : List PyData := ((((((((((((((((((((iv0 ++ iv1) ++ iv2) ++ iv3) ++ iv4) ++ iv5) ++ iv6) ++ iv7) ++ iv8) ++ iv9) ++ iv10) ++ iv11) ++ iv12) ++ iv13) ++ iv14) ++ iv15) ++ iv16) ++ iv17) ++ iv18) ++ iv19) ++ iv20)
mutual
def chrB : PyData → Bool
  | .str x => x.cps.toList.all fun c => decide (c < 128)
  | .list l => chrBs l
  | .tuple l => chrBs l
  | .dict kv => kv.isEmpty
  | .none => true
  | .bool _ => true
  | .int _ => true
def chrBs : List PyData → Bool
  | [] => true
  | d :: ds => chrB d && chrBs ds
end
mutual
theorem short_of : ∀ d : PyData, intB d = true → chrB d = true → d.leavesShort 4301 = true
  | .int i, h, _ => by
    rw [intB] at h
    have z := int_text_length_le10 (a := i) (k := 4300) (by decide) (of_decide_eq_true h)
    simp only [PyData.leavesShort]
    refine decide_eq_true ?_
    simp only [PyData.shown]
    rw [PySem.ofString_length]
    omega
  | .str x, _, h => by
    rw [chrB] at h
    simp only [PyData.leavesShort, List.all_eq_true, decide_eq_true_eq] at h ⊢
    intro c hc
    have := h c hc
    omega
  | .list l, h, g => by
    rw [intB] at h
    rw [chrB] at g
    simp only [PyData.leavesShort]
    exact shorts_of l h g
  | .tuple l, h, g => by
    rw [intB] at h
    rw [chrB] at g
    simp only [PyData.leavesShort]
    exact shorts_of l h g
  | .dict kv, _, g => by
    have e : kv = [] := by simpa [chrB] using g
    subst e
    simp [PyData.leavesShort, PyData.leavesShortKv]
  | .none, _, _ => by simp [PyData.leavesShort]
  | .bool _, _, _ => by simp [PyData.leavesShort]
theorem shorts_of : ∀ l : List PyData, intBs l = true → chrBs l = true → PyData.leavesShortAll 4301 l = true
  | [], _, _ => by simp [PyData.leavesShortAll]
  | d :: ds, h, g => by
    rw [intBs, Bool.and_eq_true] at h
    rw [chrBs, Bool.and_eq_true] at g
    simp only [PyData.leavesShortAll, Bool.and_eq_true]
    exact ⟨short_of d h.1 g.1, shorts_of ds h.2 g.2⟩
end
def bigB (d : PyData) : Bool := leafD d && (intB d && (decide (d.depth ≤ 60) && (decide (nodes d ≤ 2400) && (chrB d && decide (4303 * d.bulk + 4301 ≤ 16777216)))))
theorem big_ok {d : PyData} (h : bigB d = true) : Ok d := by
  unfold bigB at h
  rw [Bool.and_eq_true, Bool.and_eq_true, Bool.and_eq_true, Bool.and_eq_true, Bool.and_eq_true] at h
  obtain ⟨h1, h2, h3, h4, h5, h6⟩ := h
  refine ⟨h1, intB_ok d h2, of_decide_eq_true h3, of_decide_eq_true h4, ?_⟩
  have z := PyData.shown_le_bulk 4301 (by decide) d (short_of d h2 h5)
  have y := of_decide_eq_true h6
  rw [sizeLine_eq]
  omega
theorem iv0_ok : ∀ d ∈ iv0, leafB d = false ∧ Ok d := fun d hd => by
  have z : ∀ d ∈ iv0, leafB d = false ∧ chkB 60 d = true := by decide +kernel
  exact ⟨(z d hd).1, chk_ok (by decide) (z d hd).2⟩
theorem iv1_ok : ∀ d ∈ iv1, leafB d = false ∧ Ok d := fun d hd => by
  have z : ∀ d ∈ iv1, leafB d = false ∧ chkB 60 d = true := by decide +kernel
  exact ⟨(z d hd).1, chk_ok (by decide) (z d hd).2⟩
theorem iv2_ok : ∀ d ∈ iv2, leafB d = false ∧ Ok d := fun d hd => by
  have z : ∀ d ∈ iv2, leafB d = false ∧ chkB 60 d = true := by decide +kernel
  exact ⟨(z d hd).1, chk_ok (by decide) (z d hd).2⟩
theorem iv3_ok : ∀ d ∈ iv3, leafB d = false ∧ Ok d := fun d hd => by
  have z : ∀ d ∈ iv3, leafB d = false ∧ chkB 60 d = true := by decide +kernel
  exact ⟨(z d hd).1, chk_ok (by decide) (z d hd).2⟩
theorem iv4_ok : ∀ d ∈ iv4, leafB d = false ∧ Ok d := fun d hd => by
  have z : ∀ d ∈ iv4, leafB d = false ∧ chkB 60 d = true := by decide +kernel
  exact ⟨(z d hd).1, chk_ok (by decide) (z d hd).2⟩
theorem iv5_ok : ∀ d ∈ iv5, leafB d = false ∧ Ok d := fun d hd => by
  have z : ∀ d ∈ iv5, leafB d = false ∧ chkB 60 d = true := by decide +kernel
  exact ⟨(z d hd).1, chk_ok (by decide) (z d hd).2⟩
theorem iv6_ok : ∀ d ∈ iv6, leafB d = false ∧ Ok d := fun d hd => by
  have z : ∀ d ∈ iv6, leafB d = false ∧ chkB 60 d = true := by decide +kernel
  exact ⟨(z d hd).1, chk_ok (by decide) (z d hd).2⟩
theorem iv7_ok : ∀ d ∈ iv7, leafB d = false ∧ Ok d := fun d hd => by
  have z : ∀ d ∈ iv7, leafB d = false ∧ chkB 60 d = true := by decide +kernel
  exact ⟨(z d hd).1, chk_ok (by decide) (z d hd).2⟩
theorem iv8_ok : ∀ d ∈ iv8, leafB d = false ∧ Ok d := fun d hd => by
  have z : ∀ d ∈ iv8, leafB d = false ∧ chkB 60 d = true := by decide +kernel
  exact ⟨(z d hd).1, chk_ok (by decide) (z d hd).2⟩
theorem iv9_ok : ∀ d ∈ iv9, leafB d = false ∧ Ok d := fun d hd => by
  have z : ∀ d ∈ iv9, leafB d = false ∧ chkB 60 d = true := by decide +kernel
  exact ⟨(z d hd).1, chk_ok (by decide) (z d hd).2⟩
theorem iv10_ok : ∀ d ∈ iv10, leafB d = false ∧ Ok d := fun d hd => by
  have z : ∀ d ∈ iv10, leafB d = false ∧ chkB 60 d = true := by decide +kernel
  exact ⟨(z d hd).1, chk_ok (by decide) (z d hd).2⟩
theorem iv11_ok : ∀ d ∈ iv11, leafB d = false ∧ Ok d := fun d hd => by
  have z : ∀ d ∈ iv11, leafB d = false ∧ chkB 60 d = true := by decide +kernel
  exact ⟨(z d hd).1, chk_ok (by decide) (z d hd).2⟩
theorem iv12_ok : ∀ d ∈ iv12, leafB d = false ∧ Ok d := fun d hd => by
  have z : ∀ d ∈ iv12, leafB d = false ∧ chkB 60 d = true := by decide +kernel
  exact ⟨(z d hd).1, chk_ok (by decide) (z d hd).2⟩
theorem iv13_ok : ∀ d ∈ iv13, leafB d = false ∧ Ok d := fun d hd => by
  have z : ∀ d ∈ iv13, leafB d = false ∧ chkB 60 d = true := by decide +kernel
  exact ⟨(z d hd).1, chk_ok (by decide) (z d hd).2⟩
theorem iv15_ok : ∀ d ∈ iv15, leafB d = false ∧ Ok d := fun d hd => by
  have z : ∀ d ∈ iv15, leafB d = false ∧ chkB 60 d = true := by decide +kernel
  exact ⟨(z d hd).1, chk_ok (by decide) (z d hd).2⟩
theorem iv16_ok : ∀ d ∈ iv16, leafB d = false ∧ Ok d := fun d hd => by
  have z : ∀ d ∈ iv16, leafB d = false ∧ chkB 60 d = true := by decide +kernel
  exact ⟨(z d hd).1, chk_ok (by decide) (z d hd).2⟩
theorem iv17_ok : ∀ d ∈ iv17, leafB d = false ∧ Ok d := fun d hd => by
  have z : ∀ d ∈ iv17, leafB d = false ∧ chkB 60 d = true := by decide +kernel
  exact ⟨(z d hd).1, chk_ok (by decide) (z d hd).2⟩
theorem iv18_ok : ∀ d ∈ iv18, leafB d = false ∧ Ok d := fun d hd => by
  have z : ∀ d ∈ iv18, leafB d = false ∧ bigB d = true := by decide +kernel
  exact ⟨(z d hd).1, big_ok (z d hd).2⟩
theorem iv19_ok : ∀ d ∈ iv19, leafB d = false ∧ Ok d := fun d hd => by
  have z : ∀ d ∈ iv19, leafB d = false ∧ bigB d = true := by decide +kernel
  exact ⟨(z d hd).1, big_ok (z d hd).2⟩
theorem iv20_ok : ∀ d ∈ iv20, leafB d = false ∧ Ok d := fun d hd => by
  have z : ∀ d ∈ iv20, leafB d = false ∧ chkB 60 d = true := by decide +kernel
  exact ⟨(z d hd).1, chk_ok (by decide) (z d hd).2⟩
theorem tall_401 : (namesN 6 (tallD 5 (manyN 20 ++ [("zz" : Str)]))).length = 401 := by decide +kernel
theorem iv14_ok : ∀ d ∈ iv14, leafB d = false ∧ Ok d := fun d hd => by
  obtain rfl : d = .tuple [.str "arrangement", tallD 5 (manyN 20 ++ [("zz" : Str)])] := List.mem_singleton.mp hd
  refine ⟨?_, chk_ok (B := 60) (by decide) (by decide +kernel)⟩
  rw [leaf_at (z := "arrangement") (m := 2) (p := pArr) (by rfl) (by decide +kernel)]
  show (true && (orderB 6 (tallD 5 (manyN 20 ++ [("zz" : Str)])) && (decide (((namesN 6 (tallD 5 (manyN 20 ++ [("zz" : Str)]))).length : Int) ≤ 400) && decide ((S2.cnt (namesN 6 (tallD 5 (manyN 20 ++ [("zz" : Str)]))) (namesN 6 (tallD 5 (manyN 20 ++ [("zz" : Str)]))).length : Int) = ((namesN 6 (tallD 5 (manyN 20 ++ [("zz" : Str)]))).length : Int))))) = false
  rw [tall_401, decide_eq_false (show ¬ ((401 : Nat) : Int) ≤ 400 by decide), Bool.false_and, Bool.and_false, Bool.and_false]
theorem invalid_ok : ∀ d ∈ invalidD, leafB d = false ∧ Ok d := by
  intro d hd
  unfold invalidD at hd
  simp only [List.mem_append, or_assoc] at hd
  rcases hd with h | h | h | h | h | h | h | h | h | h | h | h | h | h | h | h | h | h | h | h | h
  · exact iv0_ok d h
  · exact iv1_ok d h
  · exact iv2_ok d h
  · exact iv3_ok d h
  · exact iv4_ok d h
  · exact iv5_ok d h
  · exact iv6_ok d h
  · exact iv7_ok d h
  · exact iv8_ok d h
  · exact iv9_ok d h
  · exact iv10_ok d h
  · exact iv11_ok d h
  · exact iv12_ok d h
  · exact iv13_ok d h
  · exact iv14_ok d h
  · exact iv15_ok d h
  · exact iv16_ok d h
  · exact iv17_ok d h
  · exact iv18_ok d h
  · exact iv19_ok d h
  · exact iv20_ok d h
end K2
set_option maxRecDepth 100000
set_option maxHeartbeats 8000000
namespace K2
open PySem PySem.Spec PyProof.Rows L2
/-! ### the law's invalid -/
abbrev s_invalid : Stmt := top 101
def spInvalid : Sp := fun vs H Q _ => vs = [] ∧ ∀ (v : V) (H' : Hp), Same H H' → Dat H' v (.list invalidD) → Q v H'
theorem same_new_noR {H : Hp} {p : Addr} {o : HO} (n : H p = none) : Same H (noR p (upd H p o)) := fun b u e => by
  have bp : b ≠ p := fun z => by
    rw [z, n] at e
    cases e
  exact noR_at (by rw [upd_ne bp]; exact e) bp
theorem cat_nor {H : Hp} {v u : V} {as bs : List PyData} {Q : VK} (hv : Dat H v (.list as)) (hu : Dat H u (.list bs)) (hl : as.length + bs.length ≤ 1000) (q : ∀ (p : Addr) (H' : Hp) (xs : List V), Same H H' → H p = none → H' p = some (.lst xs) → DatAll (noR p H') xs (as ++ bs) → Q (.ref p) H') : rCat v u H Q := by
  cases hv with
  | @lst a xs _ ha hx =>
    cases hu with
    | @lst b ys _ hb hy =>
      refine ⟨a, b, xs, ys, rfl, rfl, ha, hb, by rw [hx.len, hy.len, sizeLine_eq]; omega, fun p np => q p _ _ (same_new np) np upd_same ((datAll_append hx hy).same (same_new_noR np))⟩
/-- over the signs of a text from 'a' on: a tuple for each -/
theorem lc_sig {z : Str} {n : Nat} {g : TG} {te : TE} {vs : List Nat} {σ : L2.St} {D : Addr} {H : Hp} {Qd : Hp → Prop} (E : Nat → PyData) (hz : z.cps.size = n) (hg : ∀ i, i < n → z.cps[i]? = some (97 + i)) (hn : n ≤ 1000) (nD : H D = none)
    (hs : ∀ (j : Nat) (Hx : Hp) (R : VK), j < n → (∀ a H', Same Hx H' → Hx a = none → Dat (noR D H') (.ref a) (E j) → R (.ref a) H') → Hx D ≠ none → g (.str (sig j)) (wipe σ vs) Hx fun σ2 H2 => wipe σ2 vs = wipe σ vs ∧ te σ2 H2 R)
    (mono : ∀ (x : V) (Hx : Hp) (A B : L2.St → Hp → Prop), (∀ σ2 H2, A σ2 H2 → B σ2 H2) → g x (wipe σ vs) Hx A → g x (wipe σ vs) Hx B)
    (hd : ∀ (Hx : Hp) (acc : List V), Same H Hx → Hx D = some (.lst acc) → DatAll Hx acc ((List.range n).map E) → Qd Hx) :
    ∃ W : Nat → Nat → Hp → Prop, (∃ m, W 0 m (upd H D (.lst []))) ∧ ∀ i m H, W i m H →
      ((Its z).stop i H ∧ Qd H) ∨ ((Its z).go i H ∧ ∃ Nx : Hp → Prop, (∀ H', Nx H' → ∃ m', m' < m ∧ W (i + 1) m' H') ∧ ∀ x H', (Its z).yld i H x H' → g x (wipe σ vs) H' fun σ2 H2 => wipe σ2 vs = wipe σ vs ∧ tYes σ2 H2 fun b H3 =>
        if b = true then te σ2 H3 fun y H4 => ∃ acc, H4 D = some (.lst acc) ∧ acc.length < sizeLine ∧ Nx (upd H4 D (.lst (acc ++ [y]))) else Nx H3) := by
  refine lc_it (walk_str (z := z)) (fun j Hx => Same H Hx ∧ ∃ acc : List V, Hx D = some (.lst acc) ∧ acc.length = j ∧ DatAll (noR D Hx) acc ((List.range j).map E)) ⟨same_new nD, [], upd_same, rfl, .nil⟩ (fun _ _ _ _ => trivial) ?_ ?_
  · rintro j y Hxo Hx hj ⟨S4, acc, hL, hal, dA⟩ ⟨rfl, c2, hc2, rfl⟩
    rw [hz] at hj
    have ec2 : 97 + j = c2 := Option.some.inj ((hg j hj).symm.trans hc2)
    subst ec2
    refine mono _ _ _ _ (fun σ2 H2 h => ⟨h.1, ?_⟩) (hs j _ (fun y H4 => ∃ acc, H4 D = some (.lst acc) ∧ acc.length < sizeLine ∧ Same H (upd H4 D (.lst (acc ++ [y]))) ∧ ∃ acc2 : List V, upd H4 D (.lst (acc ++ [y])) D = some (.lst acc2) ∧ acc2.length = j + 1 ∧ DatAll (noR D (upd H4 D (.lst (acc ++ [y])))) acc2 ((List.range (j + 1)).map E)) hj (fun a H' u na da => ?_) (by rw [hL]; exact fun z => nomatch z))
    · dsimp only [tYes]
      first
        | exact if_t rfl h.2
        | exact h.2
    · refine ⟨acc, u _ _ hL, by rw [hal, sizeLine_eq]; omega, grow nD (S4.trans u), acc ++ [.ref a], upd_same, by rw [List.length_append, List.length_singleton, hal], ?_⟩
      rw [noR_upd, List.range_succ, List.map_append]
      exact datAll_append (dA.same (same_noR u)) (.cons da .nil)
  · rintro H4 ⟨S4, acc, hL, hal, dA⟩
    rw [hz] at dA
    exact hd H4 acc S4 hL (dA.same noR_sub)
theorem af7 : ∀ i : Fin 7, ("abcdefg" : Str).cps[i.val]? = some (97 + i.val) := by decide +kernel
section
variable {P : Program} {w : World} {K : PySem.W.Frag} {mg : Str → Option Value} {base : Heap}
theorem sc_invalid : FnScope ["_law_found", "_law_huge", "_law_turn", "_law_letter", "_law_name"] [] (defScope s_invalid) := ⟨rfl, rfl, rfl, by decide +kernel, rfl, by decide +kernel, by decide +kernel⟩
theorem okl_invalid {f fM fT fD : Addr} {fd fdM fdT fdD : FuncData} (F : Fun K "_law_invalid" "_law_invalid" s_invalid f fd) (T : Nm mg) (D_many : DefOk K mg "_law_many_names" s_many_names [] fM fdM) (D_tall : DefOk K mg "_law_tall_order" s_tall_order ["_law_names_here"] fT fdT)
    (D_deep : DefOk K mg "_law_deep_order" s_deep_order ["_law_depth"] fD fdD) : FnOk P w K mg base CX0 6 f fd [] spInvalid := by
  have G_many : FnOk P w K mg base CX0 1 fM fdM [] spMany := okl_many D_many.F
  have G_tall : FnOk P w K mg base CX0 5 fT fdT ["_law_names_here"] (spTall 4) := okl_tall D_tall.F D_tall.b D_tall.g T 4 base
  have G_deep : FnOk P w K mg base CX0 1 fD fdD ["_law_depth"] spDeep := okl_deep D_deep.F T
  refine F.ok sc_invalid (fun vs H Q E h => ?_) (fun cdv A outer s H vs Q E hr h => ?_)
  · obtain ⟨rfl, _⟩ := h
    rfl
  · obtain ⟨rfl, q⟩ := h
    have hr1 : Room 1 _ := hr.mono (by decide)
    refine ⟨_, (pss_cons (ps_set (i := 0) sc_invalid.nd rfl (Or.inl rfl) (pd_lst (by decide) (pd_cons (pd_tup (by decide) (pd_cons (pd_str (by decide) pe_str) (pd_cons (pd_int pe_int) (pd_cons (pd_int pe_int) pd_nil)))) (pd_cons (pd_tup (by decide) (pd_cons (pd_str (by decide) pe_str) (pd_cons (pd_int pe_int) (pd_cons (pd_int pe_int) pd_nil)))) (pd_cons (pd_tup (by decide) (pd_cons (pd_str (by decide) pe_str) (pd_cons (pd_int pe_int) (pd_cons (pd_neg pe_int) pd_nil)))) (pd_cons (pd_tup (by decide) (pd_cons (pd_str (by decide) pe_str) (pd_cons (pd_int pe_int) (pd_cons (pd_bool pe_bl) pd_nil)))) (pd_cons (pd_tup (by decide) (pd_cons (pd_str (by decide) pe_str) (pd_cons (pd_int pe_int) pd_nil))) (pd_cons (pd_tup (by decide) (pd_cons (pd_str (by decide) pe_str) pd_nil)) pd_nil))))))))
      (pss_cons (ps_set (i := 0) sc_invalid.nd rfl (Or.inl rfl) (pe_op op_cat (pv 0) (pd_lst (by decide) (pd_cons (pd_lst (by decide) (pd_cons (pd_str (by decide) pe_str) (pd_cons (pd_int pe_int) (pd_cons (pd_int pe_int) pd_nil)))) (pd_cons (pd_tup (by decide) (pd_cons (pd_str (by decide) pe_str) (pd_cons (pd_tup (by decide) pd_nil) pd_nil))) (pd_cons (pd_tup (by decide) (pd_cons (pd_str (by decide) pe_str) (pd_cons (pd_tup (by decide) (pd_cons (pd_tup (by decide) (pd_cons (pd_str (by decide) pe_str) (pd_cons (pd_int pe_int) pd_nil))) pd_nil)) pd_nil))) (pd_cons (pd_tup (by decide) (pd_cons (pd_str (by decide) pe_str) (pd_cons (pd_tup (by decide) (pd_cons (pd_tup (by decide) (pd_cons (pd_str (by decide) pe_str) (pd_cons (pd_int pe_int) pd_nil))) (pd_cons (pd_tup (by decide) (pd_cons (pd_str (by decide) pe_str) (pd_cons (pd_int pe_int) pd_nil))) pd_nil))) pd_nil))) pd_nil)))))))
      (pss_cons (ps_set (i := 0) sc_invalid.nd rfl (Or.inl rfl) (pe_op op_cat (pv 0) (pe_lst (pa_cons (pe_tup (pa_cons pe_str (pa_cons (pe_callTy call_tuple_of (by rfl) T.tuple (by decide +kernel) (pa_cons (pe_lc (own := [("_law_letter", 3)]) (g := (gName 3)) (tt := tYes) rfl sc_invalid.nd (pi_str pe_str) (blkOk_by (N := ["_law_found", "_law_huge", "_law_turn", "_law_letter", "_law_name"]) (sc := defScope s_invalid) (by decide +kernel))
          (fun _ _ _ _ _ => (pg_name (i := 3) sc_invalid.nd rfl (Or.inl rfl))) (fun _ _ _ _ _ => pts_nil) (fun _ _ _ _ _ => (pe_tup (pa_cons (pv 3) (pa_cons pe_int pa_nil))))) pa_nil)) pa_nil))) (pa_cons (pd_tup (by decide) (pd_cons (pd_str (by decide) pe_str) (pd_cons (pd_tup (by decide) (pd_cons (pd_tup (by decide) (pd_cons (pd_str (by decide) pe_str) (pd_cons (pd_int pe_int) pd_nil))) (pd_cons (pd_tup (by decide) (pd_cons (pd_str (by decide) pe_str) (pd_cons (pd_int pe_int) pd_nil))) pd_nil))) pd_nil))) pa_nil)))))
      (pss_cons (ps_set (i := 0) sc_invalid.nd rfl (Or.inl rfl) (pe_op op_cat (pv 0) (pd_lst (by decide) (pd_cons (pd_tup (by decide) (pd_cons (pd_str (by decide) pe_str) (pd_cons (pd_tup (by decide) (pd_cons (pd_tup (by decide) (pd_cons (pd_str (by decide) pe_str) (pd_cons (pd_int pe_int) pd_nil))) (pd_cons (pd_tup (by decide) (pd_cons (pd_str (by decide) pe_str) (pd_cons (pd_int pe_int) pd_nil))) pd_nil))) pd_nil))) (pd_cons (pd_tup (by decide) (pd_cons (pd_str (by decide) pe_str) (pd_cons (pd_tup (by decide) (pd_cons (pd_tup (by decide) (pd_cons (pd_str (by decide) pe_str) (pd_cons (pd_int pe_int) pd_nil))) pd_nil)) pd_nil))) (pd_cons (pd_tup (by decide) (pd_cons (pd_str (by decide) pe_str) (pd_cons (pd_tup (by decide) (pd_cons (pd_tup (by decide) (pd_cons (pd_str (by decide) pe_str) (pd_cons (pd_int pe_int) pd_nil))) pd_nil)) pd_nil))) (pd_cons (pd_tup (by decide) (pd_cons (pd_str (by decide) pe_str) (pd_cons (pd_lst (by decide) (pd_cons (pd_tup (by decide) (pd_cons (pd_str (by decide) pe_str) (pd_cons (pd_int pe_int) pd_nil))) pd_nil)) pd_nil))) pd_nil)))))))
      (pss_cons (ps_set (i := 0) sc_invalid.nd rfl (Or.inl rfl) (pe_op op_cat (pv 0) (pd_lst (by decide) (pd_cons (pd_tup (by decide) (pd_cons (pd_str (by decide) pe_str) (pd_cons (pd_tup (by decide) (pd_cons (pd_tup (by decide) (pd_cons (pd_str (by decide) pe_str) (pd_cons (pd_int pe_int) pd_nil))) pd_nil)) pd_nil))) (pd_cons (pd_tup (by decide) (pd_cons (pd_str (by decide) pe_str) (pd_cons (pd_tup (by decide) (pd_cons (pd_tup (by decide) (pd_cons (pd_str (by decide) pe_str) (pd_cons (pd_int pe_int) pd_nil))) pd_nil)) pd_nil))) (pd_cons (pd_tup (by decide) (pd_cons (pd_str (by decide) pe_str) (pd_cons (pd_int pe_int) pd_nil))) (pd_cons (pd_tup (by decide) (pd_cons (pd_str (by decide) pe_str) (pd_cons (pd_int pe_int) pd_nil))) (pd_cons (pd_tup (by decide) (pd_cons (pd_str (by decide) pe_str) (pd_cons (pd_int pe_int) pd_nil))) pd_nil))))))))
      (pss_cons (ps_set (i := 0) sc_invalid.nd rfl (Or.inl rfl) (pe_op op_cat (pv 0) (pd_lst (by decide) (pd_cons (pd_tup (by decide) (pd_cons (pd_str (by decide) pe_str) (pd_cons (pd_int pe_int) pd_nil))) (pd_cons (pd_tup (by decide) (pd_cons (pd_str (by decide) pe_str) (pd_cons (pd_neg pe_int) pd_nil))) (pd_cons (pd_tup (by decide) (pd_cons (pd_str (by decide) pe_str) (pd_cons (pd_int pe_int) pd_nil))) (pd_cons (pd_tup (by decide) (pd_cons (pd_str (by decide) pe_str) (pd_cons (pd_int pe_int) (pd_cons (pd_int pe_int) (pd_cons (pd_int pe_int) (pd_cons (pd_int pe_int) (pd_cons (pd_int pe_int) pd_nil))))))) (pd_cons (pd_tup (by decide) (pd_cons (pd_str (by decide) pe_str) (pd_cons (pd_bool pe_bl) pd_nil))) pd_nil))))))))
      (pss_cons (ps_set (i := 0) sc_invalid.nd rfl (Or.inl rfl) (pe_op op_cat (pv 0) (pd_lst (by decide) (pd_cons (pd_tup (by decide) (pd_cons (pd_str (by decide) pe_str) (pd_cons (pd_int pe_int) (pd_cons (pd_int pe_int) (pd_cons (pd_int pe_int) (pd_cons (pd_neg pe_int) (pd_cons (pd_int pe_int) pd_nil))))))) (pd_cons (pd_tup (by decide) (pd_cons (pd_str (by decide) pe_str) (pd_cons (pd_int pe_int) (pd_cons (pd_int pe_int) (pd_cons (pd_int pe_int) (pd_cons (pd_int pe_int) (pd_cons (pd_int pe_int) pd_nil))))))) (pd_cons (pd_tup (by decide) (pd_cons (pd_str (by decide) pe_str) (pd_cons (pd_int pe_int) (pd_cons (pd_int pe_int) (pd_cons (pd_int pe_int) (pd_cons (pd_int pe_int) (pd_cons (pd_int pe_int) pd_nil))))))) (pd_cons (pd_tup (by decide) (pd_cons (pd_str (by decide) pe_str) (pd_cons (pd_int pe_int) (pd_cons (pd_int pe_int) (pd_cons (pd_int pe_int) pd_nil))))) pd_nil)))))))
      (pss_cons (ps_set (i := 0) sc_invalid.nd rfl (Or.inl rfl) (pe_op op_cat (pv 0) (pd_lst (by decide) (pd_cons (pd_tup (by decide) (pd_cons (pd_str (by decide) pe_str) (pd_cons (pd_int pe_int) (pd_cons (pd_int pe_int) (pd_cons (pd_int pe_int) (pd_cons (pd_int pe_int) (pd_cons (pd_int pe_int) pd_nil))))))) (pd_cons (pd_tup (by decide) (pd_cons (pd_str (by decide) pe_str) (pd_cons (pd_int pe_int) (pd_cons (pd_int pe_int) (pd_cons (pd_neg pe_int) (pd_cons (pd_int pe_int) (pd_cons (pd_int pe_int) pd_nil))))))) (pd_cons (pd_tup (by decide) (pd_cons (pd_str (by decide) pe_str) (pd_cons (pd_int pe_int) (pd_cons (pd_tup (by decide) pd_nil) pd_nil)))) (pd_cons (pd_tup (by decide) (pd_cons (pd_str (by decide) pe_str) (pd_cons (pd_int pe_int) pd_nil))) pd_nil)))))))
      (pss_cons (ps_set (i := 0) sc_invalid.nd rfl (Or.inl rfl) (pe_op op_cat (pv 0) (pd_lst (by decide) (pd_cons (pd_tup (by decide) (pd_cons (pd_str (by decide) pe_str) (pd_cons (pd_int pe_int) (pd_cons (pd_tup (by decide) (pd_cons (pd_int pe_int) (pd_cons (pd_int pe_int) pd_nil))) pd_nil)))) (pd_cons (pd_tup (by decide) (pd_cons (pd_str (by decide) pe_str) (pd_cons (pd_int pe_int) (pd_cons (pd_tup (by decide) (pd_cons (pd_int pe_int) pd_nil)) pd_nil)))) (pd_cons (pd_tup (by decide) (pd_cons (pd_str (by decide) pe_str) (pd_cons (pd_int pe_int) (pd_cons (pd_tup (by decide) (pd_cons (pd_int pe_int) (pd_cons (pd_int pe_int) pd_nil))) pd_nil)))) (pd_cons (pd_tup (by decide) (pd_cons (pd_str (by decide) pe_str) (pd_cons (pd_str (by decide) pe_str) pd_nil))) pd_nil)))))))
      (pss_cons (ps_set (i := 0) sc_invalid.nd rfl (Or.inl rfl) (pe_op op_cat (pv 0) (pd_lst (by decide) (pd_cons (pd_tup (by decide) (pd_cons (pd_str (by decide) pe_str) (pd_cons (pd_int pe_int) (pd_cons (pd_lst (by decide) (pd_cons (pd_int pe_int) pd_nil)) pd_nil)))) (pd_cons (pd_tup (by decide) (pd_cons (pd_str (by decide) pe_str) (pd_cons (pd_tup (by decide) (pd_cons (pd_tup (by decide) (pd_cons (pd_tup (by decide) (pd_cons (pd_int pe_int) (pd_cons (pd_str (by decide) pe_str) (pd_cons (pd_int pe_int) pd_nil)))) pd_nil)) (pd_cons (pd_tup (by decide) (pd_cons (pd_int pe_int) pd_nil)) pd_nil))) (pd_cons (pd_int pe_int) pd_nil)))) (pd_cons (pd_tup (by decide) (pd_cons (pd_str (by decide) pe_str) (pd_cons (pd_tup (by decide) (pd_cons (pd_tup (by decide) pd_nil) (pd_cons (pd_tup (by decide) (pd_cons (pd_int pe_int) pd_nil)) pd_nil))) (pd_cons (pd_int pe_int) pd_nil)))) pd_nil))))))
      (pss_cons (ps_set (i := 0) sc_invalid.nd rfl (Or.inl rfl) (pe_op op_cat (pv 0) (pd_lst (by decide) (pd_cons (pd_tup (by decide) (pd_cons (pd_str (by decide) pe_str) (pd_cons (pd_tup (by decide) (pd_cons (pd_tup (by decide) (pd_cons (pd_tup (by decide) (pd_cons (pd_int pe_int) (pd_cons (pd_str (by decide) pe_str) (pd_cons (pd_int pe_int) pd_nil)))) (pd_cons (pd_tup (by decide) (pd_cons (pd_int pe_int) (pd_cons (pd_str (by decide) pe_str) (pd_cons (pd_int pe_int) pd_nil)))) pd_nil))) (pd_cons (pd_tup (by decide) (pd_cons (pd_int pe_int) pd_nil)) pd_nil))) (pd_cons (pd_int pe_int) pd_nil)))) (pd_cons (pd_tup (by decide) (pd_cons (pd_str (by decide) pe_str) (pd_cons (pd_tup (by decide) (pd_cons (pd_tup (by decide) pd_nil) (pd_cons (pd_tup (by decide) (pd_cons (pd_int pe_int) (pd_cons (pd_int pe_int) pd_nil))) pd_nil))) (pd_cons (pd_int pe_int) pd_nil)))) pd_nil)))))
      (pss_cons (ps_set (i := 0) sc_invalid.nd rfl (Or.inl rfl) (pe_op op_cat (pv 0) (pd_lst (by decide) (pd_cons (pd_tup (by decide) (pd_cons (pd_str (by decide) pe_str) (pd_cons (pd_tup (by decide) (pd_cons (pd_tup (by decide) (pd_cons (pd_tup (by decide) (pd_cons (pd_int pe_int) (pd_cons (pd_str (by decide) pe_str) (pd_cons (pd_int pe_int) pd_nil)))) (pd_cons (pd_tup (by decide) (pd_cons (pd_int pe_int) (pd_cons (pd_str (by decide) pe_str) (pd_cons (pd_int pe_int) pd_nil)))) pd_nil))) (pd_cons (pd_tup (by decide) pd_nil) pd_nil))) (pd_cons (pd_int pe_int) pd_nil)))) (pd_cons (pd_tup (by decide) (pd_cons (pd_str (by decide) pe_str) (pd_cons (pd_tup (by decide) (pd_cons (pd_tup (by decide) pd_nil) (pd_cons (pd_tup (by decide) pd_nil) pd_nil))) (pd_cons (pd_int pe_int) pd_nil)))) (pd_cons (pd_tup (by decide) (pd_cons (pd_str (by decide) pe_str) (pd_cons (pd_tup (by decide) (pd_cons (pd_tup (by decide) pd_nil) pd_nil)) (pd_cons (pd_int pe_int) pd_nil)))) pd_nil))))))
      (pss_cons (ps_set (i := 0) sc_invalid.nd rfl (Or.inl rfl) (pe_op op_cat (pv 0) (pe_lst (pa_cons (pe_tup (pa_cons pe_str (pa_cons (pe_tup (pa_cons (pe_callTy call_tuple_of (by rfl) T.tuple (by decide +kernel) (pa_cons (pe_lc (own := [("_law_letter", 3)]) (g := (gName 3)) (tt := tYes) rfl sc_invalid.nd (pi_str pe_str) (blkOk_by (N := ["_law_found", "_law_huge", "_law_turn", "_law_letter", "_law_name"]) (sc := defScope s_invalid) (by decide +kernel))
          (fun _ _ _ _ _ => (pg_name (i := 3) sc_invalid.nd rfl (Or.inl rfl))) (fun _ _ _ _ _ => pts_nil) (fun _ _ _ _ _ => (pe_tup (pa_cons pe_int (pa_cons (pv 3) (pa_cons pe_int pa_nil)))))) pa_nil)) (pa_cons (pd_tup (by decide) (pd_cons (pd_int pe_int) pd_nil)) pa_nil))) (pa_cons pe_int pa_nil)))) (pa_cons (pd_tup (by decide) (pd_cons (pd_str (by decide) pe_str) (pd_cons (pd_tup (by decide) (pd_cons (pd_tup (by decide) pd_nil) (pd_cons (pd_tup (by decide) pd_nil) pd_nil))) pd_nil))) pa_nil)))))
      (pss_cons (ps_set (i := 0) sc_invalid.nd rfl (Or.inl rfl) (pe_op op_cat (pv 0) (pd_lst (by decide) (pd_cons (pd_tup (by decide) (pd_cons (pd_str (by decide) pe_str) (pd_cons (pd_tup (by decide) (pd_cons (pd_str (by decide) pe_str) (pd_cons (pd_tup (by decide) (pd_cons (pd_tup (by decide) (pd_cons (pd_str (by decide) pe_str) (pd_cons (pd_str (by decide) pe_str) pd_nil))) pd_nil)) pd_nil))) pd_nil))) (pd_cons (pd_tup (by decide) (pd_cons (pd_str (by decide) pe_str) (pd_cons (pd_tup (by decide) (pd_cons (pd_str (by decide) pe_str) (pd_cons (pd_str (by decide) pe_str) pd_nil))) pd_nil))) pd_nil)))))
      (pss_cons (ps_expr (pe_bm PySem.F.plainAttrs_list PySem.F.slot_list_append PySem.F.type_list_append mt_append (pv 0) (pa_cons (pe_tup (pa_cons pe_str (pa_cons (pe_call G_tall hr rfl D_tall.g D_tall.F.kp D_tall.b .nil pass0 (pa_cons (pe_op op_cat (pe_call0 G_many hr1 rfl D_many.g D_many.F.kp D_many.b .nil pass0) (pd_lst (by decide) (pd_cons (pd_str (by decide) pe_str) pd_nil))) pa_nil)) pa_nil))) pa_nil)))
      (pss_cons (ps_expr (pe_bm PySem.F.plainAttrs_list PySem.F.slot_list_append PySem.F.type_list_append mt_append (pv 0) (pa_cons (pd_tup (by decide) (pd_cons (pd_str (by decide) pe_str) (pd_cons (pd_tup (by decide) (pd_cons (pd_str (by decide) pe_str) (pd_cons (pd_tup (by decide) (pd_cons (pd_tup (by decide) (pd_cons (pd_str (by decide) pe_str) (pd_cons (pd_str (by decide) pe_str) pd_nil))) (pd_cons (pd_tup (by decide) (pd_cons (pd_str (by decide) pe_str) (pd_cons (pd_str (by decide) pe_str) pd_nil))) pd_nil))) pd_nil))) pd_nil))) pa_nil)))
      (pss_cons (ps_set (i := 0) sc_invalid.nd rfl (Or.inl rfl) (pe_op op_cat (pv 0) (pe_lst (pa_cons (pe_tup (pa_cons pe_str (pa_cons (pe_tup (pa_cons pe_str (pa_cons (pe_callTy call_tuple_of (by rfl) T.tuple (by decide +kernel) (pa_cons (pe_lc (own := [("_law_name", 4)]) (g := (gName 4)) (tt := tYes) rfl sc_invalid.nd (pi_str pe_str) (blkOk_by (N := ["_law_found", "_law_huge", "_law_turn", "_law_letter", "_law_name"]) (sc := defScope s_invalid) (by decide +kernel))
          (fun _ _ _ _ _ => (pg_name (i := 4) sc_invalid.nd rfl (Or.inl rfl))) (fun _ _ _ _ _ => pts_nil) (fun _ _ _ _ _ => (pe_tup (pa_cons pe_str (pa_cons (pv 4) pa_nil))))) pa_nil)) pa_nil))) pa_nil))) pa_nil))))
      (pss_cons (ps_set (i := 0) sc_invalid.nd rfl (Or.inl rfl) (pe_op op_cat (pv 0) (pe_lst (pa_cons (pd_tup (by decide) (pd_cons (pd_str (by decide) pe_str) (pd_cons (pd_tup (by decide) (pd_cons (pd_str (by decide) pe_str) (pd_cons (pd_tup (by decide) (pd_cons (pd_tup (by decide) (pd_cons (pd_str (by decide) pe_str) (pd_cons (pd_str (by decide) pe_str) pd_nil))) (pd_cons (pd_tup (by decide) (pd_cons (pd_str (by decide) pe_str) (pd_cons (pd_str (by decide) pe_str) pd_nil))) pd_nil))) pd_nil))) pd_nil))) (pa_cons (pe_tup (pa_cons pe_str (pa_cons (pe_call G_deep hr1 rfl D_deep.g D_deep.F.kp D_deep.b .nil pass0 (pa_cons pe_int pa_nil)) pa_nil))) pa_nil)))))
      (pss_cons (ps_set (i := 1) sc_invalid.nd rfl (Or.inl rfl) (pe_op op_pow pe_int pe_int))
      (pss_cons (ps_for PassesOwn.never rfl (pi_range1 rfl T.range (pa_cons pe_int pa_nil)) (pg_name (i := 2) sc_invalid.nd rfl (Or.inl rfl))
        (pss_one (ps_set (i := 1) sc_invalid.nd rfl (Or.inl rfl) (pe_op op_mulW (pv 1) (pe_op op_pow pe_int pe_int)))))
      (pss_cons (ps_set (i := 0) sc_invalid.nd rfl (Or.inl rfl) (pe_op op_cat (pv 0) (pe_lst (pa_cons (pe_tup (pa_cons pe_str (pa_cons (pe_op op_fdiv (pv 1) pe_int) (pa_cons pe_int pa_nil)))) (pa_cons (pe_tup (pa_cons pe_str (pa_cons (pe_op op_fdiv (pv 1) pe_int) (pa_cons pe_int (pa_cons pe_int (pa_cons pe_int (pa_cons pe_int pa_nil))))))) (pa_cons (pe_tup (pa_cons pe_str (pa_cons (pe_op op_fdiv (pv 1) pe_int) pa_nil))) pa_nil))))))
      (pss_cons (ps_set (i := 0) sc_invalid.nd rfl (Or.inl rfl) (pe_op op_cat (pv 0) (pe_lst (pa_cons (pe_tup (pa_cons pe_str (pa_cons (pe_tup (pa_cons (pe_tup (pa_cons pe_str (pa_cons (pe_op op_fdiv (pv 1) pe_int) pa_nil))) pa_nil)) pa_nil))) (pa_cons (pe_tup (pa_cons pe_str (pa_cons (pe_tup (pa_cons (pe_tup (pa_cons (pe_tup (pa_cons pe_int (pa_cons pe_str (pa_cons (pe_op op_fdiv (pv 1) pe_int) pa_nil)))) pa_nil)) (pa_cons (pd_tup (by decide) (pd_cons (pd_int pe_int) pd_nil)) pa_nil))) (pa_cons pe_int pa_nil)))) pa_nil)))))
      (pss_one (ps_ret (pe_op op_cat (pv 0) (pd_lst (by decide) (pd_cons (pd_none pe_non) (pd_cons (pd_bool pe_bl) (pd_cons (pd_int pe_int) (pd_cons (pd_str (by decide) pe_str) (pd_cons (pd_tup (by decide) pd_nil) (pd_cons (pd_lst (by decide) pd_nil) (pd_cons pd_dict (pd_cons (pd_tup (by decide) (pd_cons (pd_tup (by decide) pd_nil) pd_nil)) (pd_cons (pd_tup (by decide) (pd_cons (pd_none pe_non) (pd_cons (pd_int pe_int) pd_nil))) (pd_cons (pd_tup (by decide) (pd_cons (pd_lst (by decide) (pd_cons (pd_str (by decide) pe_str) pd_nil)) (pd_cons (pd_int pe_int) pd_nil))) (pd_cons (pd_tup (by decide) (pd_cons pd_dict (pd_cons (pd_int pe_int) pd_nil))) (pd_cons (pd_tup (by decide) (pd_cons (pd_str (by decide) pe_str) (pd_cons (pd_int pe_int) pd_nil))) pd_nil)))))))))))))))))))))))))))))))))))))), ?_⟩
    have one : ∀ j : Nat, (sig j).length ≤ 1000 := fun j => by
      show 1 ≤ 1000
      decide
    refine fun v0 H0 T0 d0 => ?_
    refine ⟨_, rfl, fun u1 A1 a1 b1 => cat_dat (d0.same a1) b1 (by decide) fun p1 H1 c1 d1 => ?_⟩
    have T1 := (T0.trans a1).trans c1
    refine ⟨_, rfl, "abcdefg", rfl, fun L nL => lc_sig (z := "abcdefg") (n := 7) (fun j => .tuple [.str (sig j), .int 1]) (by decide +kernel) (fun i hi => af7 ⟨i, hi⟩) (by decide) nL (fun j Hx R hj kk hD => ?_) mono_name fun Hx acc S2 hL dA => ?_⟩
    · refine ⟨rfl, _, rfl, (by show 2 ≤ sizeLine; decide), fun a na => kk a _ (same_new na) na (.tup (noR_at upd_same fun z => hD (by rw [← z]; exact na)) (.cons (.str _ (one j)) (.cons (.int _) .nil)))⟩
    refine ⟨L, acc, rfl, .inl ⟨SqL.of hL, fun a1 n1 => ⟨(by show 2 ≤ sizeLine; decide), fun a2 n2 => ?_⟩⟩⟩
    have x1 := same_new (o := HO.tup acc) n1
    have x2 := same_new (o := HO.tup [.str "word", .ref a1]) n2
    have dw := Dat.tup (upd_same (H := upd Hx a1 (.tup acc)) (a := a2) (o := .tup [.str "word", .ref a1])) (.cons (.str "word" (by decide)) (.cons (.tup (x2 _ _ upd_same) ((dA.same x1).same x2)) .nil))
    have S2b := (S2.trans x1).trans x2
    generalize upd (upd Hx a1 (.tup acc)) a2 (.tup [.str "word", .ref a1]) = A2 at dw S2b ⊢
    refine fun u2 B2 a2' b2 => ⟨(by show 2 ≤ sizeLine; decide), fun l2 nl2 => ?_⟩
    have x3 := same_new (o := HO.lst [.ref a2, u2]) nl2
    refine cat_dat (d1.same ((S2b.trans a2').trans x3)) (.lst upd_same (.cons ((dw.same a2').same x3) (.cons (b2.same x3) .nil))) (by decide) fun p2 H2 c2 d2 => ?_
    have T2 := T1.trans (((S2b.trans a2').trans x3).trans c2)
    refine ⟨_, rfl, fun u3 A3 a3 b3 => cat_dat (d2.same a3) b3 (by decide) fun p3 H3 c3 d3 => ?_⟩
    have T3 := (T2.trans a3).trans c3
    refine ⟨_, rfl, fun u4 A4 a4 b4 => cat_dat (d3.same a4) b4 (by decide) fun p4 H4 c4 d4 => ?_⟩
    have T4 := (T3.trans a4).trans c4
    refine ⟨_, rfl, fun u5 A5 a5 b5 => cat_dat (d4.same a5) b5 (by decide) fun p5 H5 c5 d5 => ?_⟩
    have T5 := (T4.trans a5).trans c5
    refine ⟨_, rfl, fun u6 A6 a6 b6 => cat_dat (d5.same a6) b6 (by decide) fun p6 H6 c6 d6 => ?_⟩
    have T6 := (T5.trans a6).trans c6
    refine ⟨_, rfl, fun u7 A7 a7 b7 => cat_dat (d6.same a7) b7 (by decide) fun p7 H7 c7 d7 => ?_⟩
    have T7 := (T6.trans a7).trans c7
    refine ⟨_, rfl, fun u8 A8 a8 b8 => cat_dat (d7.same a8) b8 (by decide) fun p8 H8 c8 d8 => ?_⟩
    have T8 := (T7.trans a8).trans c8
    refine ⟨_, rfl, fun u9 A9 a9 b9 => cat_dat (d8.same a9) b9 (by decide) fun p9 H9 c9 d9 => ?_⟩
    have T9 := (T8.trans a9).trans c9
    refine ⟨_, rfl, fun u10 A10 a10 b10 => cat_dat (d9.same a10) b10 (by decide) fun p10 H10 c10 d10 => ?_⟩
    have T10 := (T9.trans a10).trans c10
    refine ⟨_, rfl, fun u11 A11 a11 b11 => cat_dat (d10.same a11) b11 (by decide) fun p11 H11 c11 d11 => ?_⟩
    have T11 := (T10.trans a11).trans c11
    refine ⟨_, rfl, "abcdefg", rfl, fun L nL => lc_sig (z := "abcdefg") (n := 7) (fun j => .tuple [.int 0, .str (sig j), .int 0]) (by decide +kernel) (fun i hi => af7 ⟨i, hi⟩) (by decide) nL (fun j Hx R hj kk hD => ?_) mono_name fun Hx acc S2 hL dA => ?_⟩
    · refine ⟨rfl, _, rfl, (by show 3 ≤ sizeLine; decide), fun a na => kk a _ (same_new na) na (.tup (noR_at upd_same fun z => hD (by rw [← z]; exact na)) (.cons (.int _) (.cons (.str _ (one j)) (.cons (.int _) .nil))))⟩
    refine ⟨L, acc, rfl, .inl ⟨SqL.of hL, fun a1 n1 => ?_⟩⟩
    have x1 := same_new (o := HO.tup acc) n1
    have g1 : upd Hx a1 (.tup acc) a1 = some (.tup acc) := upd_same
    have S1b := S2.trans x1
    have dA1 := dA.same x1
    generalize upd Hx a1 (.tup acc) = A1' at x1 g1 S1b dA1 ⊢
    refine fun uz Bz az bz => ⟨(by show 2 ≤ sizeLine; decide), fun a2 n2 => ⟨(by show 3 ≤ sizeLine; decide), fun a3 n3 => ?_⟩⟩
    have x2 := same_new (o := HO.tup [.ref a1, uz]) n2
    have x3 := same_new (o := HO.tup [.str "string", .ref a2, .int 1]) n3
    have dw := Dat.tup (upd_same (H := upd Bz a2 (.tup [.ref a1, uz])) (a := a3) (o := .tup [.str "string", .ref a2, .int 1])) (.cons (.str "string" (by decide)) (.cons (.tup (x3 _ _ upd_same) (.cons (.tup (x3 _ _ (x2 _ _ (az _ _ g1))) (((dA1.same az).same x2).same x3)) (.cons ((bz.same x2).same x3) .nil))) (.cons (.int 1) .nil)))
    have S2b := ((S1b.trans az).trans x2).trans x3
    generalize upd (upd Bz a2 (.tup [.ref a1, uz])) a3 (.tup [.str "string", .ref a2, .int 1]) = A2 at dw S2b ⊢
    refine fun u2 B2 a2' b2 => ⟨(by show 2 ≤ sizeLine; decide), fun l2 nl2 => ?_⟩
    have x4 := same_new (o := HO.lst [.ref a3, u2]) nl2
    refine cat_dat (d11.same ((S2b.trans a2').trans x4)) (.lst upd_same (.cons ((dw.same a2').same x4) (.cons (b2.same x4) .nil))) (by decide) fun p12 H12 c12 d12 => ?_
    have T12 := T11.trans (((S2b.trans a2').trans x4).trans c12)
    refine ⟨_, rfl, fun u13 A13 a13 b13 => cat_nor (d12.same a13) b13 (by decide) fun p13 H13 xs13 c13 f13 g13 n13 => ?_⟩
    have T13 := T12.trans a13
    have l13 : xs13.length ≤ 100 := by
      have z := n13.len
      rw [z]
      simp only [List.length_append]
      decide
    have zz2 : ∀ x ∈ manyN 20 ++ [("zz" : Str)], x.length ≤ 1000 := by decide +kernel
    refine ⟨_, rfl, .inl ⟨rfl, _, SqL.of g13⟩, rfl, fun t Ht St nt ht => fun z Hz Sz dz => ?_⟩
    cases dz with
    | @lst zb zs _ hzb hzx =>
      cases hzx with
      | @cons zv zvs _ _ z1 z2 =>
        cases z2
        cases z1
        refine ⟨t, zb, (manyN 20).map .str, [.str "zz"], rfl, rfl, Sz _ _ ht, hzb, by rw [List.length_map, many_len]; decide, fun p14 np14 => ?_⟩
        have y1 := same_new (o := HO.lst ((manyN 20).map V.str ++ [.str "zz"])) np14
        have y0 : upd Hz p14 (.lst ((manyN 20).map V.str ++ [.str "zz"])) p14 = some (.lst ((manyN 20 ++ [("zz" : Str)]).map V.str)) := by
          rw [upd_same, List.map_append]
          rfl
        generalize upd Hz p14 (.lst ((manyN 20).map V.str ++ [.str "zz"])) = Hy at y1 y0 ⊢
        have l401 : (manyN 20 ++ [("zz" : Str)]).length = 401 := by
          rw [List.length_append, many_len]
          rfl
        refine ⟨p14, manyN 20 ++ [("zz" : Str)], rfl, y0, by rw [l401]; decide, by rw [l401]; decide, by rw [l401]; decide, zz2, fun v14 H14 S14 d14 => ⟨(by show 2 ≤ sizeLine; decide), fun a14 n14 => ?_⟩⟩
        have x5 := same_new (o := HO.tup [.str "arrangement", v14]) n14
        have S135 := (((St.trans Sz).trans y1).trans S14).trans x5
        have da := Dat.tup (upd_same (H := H14) (a := a14) (o := .tup [.str "arrangement", v14])) (.cons (.str "arrangement" (by decide)) (.cons (d14.same x5) .nil))
        have g14 := S135 _ _ g13
        have m14 := n13.same (same_noR S135)
        generalize upd H14 a14 (.tup [.str "arrangement", v14]) = H15 at x5 S135 da g14 m14 ⊢
        have da' := dat_noR g14 da (by rw [noL, noLs, noLs, noLs, tall_noL]; rfl)
        refine ⟨p13, xs13, .ref a14, rfl, rfl, g14, by rw [sizeLine_eq]; omega, ?_⟩
        have g15 : upd H15 p13 (.lst (xs13 ++ [.ref a14])) p13 = some (.lst (xs13 ++ [.ref a14])) := upd_same
        have m15 := datAll_append m14 (.cons da' .nil)
        rw [← noR_upd (o := .lst (xs13 ++ [.ref a14]))] at m15
        have T15 : Same A13 (upd H15 p13 (.lst (xs13 ++ [.ref a14]))) := fun b o e => by
          have br : b ≠ p13 := fun z => by
            rw [z, f13] at e
            cases e
          rw [upd_ne br]
          exact S135 _ _ (c13 _ _ e)
        generalize upd H15 p13 (.lst (xs13 ++ [.ref a14])) = H16 at g15 m15 T15 ⊢
        -- one more
        refine ⟨_, rfl, .inl ⟨rfl, _, SqL.of g15⟩, fun v16 H17 S17 d17 => ?_⟩
        have g17 := S17 _ _ g15
        refine ⟨p13, _, v16, rfl, rfl, g17, by rw [List.length_append, List.length_singleton, sizeLine_eq]; omega, ?_⟩
        have m17 := datAll_append (m15.same (same_noR S17)) (.cons (dat_noR g17 d17 (by decide +kernel)) .nil)
        rw [← noR_upd (o := .lst (xs13 ++ [.ref a14] ++ [v16]))] at m17
        have T17 : Same A13 (upd H17 p13 (.lst (xs13 ++ [.ref a14] ++ [v16]))) := fun b o e => by
          have br : b ≠ p13 := fun z => by
            rw [z, f13] at e
            cases e
          rw [upd_ne br]
          exact S17 _ _ (T15 _ _ e)
        have d15 : Dat (upd H17 p13 (.lst (xs13 ++ [.ref a14] ++ [v16]))) (.ref p13) (.list _) := .lst upd_same (m17.same noR_sub)
        generalize upd H17 p13 (.lst (xs13 ++ [.ref a14] ++ [v16])) = H15' at T17 d15 ⊢
        have T15' := T13.trans T17
        refine ⟨_, rfl, "abcdefg", rfl, fun L nL => lc_sig (z := "abcdefg") (n := 7) (fun j => .tuple [.str "item", .str (sig j)]) (by decide +kernel) (fun i hi => af7 ⟨i, hi⟩) (by decide) nL (fun j Hx R hj kk hD => ?_) mono_name fun Hx acc S2 hL dA => ?_⟩
        · refine ⟨rfl, _, rfl, (by show 2 ≤ sizeLine; decide), fun a na => kk a _ (same_new na) na (.tup (noR_at upd_same fun z => hD (by rw [← z]; exact na)) (.cons (.str _ (by decide)) (.cons (.str _ (one j)) .nil)))⟩
        refine ⟨L, acc, rfl, .inl ⟨SqL.of hL, fun a1 n1 => ⟨(by show 2 ≤ sizeLine; decide), fun a2 n2 => ⟨(by show 2 ≤ sizeLine; decide), fun a3 n3 => ⟨(by show 1 ≤ sizeLine; decide), fun l2 nl2 => ?_⟩⟩⟩⟩⟩
        have x1 := same_new (o := HO.tup acc) n1
        have x2 := same_new (o := HO.tup [.str "parallel", .ref a1]) n2
        have x3 := same_new (o := HO.tup [.str "arrangement", .ref a2]) n3
        have x4 := same_new (o := HO.lst [.ref a3]) nl2
        have dw := Dat.tup (upd_same (H := upd (upd Hx a1 (.tup acc)) a2 (.tup [.str "parallel", .ref a1])) (a := a3) (o := .tup [.str "arrangement", .ref a2])) (.cons (.str "arrangement" (by decide)) (.cons (.tup (x3 _ _ upd_same) (.cons (.str "parallel" (by decide)) (.cons (.tup (x3 _ _ (x2 _ _ upd_same)) (((dA.same x1).same x2).same x3)) .nil))) .nil))
        have S16 := (((S2.trans x1).trans x2).trans x3).trans x4
        refine cat_dat (d15.same S16) (.lst upd_same (.cons (dw.same x4) .nil)) (by decide) fun p16 H16' c16 d16 => ?_
        have T16 := (T15'.trans S16).trans c16
        refine ⟨_, rfl, fun u17 A17 e17 b17 => ⟨6, rfl, by decide, fun v18 H18 S18 d18 => ⟨(by show 2 ≤ sizeLine; decide), fun a4 n4 => ⟨(by show 2 ≤ sizeLine; decide), fun l3 nl3 => ?_⟩⟩⟩⟩
        have x5' := same_new (o := HO.tup [.str "arrangement", v18]) n4
        have x6 := same_new (o := HO.lst [u17, .ref a4]) nl3
        have dv := Dat.tup (upd_same (H := H18) (a := a4) (o := .tup [.str "arrangement", v18])) (.cons (.str "arrangement" (by decide)) (.cons (d18.same x5') .nil))
        have S17b := ((S18.trans x5').trans x6)
        refine cat_dat (d16.same (e17.trans S17b)) (.lst upd_same (.cons (b17.same S17b) (.cons (dv.same x6) .nil))) (by decide) fun p17 H17' c17 d17' => ?_
        have T17' := (T16.trans (e17.trans S17b)).trans c17
        -- a huge number
        refine ⟨_, _, rfl, rfl, ⟨by decide, by decide, by decide⟩, ?_⟩
        refine ⟨99, rfl, by decide, by decide, for_range (n := 99) (fun i σ Hx => ∃ (x : Int) (x2 : Option V), σ = [some (.ref p17), some (.int x), x2, none, none] ∧ Hx = H17' ∧ x = 10 ^ (40 * (i + 1))) ⟨_, none, rfl, rfl, rfl⟩ ?_ ?_⟩
        · rintro i σ Hx hi ⟨x, x2, rfl, rfl, hx⟩
          have lg : x.natAbs.log2 < 20000 := by
            have e : x.natAbs = 10 ^ (40 * (i + 1)) := by rw [hx, Int.natAbs_pow]; rfl
            rw [e]
            refine (Nat.log2_lt (Nat.pos_iff_ne_zero.mp (Nat.pow_pos (by decide)))).mpr (Nat.lt_of_le_of_lt (Nat.pow_le_pow_right (by decide) (show 40 * (i + 1) ≤ 4000 by omega)) (by decide +kernel))
          refine ⟨_, rfl, _, _, rfl, rfl, ⟨by decide, by decide, by decide⟩, _, _, rfl, rfl, ?_, x * 10 ^ 40, _, rfl, rfl, ?_⟩
          · have z : ((10 : Int) ^ 40).natAbs.log2 < 200 := by decide +kernel
            show x.natAbs.log2 + ((10 : Int) ^ 40).natAbs.log2 < 1000000
            omega
          · rw [hx, ← Int.pow_add]
            exact congrArg (fun k => (10 : Int) ^ k) (by omega)
        rintro σ Hx ⟨x, x2, rfl, rfl, hx⟩
        have hbig : x / 10 = bigD := by
          rw [hx]
          decide +kernel
        try clear d0
        try clear d1
        try clear d2
        try clear d3
        try clear d4
        try clear d5
        try clear d6
        try clear d7
        try clear d8
        try clear d9
        try clear d10
        try clear d11
        try clear d12
        try clear d13
        try clear d14
        try clear d15
        try clear d16
        try clear b1
        try clear b2
        try clear b3
        try clear b4
        try clear b5
        try clear b6
        try clear b7
        try clear b8
        try clear b9
        try clear b10
        try clear b11
        try clear b12
        try clear b13
        try clear b14
        try clear b15
        try clear b16
        try clear b17
        try clear dw
        try clear dv
        try clear da
        try clear da'
        try clear n13
        try clear m14
        try clear m15
        try clear m17
        try clear bz
        try clear dz
        have dq : ∀ Hh : Hp, Dat Hh (.int (x / 10)) (.int bigD) := fun Hh => by
          rw [hbig]
          exact .int _
        refine ⟨_, rfl, _, rfl, _, _, rfl, rfl, ⟨by decide, by decide⟩, (by show 3 ≤ sizeLine; decide), fun h1 m1 => ?_⟩
        dsimp only at m1 ⊢
        have y1 := same_new (o := HO.tup [.str "subset", .int (x / 10), .int 2]) m1
        have t1 := Dat.tup (upd_same (H := Hx) (a := h1) (o := .tup [.str "subset", .int (x / 10), .int 2])) (.cons (.str "subset" (by decide)) (.cons (dq _) (.cons (.int 2) .nil)))
        generalize upd Hx h1 (.tup [.str "subset", .int (x / 10), .int 2]) = B1 at y1 t1 ⊢
        refine ⟨_, rfl, _, _, rfl, rfl, ⟨by decide, by decide⟩, (by show 6 ≤ sizeLine; decide), fun h2 m2 => ?_⟩
        dsimp only at m2 ⊢
        have y2 := same_new (o := HO.tup [.str "walk", .int (x / 10), .int 0, .int 0, .int 0, .int 1]) m2
        have t2 := Dat.tup (upd_same (H := B1) (a := h2) (o := .tup [.str "walk", .int (x / 10), .int 0, .int 0, .int 0, .int 1])) (.cons (.str "walk" (by decide)) (.cons (dq _) (.cons (.int 0) (.cons (.int 0) (.cons (.int 0) (.cons (.int 1) .nil))))))
        generalize upd B1 h2 (.tup [.str "walk", .int (x / 10), .int 0, .int 0, .int 0, .int 1]) = B2 at y2 t2 ⊢
        refine ⟨_, rfl, _, _, rfl, rfl, ⟨by decide, by decide⟩, (by show 2 ≤ sizeLine; decide), fun h3 m3 => ?_⟩
        dsimp only at m3 ⊢
        have y3 := same_new (o := HO.tup [.str "tree", .int (x / 10)]) m3
        have t3 := Dat.tup (upd_same (H := B2) (a := h3) (o := .tup [.str "tree", .int (x / 10)])) (.cons (.str "tree" (by decide)) (.cons (dq _) .nil))
        generalize upd B2 h3 (.tup [.str "tree", .int (x / 10)]) = B3 at y3 t3 ⊢
        refine ⟨(by show 3 ≤ sizeLine; decide), fun h4 m4 => ?_⟩
        have y4 := same_new (o := HO.lst [.ref h1, .ref h2, .ref h3]) m4
        have S18 := ((y1.trans y2).trans y3).trans y4
        refine cat_dat (d17'.same S18) (.lst upd_same (.cons (((t1.same y2).same y3).same y4) (.cons ((t2.same y3).same y4) (.cons (t3.same y4) .nil)))) (by decide) fun p18 H18' c18 d18 => ?_
        have T18 := (T17'.trans S18).trans c18
        refine ⟨_, rfl, _, rfl, _, _, rfl, rfl, ⟨by decide, by decide⟩, (by show 2 ≤ sizeLine; decide), fun a1 n1 => ?_⟩
        dsimp only at n1 ⊢
        have z1 := same_new (o := HO.tup [.str "a", .int (x / 10)]) n1
        have w1 := Dat.tup (upd_same (H := H18') (a := a1) (o := .tup [.str "a", .int (x / 10)])) (.cons (.str "a" (by decide)) (.cons (dq _) .nil))
        generalize upd H18' a1 (.tup [.str "a", .int (x / 10)]) = E1 at z1 w1 ⊢
        refine ⟨(by show 1 ≤ sizeLine; decide), fun a2 n2 => ⟨(by show 2 ≤ sizeLine; decide), fun a3 n3 => ?_⟩⟩
        have z2 := same_new (o := HO.tup [.ref a1]) n2
        have z3 := same_new (o := HO.tup [.str "word", .ref a2]) n3
        have w3 := Dat.tup (upd_same (H := upd E1 a2 (.tup [.ref a1])) (a := a3) (o := .tup [.str "word", .ref a2])) (.cons (.str "word" (by decide)) (.cons (.tup (z3 _ _ upd_same) (.cons ((w1.same z2).same z3) .nil)) .nil))
        have Z3 := (z1.trans z2).trans z3
        generalize upd (upd E1 a2 (.tup [.ref a1])) a3 (.tup [.str "word", .ref a2]) = E3 at w3 Z3 ⊢
        refine ⟨_, rfl, _, _, rfl, rfl, ⟨by decide, by decide⟩, (by show 3 ≤ sizeLine; decide), fun b1 k1 => ?_⟩
        dsimp only at k1 ⊢
        have z4 := same_new (o := HO.tup [.int 0, .str "a", .int (x / 10)]) k1
        have w4 := Dat.tup (upd_same (H := E3) (a := b1) (o := .tup [.int 0, .str "a", .int (x / 10)])) (.cons (.int 0) (.cons (.str "a" (by decide)) (.cons (dq _) .nil)))
        generalize upd E3 b1 (.tup [.int 0, .str "a", .int (x / 10)]) = E4 at z4 w4 ⊢
        refine ⟨(by show 1 ≤ sizeLine; decide), fun b2 k2 => ?_⟩
        have z5 := same_new (o := HO.tup [.ref b1]) k2
        have w5 := Dat.tup (upd_same (H := E4) (a := b2) (o := .tup [.ref b1])) (.cons (w4.same z5) .nil)
        generalize upd E4 b2 (.tup [.ref b1]) = E5 at z5 w5 ⊢
        refine fun uz Bz az bz => ⟨(by show 2 ≤ sizeLine; decide), fun b3 k3 => ⟨(by show 3 ≤ sizeLine; decide), fun b4 k4 => ⟨(by show 2 ≤ sizeLine; decide), fun l5 nl5 => ?_⟩⟩⟩
        have z6 := same_new (o := HO.tup [.ref b2, uz]) k3
        have z7 := same_new (o := HO.tup [.str "string", .ref b3, .int 1]) k4
        have z8 := same_new (o := HO.lst [.ref a3, .ref b4]) nl5
        have w7 := Dat.tup (upd_same (H := upd Bz b3 (.tup [.ref b2, uz])) (a := b4) (o := .tup [.str "string", .ref b3, .int 1])) (.cons (.str "string" (by decide)) (.cons (.tup (z7 _ _ upd_same) (.cons (((w5.same az).same z6).same z7) (.cons ((bz.same z6).same z7) .nil))) (.cons (.int 1) .nil)))
        have Z8 := ((((z4.trans z5).trans az).trans z6).trans z7).trans z8
        refine cat_dat (d18.same (Z3.trans Z8)) (.lst upd_same (.cons (w3.same Z8) (.cons (w7.same z8) .nil))) (by decide) fun p19 H19 c19 d19 => ?_
        have T19 := (T18.trans (Z3.trans Z8)).trans c19
        refine ⟨_, rfl, fun u20 A20 a20 b20 => cat_dat (d19.same a20) b20 (by decide) fun p20 H20 c20 d20 => ?_⟩
        exact q _ _ ((T19.trans a20).trans c20) d20
end
end K2
set_option maxRecDepth 100000
set_option maxHeartbeats 8000000
namespace K2
open PySem PySem.Spec PyProof.Rows L2
/-! ### the law -/
abbrev s_law : Stmt := top 103
def spLaw (K : PySem.W.Frag) : Sp := fun vs H Q _ => ∃ (a : Addr) (ns : List Int), vs = [.ref a] ∧ SqL K H a (ns.map V.int) ∧ ns.length ≤ 63 ∧ ∀ H', Q (.bl true) H'
abbrev NL : List Str := ["_law_script", "_law_deck_here", "_law_turn", "_law_leaf_here", "_law_again", "_law_bent_here", "_law_thing"]
section
variable {P : Program} {w : World} {K : PySem.W.Frag} {mg : Str → Option Value} {base : Heap}
theorem sc_law : FnScope NL ["_law_script"] (defScope s_law) := ⟨rfl, rfl, rfl, by decide +kernel, rfl, by decide +kernel, by decide +kernel⟩
theorem ok_law {f fK fD fV fI fS fR fL fB : Addr} {fd fdK fdD fdV fdI fdS fdR fdL fdB : FuncData} (F : Fun K "law" "law" s_law f fd) (T : Nm mg) (Tl : mg "list" = none)
    (D_deck : DefOk K mg "_law_deck" sDeck ["_law_script"] fK fdK) (D_draw : DefOk K mg "_law_draw" sDraw ["_law_deck_here", "_law_bound"] fD fdD)
    (D_valid : DefOk K mg "_law_valid" s_valid [] fV fdV) (D_invalid : DefOk K mg "_law_invalid" s_invalid [] fI fdI) (D_is_space : DefOk K mg "is_space" s_is_space ["value"] fS fdS) (D_right : DefOk K mg "_law_right" s_right ["_law_thing"] fR fdR)
    (D_leaf : DefOk K mg "_law_leaf" s_leaf ["_law_deck_here", "_law_large"] fL fdL) (D_bent : DefOk K mg "_law_bent" s_bent ["_law_deck_here", "_law_thing"] fB fdB)
    (G_valid : FnOk P w K mg base CX0 6 fV fdV [] spValid) (G_invalid : FnOk P w K mg base CX0 6 fI fdI [] spInvalid) (G_is_space : FnOk P w K mg base CX0 13 fS fdS ["value"] spSpace) (G_right : FnG P w K mg base 14 fR fdR ["_law_thing"] spRight)
    (G_leaf : FnOk P w K mg base CX0 9 fL fdL ["_law_deck_here", "_law_large"] spLeaf) (G_b14 : FnOk P w K mg base CX0 18 fB fdB ["_law_deck_here", "_law_thing"] (spBent 14)) (G_b16 : FnOk P w K mg base CX0 20 fB fdB ["_law_deck_here", "_law_thing"] (spBent 16)) :
    FnG P w K mg base 21 f fd ["_law_script"] (spLaw K) := by
  have G_deck : FnOk P w K mg base CX0 1 fK fdK ["_law_script"] (spDeck K) := ok_deck D_deck.F T Tl
  have G_draw : FnOk P w K mg base CX0 1 fD fdD ["_law_deck_here", "_law_bound"] spDraw := ok_draw D_draw.F
  refine F.okG sc_law (fun vs H Q E h => ?_) (fun cdv A outer s H vs Q E hg hr h => ?_)
  · obtain ⟨a, ns, rfl, _⟩ := h
    rfl
  · obtain ⟨a, ns0, rfl, hS, hlen, fin⟩ := h
    have hu0 := hr.units0
    have hr1 : Room 1 _ := hr.mono (by decide)
    have hr6 : Room 6 _ := hr.mono (by decide)
    have hr9 : Room 9 _ := hr.mono (by decide)
    have hr13 : Room 13 _ := hr.mono (by decide)
    have hr14 : Room 14 _ := hr.mono (by decide)
    have hr18 : Room 18 _ := hr.mono (by decide)
    refine ⟨_, (pss_cons (ps_set (i := 1) sc_law.nd rfl (Or.inl rfl) (pe_call G_deck hr1 rfl D_deck.g D_deck.F.kp D_deck.b .nil pass0 (pa_cons (pv 0) pa_nil)))
      (pss_cons (ps_if (pt_cmpR (op_nempty hu0) (pe_lc (own := [("_law_thing", 6)]) (g := (gName 6)) rfl sc_law.nd (pi_list (pe_call0 G_valid hr6 rfl D_valid.g D_valid.F.kp D_valid.b .nil pass0)) (blkOk_by (N := NL) (sc := defScope s_law) (by decide +kernel))
          (fun _ _ _ _ _ => (pg_name (i := 6) sc_law.nd rfl (Or.inl rfl))) (fun _ _ _ _ _ => pts_one (PW.pt (pw_or (pt_cmpR op_notBl (pe_call G_is_space hr13 rfl D_is_space.g D_is_space.F.kp D_is_space.b .nil pass0 (pa_cons (pv 6) pa_nil)) pe_bl (nomark _)) (pw_or1 (pt_not (pt_val (pe_callG G_right hg hr14 rfl D_right.g D_right.F.kp D_right.b (pa_cons (pv 6) pa_nil)))))))) (fun _ _ _ _ _ => (pv 6))) (pe_lst pa_nil) (nomark _))
        (pss_one (ps_ret pe_bl))
        pss_nil)
      (pss_cons (ps_if (pt_cmpR (op_nempty hu0) (pe_lc (own := [("_law_thing", 6)]) (g := (gName 6)) rfl sc_law.nd (pi_list (pe_call0 G_invalid hr6 rfl D_invalid.g D_invalid.F.kp D_invalid.b .nil pass0)) (blkOk_by (N := NL) (sc := defScope s_law) (by decide +kernel))
          (fun _ _ _ _ _ => (pg_name (i := 6) sc_law.nd rfl (Or.inl rfl))) (fun _ _ _ _ _ => pts_one (PW.pt (pw_or (pt_cmpR op_notBl (pe_call G_is_space hr13 rfl D_is_space.g D_is_space.F.kp D_is_space.b .nil pass0 (pa_cons (pv 6) pa_nil)) pe_bl (nomark _)) (pw_or1 (pt_not (pt_val (pe_callG G_right hg hr14 rfl D_right.g D_right.F.kp D_right.b (pa_cons (pv 6) pa_nil)))))))) (fun _ _ _ _ _ => (pv 6))) (pe_lst pa_nil) (nomark _))
        (pss_one (ps_ret pe_bl))
        pss_nil)
      (pss_cons (ps_for PassesOwn.never rfl (pi_range1 rfl T.range (pa_cons pe_int pa_nil)) (pg_name (i := 2) sc_law.nd rfl (Or.inl rfl))
        (pss_cons (ps_set (i := 3) sc_law.nd rfl (Or.inl rfl) (pe_call G_leaf hr9 rfl D_leaf.g D_leaf.F.kp D_leaf.b .nil pass0 (pa_cons (pv 1) (pa_cons (pe_cmpR op_eq (pe_call G_draw hr1 rfl D_draw.g D_draw.F.kp D_draw.b .nil pass0 (pa_cons (pv 1) (pa_cons pe_int pa_nil))) pe_int (nomark _)) pa_nil))))
        (pss_cons (ps_if (PW.pt (pw_or (pt_cmpR op_notBl (pe_call G_is_space hr13 rfl D_is_space.g D_is_space.F.kp D_is_space.b .nil pass0 (pa_cons (pv 3) pa_nil)) pe_bl (nomark _)) (pw_or1 (pt_not (pt_val (pe_callG G_right hg hr14 rfl D_right.g D_right.F.kp D_right.b (pa_cons (pv 3) pa_nil)))))))
          (pss_one (ps_ret pe_bl))
          pss_nil)
        (pss_one (ps_for PassesOwn.never rfl (pi_range1 rfl T.range (pa_cons pe_int pa_nil)) (pg_name (i := 4) sc_law.nd rfl (Or.inl rfl))
          (pss_cons (ps_set (i := 5) sc_law.nd rfl (Or.inl rfl) (pe_call G_b14 hr18 rfl D_bent.g D_bent.F.kp D_bent.b .nil pass0 (pa_cons (pv 1) (pa_cons (pv 3) pa_nil))))
          (pss_one (ps_if (PW.pt (pw_or (pt_not (pt_val (pe_callG G_right hg hr14 rfl D_right.g D_right.F.kp D_right.b (pa_cons (pv 5) pa_nil)))) (pw_or1 (pt_not (pt_val (pe_callG G_right hg hr14 rfl D_right.g D_right.F.kp D_right.b (pa_cons (pe_call G_b16 hr rfl D_bent.g D_bent.F.kp D_bent.b .nil pass0 (pa_cons (pv 1) (pa_cons (pv 5) pa_nil))) pa_nil)))))))
            (pss_one (ps_ret pe_bl))
            pss_nil))))))))
      (pss_one (ps_ret pe_bl)))))), ?_⟩
    refine ⟨_, rfl, a, ns0, rfl, hS, hlen, fun p q0 ms m H1 s1 np nq D1 => ?_⟩
    have K1 : Dk H1 p q0 0 := ⟨ms, m, 0, D1, by decide⟩
    -- the valid ones
    refine ⟨rfl, fun v2 H2 S2 d2 => ?_⟩
    cases d2 with
    | @lst t xs _ ht hx =>
      refine ⟨t, rfl, ⟨_, SqL.of ht⟩, fun D nD => lc_list (K := K) (a := t) (xs := xs) (fun j Hx => Same H2 Hx ∧ Hx D = some (.lst [])) ⟨same_new nD, upd_same⟩ (fun j Hx _ h => SqL.of (h.1 _ _ ht)) (fun j x Hx hj h => ?_) fun Hx h => ?_⟩
      · obtain ⟨d, hd, td⟩ := hx.get hj
        have O := valid_ok d (List.mem_of_getElem? hd)
        have lf := valid_leaf d (List.mem_of_getElem? hd)
        have tx := td.same h.1
        refine ⟨rfl, _, rfl, x, d, rfl, tx, O.leaf, fun Hy Sy => ?_⟩
        rw [lf]
        refine ⟨true, true, rfl, rfl, _, rfl, if_f rfl ?_⟩
        refine ⟨_, rfl, x, d, rfl, tx.same Sy, O, fun Hz Sz => ⟨_, rfl, ?_⟩⟩
        exact if_f rfl ⟨h.1.trans (Sy.trans Sz), Sz _ _ (Sy _ _ h.2)⟩
      obtain ⟨S3, hD⟩ := h
      refine ⟨(by show 0 ≤ sizeLine; decide), fun e ne => ⟨D, e, [], rfl, rfl, .inl ⟨same_new ne _ _ hD, upd_same⟩, _, rfl, if_f rfl ?_⟩⟩
      have S3e := S3.trans (same_new (o := HO.lst []) ne)
      have K3 := (K1.same S2).same S3e
      generalize upd Hx e (.lst []) = H3 at S3e K3 ⊢
      -- the invalid ones
      refine ⟨rfl, fun v4 H4 S4 d4 => ?_⟩
      have K4 := K3.same S4
      cases d4 with
      | @lst t2 ys _ ht2 hy =>
        refine ⟨t2, rfl, ⟨_, SqL.of ht2⟩, fun D2 nD2 => lc_list (K := K) (a := t2) (xs := ys) (fun j Hx => Same H4 Hx ∧ Hx D2 = some (.lst [])) ⟨same_new nD2, upd_same⟩ (fun j Hx _ h => SqL.of (h.1 _ _ ht2)) (fun j x Hx hj h => ?_) fun Hx h => ?_⟩
        · obtain ⟨d, hd, td⟩ := hy.get hj
          obtain ⟨lf, O⟩ := invalid_ok d (List.mem_of_getElem? hd)
          have tx := td.same h.1
          refine ⟨rfl, _, rfl, x, d, rfl, tx, O.leaf, fun Hy Sy => ?_⟩
          rw [lf]
          refine ⟨false, false, rfl, rfl, _, rfl, if_f rfl ?_⟩
          refine ⟨_, rfl, x, d, rfl, tx.same Sy, O, fun Hz Sz => ⟨_, rfl, ?_⟩⟩
          exact if_f rfl ⟨h.1.trans (Sy.trans Sz), Sz _ _ (Sy _ _ h.2)⟩
        obtain ⟨S5, hD2⟩ := h
        refine ⟨(by show 0 ≤ sizeLine; decide), fun e2 ne2 => ⟨D2, e2, [], rfl, rfl, .inl ⟨same_new ne2 _ _ hD2, upd_same⟩, _, rfl, if_f rfl ?_⟩⟩
        have K5 := K4.same (S5.trans (same_new (o := HO.lst []) ne2))
        generalize upd Hx e2 (.lst []) = H5 at K5 ⊢
        -- six leaves
        refine ⟨6, rfl, by decide, by decide, for_range (n := 6) (fun i σ Hx => ∃ (x2 x3 x4 x5 : Option V), σ = [some (.ref a), some (.ref p), x2, x3, x4, x5, none] ∧ Dk Hx p q0 (600 * i)) ⟨none, none, none, none, rfl, K5⟩ ?_ ?_⟩
        · rintro i σ Hx hi ⟨x2, x3, x4, x5, rfl, K6⟩
          obtain ⟨ds6, m6, c6, D6, hc6⟩ := K6
          refine ⟨_, rfl, _, rfl, p, q0, ds6, m6, c6, 2, rfl, by decide, by decide, D6, by omega, fun i7 ds7 H7 j0 j1 O7 D7 => ⟨rfl, p, q0, 600 * i + 1, _, rfl, ⟨_, _, _, D7, by omega⟩, by omega, fun v8 d8 H8 O8 K8 h8 l8 F8 => ?_⟩⟩
          have t8 := h8.same (hide_sub p q0 H8)
          have O := F8.ok (by decide) (by decide) (by decide)
          refine ⟨_, rfl, v8, d8, rfl, t8, O.leaf, fun H9 S9 => ?_⟩
          rw [l8]
          refine ⟨true, true, rfl, rfl, _, rfl, if_f rfl ⟨_, rfl, v8, d8, rfl, t8.same S9, O, fun H10 S10 => ⟨_, rfl, if_f rfl ?_⟩⟩⟩
          have S8 := S9.trans S10
          have K10 := K8.same S8
          have h10 := h8.same (hide_same (p := p) (q := q0) S8)
          -- six changes
          refine ⟨6, rfl, by decide, by decide, for_range (n := 6) (fun j σ Hx => ∃ (y2 y4 y5 : Option V), σ = [some (.ref a), some (.ref p), y2, some v8, y4, y5, none] ∧ Dk Hx p q0 (600 * i + 101 + 72 * j) ∧ Dat (hide p q0 Hx) v8 d8) ⟨_, x4, x5, rfl, K10, h10⟩ ?_ ?_⟩
          · rintro j σ Hj hj ⟨y2, y4, y5, rfl, Kj, hdj⟩
            refine ⟨_, rfl, _, rfl, p, q0, 600 * i + 101 + 72 * j, 600 * i + 101 + 72 * j + 34, 0, 520, v8, d8, rfl, Kj, by omega, by omega, hdj, F8, by decide, by decide, fun v11 d11 H11 O11 K11 h11 F11 => ?_⟩
            have t11 := h11.same (hide_sub p q0 H11)
            refine ⟨_, rfl, v11, d11, rfl, t11, F11.ok (by decide) (by decide) (by decide), fun H12 S12 => ⟨_, rfl, if_f rfl ?_⟩⟩
            have h12 := h11.same (hide_same (p := p) (q := q0) S12)
            refine ⟨_, rfl, _, rfl, p, q0, 600 * i + 101 + 72 * j + 34, 600 * i + 101 + 72 * j + 72, 1, 1090, v11, d11, rfl, K11.same S12, by omega, by omega, h12, F11, by decide, by decide, fun v13 d13 H13 O13 K13 h13 F13 => ?_⟩
            refine ⟨v13, d13, rfl, h13.same (hide_sub p q0 H13), F13.ok (by decide) (by decide) (by decide), fun H14 S14 => ⟨_, rfl, if_f rfl ?_⟩⟩
            exact ⟨_, _, _, rfl, (K13.same S14).mono (by omega), (((hdj.same (hide_off O11)).same (hide_same S12)).same (hide_off O13)).same (hide_same S14)⟩
          · rintro σ Hj ⟨y2, y4, y5, rfl, Kj, _⟩
            exact ⟨_, _, _, _, rfl, Kj.mono (by omega)⟩
        · rintro σ Hx ⟨x2, x3, x4, x5, rfl, K6⟩
          exact fin _
end
end K2
set_option maxRecDepth 100000
set_option maxHeartbeats 8000000
namespace K2
open PySem PySem.Spec PyProof.Rows L2
/-! ### permutations are no fewer than none -/
theorem perm_tab : ∀ a : Fin 61, ∀ m : Fin 61, m.val ≤ a.val → 0 ≤ permN a.val m.val (m.val + 1) := by decide +kernel
theorem perm_nn (a m : Nat) (h : m ≤ a) (h60 : a ≤ 60) : 0 ≤ permN a m (m + 1) := perm_tab ⟨a, by omega⟩ ⟨m, by omega⟩ h
end K2
set_option maxRecDepth 100000
set_option maxHeartbeats 8000000
namespace K2
open PySem PySem.Spec PyProof.Rows L2
/-! ### sizes are below the bound -/
theorem sz_nat {z : Int} {B : Nat} (h0 : 0 ≤ z) (h1 : z ≤ ((B : Nat) : Int)) (hB : B ≤ 2 ^ 13000) : ∃ n : Nat, z = ((n : Nat) : Int) ∧ ((n : Nat) : Int) < big :=
  ⟨z.toNat, (Int.toNat_of_nonneg h0).symm, big_of (Nat.le_trans (Int.toNat_le.mpr h1) hB)⟩
theorem b400 : 400 ^ 400 ≤ 2 ^ 13000 := by decide +kernel
theorem pow400 {a b : Nat} (ha : a ≤ 400) (hb : b ≤ 400) : a ^ b ≤ 2 ^ 13000 := Nat.le_trans (Nat.pow_le_pow_left ha b) (Nat.le_trans (Nat.pow_le_pow_right (by decide) hb) b400)
theorem zb_subset (ds : List PyData) (hp : pSubset ds = true) : ∃ n : Nat, zSubset ds = ((n : Nat) : Int) ∧ ((n : Nat) : Int) < big := by
  unfold pSubset at hp
  rw [Bool.and_eq_true] at hp
  obtain ⟨i, e1, h1, h2⟩ := btw_int hp.1
  rw [e1] at hp
  obtain ⟨k, e2, h3, h4⟩ := btw_int hp.2
  have h4' : k ≤ i := h4
  unfold zSubset
  rw [e1, e2]
  obtain ⟨a, rfl⟩ : ∃ a : Nat, i = (a : Int) := ⟨i.toNat, by omega⟩
  obtain ⟨b, rfl⟩ : ∃ b : Nat, k = (b : Int) := ⟨k.toNat, by omega⟩
  obtain ⟨c1, c2⟩ := comb_le (a := a) (b := b) (by omega)
  exact sz_nat (Int.le_trans (by decide) c1) c2 (pow400 (by omega) (by omega))
theorem zb_cycle (ds : List PyData) (hp : pCycle ds = true) : ∃ n : Nat, zCycle ds = ((n : Nat) : Int) ∧ ((n : Nat) : Int) < big := by
  obtain ⟨i, e1, h1, h2⟩ := btw_int hp
  unfold zCycle
  rw [e1]
  have z : (i - 1).toNat ≤ 400 := by omega
  exact ⟨_, rfl, big_of (Nat.le_trans (fac_big z) (Nat.pow_le_pow_right (by decide) (by decide)))⟩
theorem zb_tree (ds : List PyData) (hp : pTree ds = true) : ∃ n : Nat, zTree ds = ((n : Nat) : Int) ∧ ((n : Nat) : Int) < big := by
  obtain ⟨i, e1, h1, h2⟩ := btw_int hp
  unfold zTree
  rw [e1]
  have z : i.toNat ≤ 400 := by omega
  exact ⟨_, rfl, big_of (pow400 z (Nat.le_trans (Nat.sub_le _ _) z))⟩
theorem zb_match (ds : List PyData) (hp : pMatching ds = true) : ∃ n : Nat, zMatch ds = ((n : Nat) : Int) ∧ ((n : Nat) : Int) < big := by
  obtain ⟨i, e1, h1, h2⟩ := btw_int hp
  unfold zMatch
  rw [e1]
  have z : i.toNat ≤ 200 := by omega
  exact ⟨_, rfl, big_of (Nat.le_trans (match_le z) (Nat.pow_le_pow_right (by decide) (by decide)))⟩
theorem zb_perm (ds : List PyData) (hp : pPerm ds = true) : ∃ n : Nat, zPerm ds = ((n : Nat) : Int) ∧ ((n : Nat) : Int) < big := by
  unfold pPerm at hp
  rw [Bool.and_eq_true, Bool.and_eq_true] at hp
  obtain ⟨i, e1, h1, h2⟩ := btw_int hp.1.1
  have hp2 := hp.1.2
  rw [e1] at hp2
  obtain ⟨ms, e2, h3, h4⟩ := tupOf_len hp2
  have h4' : (ms.length : Int) ≤ i := h4
  unfold zPerm
  rw [e1, e2]
  obtain ⟨a, rfl⟩ : ∃ a : Nat, i = (a : Int) := ⟨i.toNat, by omega⟩
  have l1 : ms.length ≤ a := by omega
  have l2 : a ≤ 60 := by omega
  show ∃ n : Nat, permN a ms.length (ms.length + 1) = ((n : Nat) : Int) ∧ ((n : Nat) : Int) < big
  have z := perm_abs (n := a) (m := ms.length) (by omega) l2 (ms.length + 1) (Nat.le_refl _)
  have y := perm_nn a ms.length l1 l2
  have x : (ms.length + 1) * 2 ^ 904 ≤ 2 ^ 13000 := Nat.le_trans (Nat.mul_le_mul_right _ (show ms.length + 1 ≤ 64 by omega)) (by decide +kernel)
  refine sz_nat (B := (permN a ms.length (ms.length + 1)).natAbs) y (by omega) (Nat.le_trans z x)
theorem word_400 : (400 ^ 400 : Nat) ≤ 2 ^ 13000 := b400
theorem at_size {m : Nat} {p : List PyData → Bool} {sz : List PyData → Int} (hb : ∀ ds : List PyData, p ds = true → ∃ n : Nat, sz ds = ((n : Nat) : Int) ∧ ((n : Nat) : Int) < big)
    (H : Hp) (a : Addr) (xs : List V) (ds : List PyData) (Q : VK) (ha : H a = some (.tup xs)) (hx : DatAll H xs ds) (hl : ds.length = m) (hp : p ds = true) (q : ∀ (H' : Hp) (n : Nat), Same H H' → ((n : Nat) : Int) < big → Q (.int (n : Nat)) H') : spSize m p sz [.ref a] H Q E0 :=
  ⟨a, xs, ds, rfl, ha, hx, hl, hp, fun H' S => by
    obtain ⟨n, e, hn⟩ := hb ds hp
    rw [e]
    exact q H' n S hn⟩
theorem at_b {m : Nat} {p : List PyData → Bool}
    (H : Hp) (a : Addr) (xs : List V) (ds : List PyData) (Q : VK) (ha : H a = some (.tup xs)) (hx : DatAll H xs ds) (hl : ds.length = m) (hp : p ds = true) (q : ∀ (H' : Hp) (n : Nat), Same H H' → ((n : Nat) : Int) < big → Q (.int (n : Nat)) H') : spB m p [.ref a] H Q E0 :=
  ⟨a, xs, ds, rfl, ha, hx, hl, hp, q⟩
theorem at_word (H : Hp) (a : Addr) (xs : List V) (ds : List PyData) (Q : VK) (ha : H a = some (.tup xs)) (hx : DatAll H xs ds) (hl : ds.length = 2) (hp : pWord ds = true) (q : ∀ (H' : Hp) (n : Nat), Same H H' → ((n : Nat) : Int) < big → Q (.int (n : Nat)) H') : spWordSize [.ref a] H Q E0 :=
  ⟨a, xs, ds, rfl, ha, hx, Nat.le_of_eq hl.symm, hp, fun H' S h1 h2 => by
    obtain ⟨n, e, hn⟩ := sz_nat (Int.le_trans (by decide) h1) h2 b400
    rw [e]
    exact q H' n S hn⟩
/-! ### the tables -/
theorem lk_mem {α β : Type} [BEq α] [LawfulBEq α] {z : α} {c : β} : ∀ {l : List (α × β)}, l.lookup z = some c → (z, c) ∈ l
  | [], h => by cases h
  | (k, v) :: l, h => by
    rw [List.lookup] at h
    cases e : z == k with
    | true =>
      rw [e] at h
      cases h
      rw [eq_of_beq e]
      exact List.mem_cons_self ..
    | false =>
      rw [e] at h
      exact List.mem_cons_of_mem _ (lk_mem h)
theorem lk_none {α β : Type} [BEq α] [LawfulBEq α] {z : α} : ∀ {l : List (α × β)}, l.lookup z = none → z ∉ l.map (·.1)
  | [], _, h => by cases h
  | (k, v) :: l, h, hm => by
    rw [List.lookup] at h
    cases e : z == k with
    | true =>
      rw [e] at h
      cases h
    | false =>
      rw [e] at h
      rcases List.mem_cons.mp hm with x | x
      · rw [show z = k from x, beq_self_eq_true] at e
        cases e
      · exact lk_none h x
theorem lk_nodup {β : Type} {a : Addr} {c : β} : ∀ {l : List (Addr × β)}, (l.map (·.1)).Nodup → (a, c) ∈ l → l.lookup a = some c
  | [], _, h => by cases h
  | (k, v) :: l, nd, h => by
    have nd' := List.nodup_cons.mp nd
    rw [List.lookup]
    rcases List.mem_cons.mp h with x | x
    · cases x
      rw [beq_self_eq_true]
    · have ne : (a == k) = false := beq_eq_false_iff_ne.mpr fun e => nd'.1 (List.mem_map.mpr ⟨(a, c), x, e⟩)
      rw [ne]
      exact lk_nodup nd'.2 x
theorem lk_map {α β γ : Type} [BEq α] (g : β → γ) (z : α) : ∀ l : List (α × β), (l.map fun q => (q.1, g q.2)).lookup z = (l.lookup z).map g
  | [] => rfl
  | (k, v) :: l => by
    rw [List.map_cons, List.lookup, List.lookup]
    cases e : z == k with
    | true => rfl
    | false => exact lk_map g z l
def keyS (e : DictEntry) : Option Str := match e.key with
  | .str x _ => some x
  | _ => none
theorem nsIn_miss {K : PySem.W.Frag} {d : Addr} {oc : Value} {od : Option Addr} {es : Array DictEntry} {n : Nat} {sl : Array (Option Value)} (h : K.lookup d = some ⟨oc, od, .dict es n, sl⟩) (ks : List Str) (hk : es.toList.map keyS = ks.map some) {z : Str} (hz : z ∉ ks) : PySem.W.nsIn K d z = some none := by
  have e1 : es.toList.find? (·.key.isStr z) = none := by
    rw [List.find?_eq_none]
    intro e he hs
    have hm : keyS e ∈ ks.map some := by
      rw [← hk]
      exact List.mem_map.mpr ⟨e, he, rfl⟩
    obtain ⟨x, hx, ex⟩ := List.mem_map.mp hm
    cases hkey : e.key with
    | str y t =>
      unfold keyS at ex
      rw [hkey] at ex hs
      have e0 : x = y := Option.some.inj ex
      have e3 : y = z := eq_of_beq hs
      rw [← e3, ← e0] at hz
      exact hz hx
    | _ =>
      rw [hkey] at hs
      cases hs
  have e2 : es.toList.any (·.refKey) = false := by
    rw [List.any_eq_false]
    intro e he hr
    have hm : keyS e ∈ ks.map some := by
      rw [← hk]
      exact List.mem_map.mpr ⟨e, he, rfl⟩
    obtain ⟨x, hx, ex⟩ := List.mem_map.mp hm
    cases hkey : e.key with
    | str y t =>
      unfold DictEntry.refKey at hr
      rw [hkey] at hr
      cases hr
    | _ =>
      unfold keyS at ex
      rw [hkey] at ex
      cases ex
  unfold PySem.W.nsIn
  rw [h]
  dsimp only
  rw [e1, e2]
  rfl
def tbl (f_subset f_word f_arr f_walk f_cycle f_matching f_perm f_tree f_string f_row f_power f_deco : Addr) : List (Str × Kind) := [("subset", ⟨3, f_subset, pSubset⟩), ("word", ⟨2, f_word, pWord⟩), ("arrangement", ⟨2, f_arr, pArr⟩), ("walk", ⟨6, f_walk, pWalk⟩), ("cycle", ⟨2, f_cycle, pCycle⟩), ("matching", ⟨2, f_matching, pMatching⟩), ("permutation", ⟨3, f_perm, pPerm⟩), ("tree", ⟨2, f_tree, pTree⟩), ("string", ⟨3, f_string, pString⟩), ("product", ⟨2, f_row, pRow⟩), ("choice", ⟨2, f_row, pRow⟩), ("power", ⟨3, f_power, pPower⟩), ("decorated", ⟨3, f_deco, pDeco⟩)]
def sps (f_subset f_word f_arr f_walk f_cycle f_matching f_perm f_tree f_string f_row f_power f_deco : Addr) : List (Addr × Sp) := [(f_subset, spT 3 pSubset), (f_word, spT 2 pWord), (f_arr, spT 2 pArr), (f_walk, spT 6 pWalk), (f_cycle, spT 2 pCycle), (f_matching, spT 2 pMatching), (f_perm, spT 3 pPerm), (f_tree, spT 2 pTree), (f_string, spT 3 pString), (f_row, spT 2 pRow), (f_power, spT 3 pPower), (f_deco, spT 3 pDeco)]
def szs (f_subsize f_wordsize f_arrsize f_walksize f_cycsize f_matsize f_permsize f_treesize f_strsize : Addr) : List (Addr × Sp) := [(f_subsize, spSize 3 pSubset zSubset), (f_wordsize, spWordSize), (f_arrsize, spB 2 pArr), (f_walksize, spB 6 pWalk), (f_cycsize, spSize 2 pCycle zCycle), (f_matsize, spSize 2 pMatching zMatch), (f_permsize, spSize 3 pPerm zPerm), (f_treesize, spSize 2 pTree zTree), (f_strsize, spB 3 pString)]
theorem tbl_all {Q : Str → Nat → Addr → Prop} {f_subset f_word f_arr f_walk f_cycle f_matching f_perm f_tree f_string f_row f_power f_deco : Addr} (h0 : Q "subset" 3 f_subset) (h1 : Q "word" 2 f_word) (h2 : Q "arrangement" 2 f_arr) (h3 : Q "walk" 6 f_walk) (h4 : Q "cycle" 2 f_cycle) (h5 : Q "matching" 2 f_matching) (h6 : Q "permutation" 3 f_perm) (h7 : Q "tree" 2 f_tree) (h8 : Q "string" 3 f_string) (h9 : Q "product" 2 f_row) (h10 : Q "choice" 2 f_row) (h11 : Q "power" 3 f_power) (h12 : Q "decorated" 3 f_deco) : ∀ q ∈ tbl f_subset f_word f_arr f_walk f_cycle f_matching f_perm f_tree f_string f_row f_power f_deco, Q q.1 q.2.len q.2.f := by
  intro q hq
  unfold tbl at hq
  rcases List.mem_cons.mp hq with rfl | hq
  · exact h0
  rcases List.mem_cons.mp hq with rfl | hq
  · exact h1
  rcases List.mem_cons.mp hq with rfl | hq
  · exact h2
  rcases List.mem_cons.mp hq with rfl | hq
  · exact h3
  rcases List.mem_cons.mp hq with rfl | hq
  · exact h4
  rcases List.mem_cons.mp hq with rfl | hq
  · exact h5
  rcases List.mem_cons.mp hq with rfl | hq
  · exact h6
  rcases List.mem_cons.mp hq with rfl | hq
  · exact h7
  rcases List.mem_cons.mp hq with rfl | hq
  · exact h8
  rcases List.mem_cons.mp hq with rfl | hq
  · exact h9
  rcases List.mem_cons.mp hq with rfl | hq
  · exact h10
  rcases List.mem_cons.mp hq with rfl | hq
  · exact h11
  rcases List.mem_cons.mp hq with rfl | hq
  · exact h12
  cases hq
theorem tbl_sps {f_subset f_word f_arr f_walk f_cycle f_matching f_perm f_tree f_string f_row f_power f_deco : Addr} : ∀ q ∈ tbl f_subset f_word f_arr f_walk f_cycle f_matching f_perm f_tree f_string f_row f_power f_deco, (q.2.f, spT q.2.len q.2.p) ∈ sps f_subset f_word f_arr f_walk f_cycle f_matching f_perm f_tree f_string f_row f_power f_deco := by
  intro q hq
  unfold tbl at hq
  rcases List.mem_cons.mp hq with rfl | hq
  · exact List.mem_of_getElem? (i := 0) rfl
  rcases List.mem_cons.mp hq with rfl | hq
  · exact List.mem_of_getElem? (i := 1) rfl
  rcases List.mem_cons.mp hq with rfl | hq
  · exact List.mem_of_getElem? (i := 2) rfl
  rcases List.mem_cons.mp hq with rfl | hq
  · exact List.mem_of_getElem? (i := 3) rfl
  rcases List.mem_cons.mp hq with rfl | hq
  · exact List.mem_of_getElem? (i := 4) rfl
  rcases List.mem_cons.mp hq with rfl | hq
  · exact List.mem_of_getElem? (i := 5) rfl
  rcases List.mem_cons.mp hq with rfl | hq
  · exact List.mem_of_getElem? (i := 6) rfl
  rcases List.mem_cons.mp hq with rfl | hq
  · exact List.mem_of_getElem? (i := 7) rfl
  rcases List.mem_cons.mp hq with rfl | hq
  · exact List.mem_of_getElem? (i := 8) rfl
  rcases List.mem_cons.mp hq with rfl | hq
  · exact List.mem_of_getElem? (i := 9) rfl
  rcases List.mem_cons.mp hq with rfl | hq
  · exact List.mem_of_getElem? (i := 9) rfl
  rcases List.mem_cons.mp hq with rfl | hq
  · exact List.mem_of_getElem? (i := 10) rfl
  rcases List.mem_cons.mp hq with rfl | hq
  · exact List.mem_of_getElem? (i := 11) rfl
  cases hq
theorem kindP_part {f_subset f_word f_arr f_walk f_cycle f_matching f_perm f_tree f_string f_row f_power f_deco : Addr} : kindP (fun z => (tbl f_subset f_word f_arr f_walk f_cycle f_matching f_perm f_tree f_string f_row f_power f_deco).lookup z) = partB := by
  funext d
  have e : ∀ z, kinds.lookup z = ((tbl f_subset f_word f_arr f_walk f_cycle f_matching f_perm f_tree f_string f_row f_power f_deco).lookup z).map fun c => (c.len, c.p) := fun z => lk_map (fun c : Kind => (c.len, c.p)) z (tbl f_subset f_word f_arr f_walk f_cycle f_matching f_perm f_tree f_string f_row f_power f_deco)
  cases d with
  | tuple l =>
    cases l with
    | nil => rfl
    | cons x ds =>
      cases x with
      | str z =>
        show (match (tbl f_subset f_word f_arr f_walk f_cycle f_matching f_perm f_tree f_string f_row f_power f_deco).lookup z with
          | some c => decide (ds.length + 1 = c.len) && c.p (.str z :: ds)
          | none => false) = (match kinds.lookup z with
          | some c => decide (ds.length + 1 = c.1) && c.2 (.str z :: ds)
          | none => false)
        rw [e z]
        cases (tbl f_subset f_word f_arr f_walk f_cycle f_matching f_perm f_tree f_string f_row f_power f_deco).lookup z <;> rfl
      | _ => rfl
  | _ => rfl
section
variable {P : Program} {w : World} {K : PySem.W.Frag} {mg : Str → Option Value} {base : Heap}
theorem kinds_mk {dL dC f_subset f_word f_arr f_walk f_cycle f_matching f_perm f_tree f_string f_row f_power f_deco : Addr} (gL : mg "LENGTHS" = some (.ref dL)) (gC : mg "CHECKS" = some (.ref dC)) (kL : ∃ es n, KDict K w dL es n) (kC : ∃ es n, KDict K w dC es n)
    (miss : ∀ z, z ∉ (tbl f_subset f_word f_arr f_walk f_cycle f_matching f_perm f_tree f_string f_row f_power f_deco).map (·.1) → PySem.W.nsIn K dL z = some none) (hL : ∀ q ∈ tbl f_subset f_word f_arr f_walk f_cycle f_matching f_perm f_tree f_string f_row f_power f_deco, ∃ t, PySem.W.nsIn K dL q.1 = some (some (.int q.2.len t))) (hC : ∀ q ∈ tbl f_subset f_word f_arr f_walk f_cycle f_matching f_perm f_tree f_string f_row f_power f_deco, PySem.W.nsIn K dC q.1 = some (some (.ref q.2.f)))
    (nd : ((sps f_subset f_word f_arr f_walk f_cycle f_matching f_perm f_tree f_string f_row f_power f_deco).map (·.1)).Nodup) (held : ∀ q ∈ sps f_subset f_word f_arr f_walk f_cycle f_matching f_perm f_tree f_string f_row f_power f_deco, Held P w K mg base 10 q.1 q.2) : Kinds P w K mg base (fun z => (tbl f_subset f_word f_arr f_walk f_cycle f_matching f_perm f_tree f_string f_row f_power f_deco).lookup z) dL dC fun f => (sps f_subset f_word f_arr f_walk f_cycle f_matching f_perm f_tree f_string f_row f_power f_deco).lookup f :=
  ⟨gL, gC, kL, kC, fun z h => miss z (lk_none h), fun z c h => hL _ (lk_mem h), fun z c h => hC _ (lk_mem h), fun f sp h => held _ (lk_mem h), fun z c h => ⟨_, lk_nodup nd (tbl_sps _ (lk_mem h)), fun H a xs ds Q ha hx hl _ q => ⟨a, xs, ds, rfl, ha, hx, hl, q⟩⟩⟩
theorem sizes_mk {dS f_subsize f_wordsize f_arrsize f_walksize f_cycsize f_matsize f_permsize f_treesize f_strsize : Addr} (g : mg "LEAF_SIZES" = some (.ref dS)) (k : ∃ es n, KDict K w dS es n) (nd : ((szs f_subsize f_wordsize f_arrsize f_walksize f_cycsize f_matsize f_permsize f_treesize f_strsize).map (·.1)).Nodup) (held : ∀ q ∈ szs f_subsize f_wordsize f_arrsize f_walksize f_cycsize f_matsize f_permsize f_treesize f_strsize, Held P w K mg base 9 q.1 q.2)
    (h0 : PySem.W.nsIn K dS "subset" = some (some (.ref f_subsize))) (h1 : PySem.W.nsIn K dS "word" = some (some (.ref f_wordsize))) (h2 : PySem.W.nsIn K dS "arrangement" = some (some (.ref f_arrsize))) (h3 : PySem.W.nsIn K dS "walk" = some (some (.ref f_walksize))) (h4 : PySem.W.nsIn K dS "cycle" = some (some (.ref f_cycsize))) (h5 : PySem.W.nsIn K dS "matching" = some (some (.ref f_matsize))) (h6 : PySem.W.nsIn K dS "permutation" = some (some (.ref f_permsize))) (h7 : PySem.W.nsIn K dS "tree" = some (some (.ref f_treesize))) (h8 : PySem.W.nsIn K dS "string" = some (some (.ref f_strsize))) : Sizes P w K mg base dS fun f => (szs f_subsize f_wordsize f_arrsize f_walksize f_cycsize f_matsize f_permsize f_treesize f_strsize).lookup f := by
  refine ⟨g, k, fun f sp h => held _ (lk_mem h), fun z len p h hn => ?_⟩
  have hm := lk_mem h
  unfold kinds at hm
  rcases List.mem_cons.mp hm with e | hm
  · cases e
    exact ⟨_, _, h0, lk_nodup nd (List.mem_of_getElem? (i := 0) rfl), at_size zb_subset⟩
  rcases List.mem_cons.mp hm with e | hm
  · cases e
    exact ⟨_, _, h1, lk_nodup nd (List.mem_of_getElem? (i := 1) rfl), at_word⟩
  rcases List.mem_cons.mp hm with e | hm
  · cases e
    exact ⟨_, _, h2, lk_nodup nd (List.mem_of_getElem? (i := 2) rfl), at_b⟩
  rcases List.mem_cons.mp hm with e | hm
  · cases e
    exact ⟨_, _, h3, lk_nodup nd (List.mem_of_getElem? (i := 3) rfl), at_b⟩
  rcases List.mem_cons.mp hm with e | hm
  · cases e
    exact ⟨_, _, h4, lk_nodup nd (List.mem_of_getElem? (i := 4) rfl), at_size zb_cycle⟩
  rcases List.mem_cons.mp hm with e | hm
  · cases e
    exact ⟨_, _, h5, lk_nodup nd (List.mem_of_getElem? (i := 5) rfl), at_size zb_match⟩
  rcases List.mem_cons.mp hm with e | hm
  · cases e
    exact ⟨_, _, h6, lk_nodup nd (List.mem_of_getElem? (i := 6) rfl), at_size zb_perm⟩
  rcases List.mem_cons.mp hm with e | hm
  · cases e
    exact ⟨_, _, h7, lk_nodup nd (List.mem_of_getElem? (i := 7) rfl), at_size zb_tree⟩
  rcases List.mem_cons.mp hm with e | hm
  · cases e
    exact ⟨_, _, h8, lk_nodup nd (List.mem_of_getElem? (i := 8) rfl), at_b⟩
  rcases List.mem_cons.mp hm with e | hm
  · cases e
    exact absurd hn (by decide +kernel)
  rcases List.mem_cons.mp hm with e | hm
  · cases e
    exact absurd hn (by decide +kernel)
  rcases List.mem_cons.mp hm with e | hm
  · cases e
    exact absurd hn (by decide +kernel)
  rcases List.mem_cons.mp hm with e | hm
  · cases e
    exact absurd hn (by decide +kernel)
  cases hm
end
end K2
set_option maxRecDepth 100000
set_option maxHeartbeats 8000000
namespace K2
open PySem PySem.Spec PyProof.Rows L2
/-! ### everything put together -/
section
variable {P : Program} {w : World} {K : PySem.W.Frag} {mg : Str → Option Value}
def pre_mk {f_isint f_btw f_tup f_name f_asc : Addr} {d_isint d_btw d_tup d_name d_asc : FuncData} (nm : Nm mg) (Z : Cst mg) (o_isint : DefOk K mg "is_integer" sIsInt ["value"] f_isint d_isint) (o_btw : DefOk K mg "is_between" sBtw ["value", "low", "high"] f_btw d_btw) (o_tup : DefOk K mg "is_tuple" sTup ["value", "least", "most"] f_tup d_tup) (o_name : DefOk K mg "is_name" sName ["value"] f_name d_name) (o_asc : DefOk K mg "is_ascending" sAsc ["items"] f_asc d_asc) (base : Heap) : Pre P w K mg base :=
  ⟨f_btw, f_tup, f_name, f_asc, d_btw, d_tup, d_name, d_asc, o_btw, o_tup, o_name, o_asc, ok_btw o_btw.F nm o_isint, ok_tup o_tup.F nm, ok_name o_name.F nm Z.name, ok_asc o_asc.F nm, nm, Z⟩
theorem well_mk {f_isint f_btw f_tup f_name f_asc f_auto f_moves f_move f_state f_states f_order f_ord f_names f_well f_nested f_part f_subset f_word f_arr f_walk f_cycle f_matching f_perm f_tree f_string f_row f_power f_deco f_counts f_count : Addr} {d_isint d_btw d_tup d_name d_asc d_auto d_moves d_move d_state d_states d_order d_ord d_names d_well d_nested d_part d_subset d_word d_arr d_walk d_cycle d_matching d_perm d_tree d_string d_row d_power d_deco d_counts d_count : FuncData} {dL dC : Addr} (nm : Nm mg) (Z : Cst mg) (o_isint : DefOk K mg "is_integer" sIsInt ["value"] f_isint d_isint) (o_btw : DefOk K mg "is_between" sBtw ["value", "low", "high"] f_btw d_btw) (o_tup : DefOk K mg "is_tuple" sTup ["value", "least", "most"] f_tup d_tup) (o_name : DefOk K mg "is_name" sName ["value"] f_name d_name) (o_asc : DefOk K mg "is_ascending" sAsc ["items"] f_asc d_asc) (o_auto : DefOk K mg "is_automaton" sAuto ["value"] f_auto d_auto) (o_moves : DefOk K mg "are_moves" sMoves ["moves"] f_moves d_moves) (o_move : DefOk K mg "is_move" sIsMove ["move"] f_move d_move) (o_state : DefOk K mg "is_state" sIsState ["value"] f_state d_state) (o_states : DefOk K mg "are_states" sAreStates ["value"] f_states d_states) (o_order : DefOk K mg "is_order" sIsOrder ["value"] f_order d_order) (o_ord : DefOk K mg "has_order_form" sOrd ["value", "depth"] f_ord d_ord) (o_names : DefOk K mg "names_of" sNames ["order"] f_names d_names) (o_well : DefOk K mg "is_well_formed" sWell ["value"] f_well d_well) (o_nested : DefOk K mg "nested_spaces" sNested ["space"] f_nested d_nested) (o_part : DefOk K mg "is_part" sPart ["value"] f_part d_part) (o_subset : DefOk K mg "is_subset" sSubset ["space"] f_subset d_subset) (o_word : DefOk K mg "is_word" sWord ["space"] f_word d_word) (o_arr : DefOk K mg "is_arrangement" sArr ["space"] f_arr d_arr) (o_walk : DefOk K mg "is_walk" sWalk ["space"] f_walk d_walk) (o_cycle : DefOk K mg "is_cycle" sCycle ["space"] f_cycle d_cycle) (o_matching : DefOk K mg "is_matching" sMatching ["space"] f_matching d_matching) (o_perm : DefOk K mg "is_permutation" sPerm ["space"] f_perm d_perm) (o_tree : DefOk K mg "is_tree" sTree ["space"] f_tree d_tree) (o_string : DefOk K mg "is_string" sString ["space"] f_string d_string) (o_row : DefOk K mg "is_row" sRow ["space"] f_row d_row) (o_power : DefOk K mg "is_power" sPower ["space"] f_power d_power) (o_deco : DefOk K mg "is_decorated" sDeco ["space"] f_deco d_deco) (o_counts : DefOk K mg "are_counts" sCounts ["counts"] f_counts d_counts) (o_count : DefOk K mg "is_count" sIsCount ["pair"] f_count d_count)
    (gL : mg "LENGTHS" = some (.ref dL)) (gC : mg "CHECKS" = some (.ref dC)) (kL : ∃ es n, KDict K w dL es n) (kC : ∃ es n, KDict K w dC es n)
    (miss : ∀ z, z ∉ (tbl f_subset f_word f_arr f_walk f_cycle f_matching f_perm f_tree f_string f_row f_power f_deco).map (·.1) → PySem.W.nsIn K dL z = some none) (hL : ∀ q ∈ tbl f_subset f_word f_arr f_walk f_cycle f_matching f_perm f_tree f_string f_row f_power f_deco, ∃ t, PySem.W.nsIn K dL q.1 = some (some (.int q.2.len t))) (hC : ∀ q ∈ tbl f_subset f_word f_arr f_walk f_cycle f_matching f_perm f_tree f_string f_row f_power f_deco, PySem.W.nsIn K dC q.1 = some (some (.ref q.2.f)))
    (nd : ((sps f_subset f_word f_arr f_walk f_cycle f_matching f_perm f_tree f_string f_row f_power f_deco).map (·.1)).Nodup) (base : Heap) : FnOk P w K mg base CX0 12 f_well d_well ["value"] (spP isWf) := by
  have Y : Pre P w K mg base := pre_mk nm Z o_isint o_btw o_tup o_name o_asc base
  have GS : FnOk P w K mg base CX0 3 f_state d_state ["value"] (spP (btw 0 7)) := ok_state o_state.F Z Y.B Y.GB
  have GM := ok_moves o_moves.F Y o_move (ok_move o_move.F Y o_state GS)
  have GC := ok_counts o_counts.F Y o_count (ok_count o_count.F Y)
  have GA := ok_auto o_auto.F Y o_moves GM o_states (ok_states o_states.F Y o_state GS)
  have GO := ok_order o_order.F Y o_ord o_names
  have H1 := (ok_subset (base := base) o_subset.F Z Y.B Y.GB).mono (k := 10) (by decide)
  have H2 := (ok_word o_word.F o_counts GC).mono (k := 10) (by decide)
  have H3 := (ok_arr o_arr.F o_order GO).mono (k := 10) (by decide)
  have H4 := (ok_walk o_walk.F Y).mono (k := 10) (by decide)
  have H5 := (ok_cycle (base := base) o_cycle.F Z Y.B Y.GB).mono (k := 10) (by decide)
  have H6 := (ok_matching o_matching.F Y).mono (k := 10) (by decide)
  have H7 := (ok_perm o_perm.F Y).mono (k := 10) (by decide)
  have H8 := (ok_tree o_tree.F Y).mono (k := 10) (by decide)
  have H9 := (ok_string o_string.F Y o_auto GA).mono (k := 10) (by decide)
  have H10 := (ok_row o_row.F Y).mono (k := 10) (by decide)
  have H11 := (ok_power o_power.F Y).mono (k := 10) (by decide)
  have H12 := (ok_deco o_deco.F Y o_counts GC).mono (k := 10) (by decide)
  have held : ∀ q ∈ sps f_subset f_word f_arr f_walk f_cycle f_matching f_perm f_tree f_string f_row f_power f_deco, Held P w K mg base 10 q.1 q.2 := by
    intro q hq
    unfold sps at hq
    rcases List.mem_cons.mp hq with rfl | hq
    · exact ⟨_, _, H1, o_subset.F.kp, o_subset.b⟩
    rcases List.mem_cons.mp hq with rfl | hq
    · exact ⟨_, _, H2, o_word.F.kp, o_word.b⟩
    rcases List.mem_cons.mp hq with rfl | hq
    · exact ⟨_, _, H3, o_arr.F.kp, o_arr.b⟩
    rcases List.mem_cons.mp hq with rfl | hq
    · exact ⟨_, _, H4, o_walk.F.kp, o_walk.b⟩
    rcases List.mem_cons.mp hq with rfl | hq
    · exact ⟨_, _, H5, o_cycle.F.kp, o_cycle.b⟩
    rcases List.mem_cons.mp hq with rfl | hq
    · exact ⟨_, _, H6, o_matching.F.kp, o_matching.b⟩
    rcases List.mem_cons.mp hq with rfl | hq
    · exact ⟨_, _, H7, o_perm.F.kp, o_perm.b⟩
    rcases List.mem_cons.mp hq with rfl | hq
    · exact ⟨_, _, H8, o_tree.F.kp, o_tree.b⟩
    rcases List.mem_cons.mp hq with rfl | hq
    · exact ⟨_, _, H9, o_string.F.kp, o_string.b⟩
    rcases List.mem_cons.mp hq with rfl | hq
    · exact ⟨_, _, H10, o_row.F.kp, o_row.b⟩
    rcases List.mem_cons.mp hq with rfl | hq
    · exact ⟨_, _, H11, o_power.F.kp, o_power.b⟩
    rcases List.mem_cons.mp hq with rfl | hq
    · exact ⟨_, _, H12, o_deco.F.kp, o_deco.b⟩
    cases hq
  have GP := ok_part o_part.F Y (kinds_mk gL gC kL kC miss hL hC nd held)
  rw [kindP_part] at GP
  exact ok_well o_well.F Y o_part GP o_nested (ok_nested o_nested.F)
theorem measure_mk {f_subsize f_wordsize f_arrsize f_walksize f_cycsize f_matsize f_permsize f_treesize f_strsize f_raise f_multi f_moved f_names f_osize f_step f_moveon f_countstr f_nested f_measure f_jleaves : Addr} {d_subsize d_wordsize d_arrsize d_walksize d_cycsize d_matsize d_permsize d_treesize d_strsize d_raise d_multi d_moved d_names d_osize d_step d_moveon d_countstr d_nested d_measure d_jleaves : FuncData} {fJ : Addr} {dJ : FuncData} {dS : Addr} (nm : Nm mg) (Z : Cst mg) (zl : mg "list" = none) (zm : mg "max" = none) (c1 : mg "comb" = some (.builtin "math.comb")) (c2 : mg "factorial" = some (.builtin "math.factorial"))
    (o_subsize : DefOk K mg "subset_size" sSubSize ["space"] f_subsize d_subsize) (o_wordsize : DefOk K mg "word_size" sWordSize ["space"] f_wordsize d_wordsize) (o_arrsize : DefOk K mg "arrangement_size" sArrSize ["space"] f_arrsize d_arrsize) (o_walksize : DefOk K mg "walk_size" sWalkSize ["space"] f_walksize d_walksize) (o_cycsize : DefOk K mg "cycle_size" sCycSize ["space"] f_cycsize d_cycsize) (o_matsize : DefOk K mg "matching_size" sMatSize ["space"] f_matsize d_matsize) (o_permsize : DefOk K mg "permutation_size" sPermSize ["space"] f_permsize d_permsize) (o_treesize : DefOk K mg "tree_size" sTreeSize ["space"] f_treesize d_treesize) (o_strsize : DefOk K mg "string_size" sStrSize ["space"] f_strsize d_strsize) (o_raise : DefOk K mg "raise_to" sRaise ["base", "exponent"] f_raise d_raise) (o_multi : DefOk K mg "multinomial" sMulti ["counts"] f_multi d_multi) (o_moved : DefOk K mg "count_moved" sMoved ["n", "moved"] f_moved d_moved) (o_names : DefOk K mg "names_of" sNames ["order"] f_names d_names) (o_osize : DefOk K mg "order_size" sOSize ["order"] f_osize d_osize) (o_step : DefOk K mg "step_on" sStep ["ways", "low", "high"] f_step d_step) (o_moveon : DefOk K mg "move_on" sMoveOn ["moves", "ways"] f_moveon d_moveon) (o_countstr : DefOk K mg "count_strings" sCountStr ["automaton", "n"] f_countstr d_countstr) (o_nested : DefOk K mg "nested_spaces" sNested ["space"] f_nested d_nested) (o_measure : DefOk K mg "measure" sMeasure ["space", "bound"] f_measure d_measure) (o_jleaves : DefOk K mg "joined_leaves" sJLeaves ["space", "leaves"] f_jleaves d_jleaves)
    (J : FunD K "joined_size" "joined_size" (defArgs sJSize) (defBody sJSize) (defScope sJSize) [.non] [] fJ dJ) (bJ : L2.Binds K dJ ["space", "sizes", "bound"] []) (gJ : mg "joined_size" = some (.ref fJ)) (U : MulOk P w K mg default)
    (g : mg "LEAF_SIZES" = some (.ref dS)) (k : ∃ es n, KDict K w dS es n) (nd : ((szs f_subsize f_wordsize f_arrsize f_walksize f_cycsize f_matsize f_permsize f_treesize f_strsize).map (·.1)).Nodup) (h0 : PySem.W.nsIn K dS "subset" = some (some (.ref f_subsize))) (h1 : PySem.W.nsIn K dS "word" = some (some (.ref f_wordsize))) (h2 : PySem.W.nsIn K dS "arrangement" = some (some (.ref f_arrsize))) (h3 : PySem.W.nsIn K dS "walk" = some (some (.ref f_walksize))) (h4 : PySem.W.nsIn K dS "cycle" = some (some (.ref f_cycsize))) (h5 : PySem.W.nsIn K dS "matching" = some (some (.ref f_matsize))) (h6 : PySem.W.nsIn K dS "permutation" = some (some (.ref f_permsize))) (h7 : PySem.W.nsIn K dS "tree" = some (some (.ref f_treesize))) (h8 : PySem.W.nsIn K dS "string" = some (some (.ref f_strsize)))
    (base : Heap) : FnOk P w K mg base CX0 11 f_measure d_measure ["space", "bound"] spMeasure := by
  have U' : MulOk P w K mg base := ⟨U.f, U.fd, U.F, U.b, U.g⟩
  have GU : FnOk P w K mg base CX0 1 U.f U.fd ["factors", "bound"] spMul := ok_mul U.F
  have GO : FnOk P w K mg base CX0 8 f_osize d_osize ["order"] (spOSize 6) := ok_osize o_osize.F o_osize.b o_osize.g nm o_names U' o_multi c1 6
  have H1 : FnOk P w K mg base CX0 9 f_subsize d_subsize ["space"] _ := (ok_subsize o_subsize.F c1).mono (by decide)
  have H2 : FnOk P w K mg base CX0 9 f_wordsize d_wordsize ["space"] _ := (ok_wordsize o_wordsize.F o_multi c1).mono (by decide)
  have H3 : FnOk P w K mg base CX0 9 f_arrsize d_arrsize ["space"] _ := ok_arrsize o_arrsize.F o_osize GO
  have H4 : FnOk P w K mg base CX0 9 f_walksize d_walksize ["space"] _ := (ok_walksize o_walksize.F nm o_step).mono (by decide)
  have H5 : FnOk P w K mg base CX0 9 f_cycsize d_cycsize ["space"] _ := (ok_cycsize o_cycsize.F c2).mono (by decide)
  have H6 : FnOk P w K mg base CX0 9 f_matsize d_matsize ["space"] _ := (ok_matsize o_matsize.F nm zl U.F.kp U.b U.g GU).mono (by decide)
  have H7 : FnOk P w K mg base CX0 9 f_permsize d_permsize ["space"] _ := (ok_permsize o_permsize.F nm o_moved c1 c2).mono (by decide)
  have H8 : FnOk P w K mg base CX0 9 f_treesize d_treesize ["space"] _ := (ok_treesize o_treesize.F zm o_raise).mono (by decide)
  have H9 : FnOk P w K mg base CX0 9 f_strsize d_strsize ["space"] _ := (ok_strsize o_strsize.F o_countstr (ok_countstr o_countstr.F nm o_moveon)).mono (by decide)
  have held : ∀ q ∈ szs f_subsize f_wordsize f_arrsize f_walksize f_cycsize f_matsize f_permsize f_treesize f_strsize, Held P w K mg base 9 q.1 q.2 := by
    intro q hq
    unfold szs at hq
    rcases List.mem_cons.mp hq with rfl | hq
    · exact ⟨_, _, H1, o_subsize.F.kp, o_subsize.b⟩
    rcases List.mem_cons.mp hq with rfl | hq
    · exact ⟨_, _, H2, o_wordsize.F.kp, o_wordsize.b⟩
    rcases List.mem_cons.mp hq with rfl | hq
    · exact ⟨_, _, H3, o_arrsize.F.kp, o_arrsize.b⟩
    rcases List.mem_cons.mp hq with rfl | hq
    · exact ⟨_, _, H4, o_walksize.F.kp, o_walksize.b⟩
    rcases List.mem_cons.mp hq with rfl | hq
    · exact ⟨_, _, H5, o_cycsize.F.kp, o_cycsize.b⟩
    rcases List.mem_cons.mp hq with rfl | hq
    · exact ⟨_, _, H6, o_matsize.F.kp, o_matsize.b⟩
    rcases List.mem_cons.mp hq with rfl | hq
    · exact ⟨_, _, H7, o_permsize.F.kp, o_permsize.b⟩
    rcases List.mem_cons.mp hq with rfl | hq
    · exact ⟨_, _, H8, o_treesize.F.kp, o_treesize.b⟩
    rcases List.mem_cons.mp hq with rfl | hq
    · exact ⟨_, _, H9, o_strsize.F.kp, o_strsize.b⟩
    cases hq
  exact ok_measure o_measure.F o_measure.b o_measure.g o_nested o_jleaves J bJ gJ (sizes_mk g k nd held h0 h1 h2 h3 h4 h5 h6 h7 h8) Z
theorem leafsize_mk {f_lint f_lname f_lrises f_lchoose f_lword f_losize f_lwalk f_lstring f_lperm f_lleafsize : Addr} {d_lint d_lname d_lrises d_lchoose d_lword d_losize d_lwalk d_lstring d_lperm d_lleafsize : FuncData} (nm : Nm mg) (zl : mg "list" = none) (zm : mg "max" = none) (zd : mg "dict" = none) (o_lint : DefOk K mg "_law_is_int" s_is_int ["_law_thing", "_law_low", "_law_high"] f_lint d_lint) (o_lname : DefOk K mg "_law_is_name" s_is_name ["_law_thing"] f_lname d_lname) (o_lrises : DefOk K mg "_law_rises" s_rises ["_law_items"] f_lrises d_lrises) (o_lchoose : DefOk K mg "_law_choose" s_choose ["_law_n", "_law_k"] f_lchoose d_lchoose) (o_lword : DefOk K mg "_law_word_size" s_word_size ["_law_counts_here"] f_lword d_lword) (o_losize : DefOk K mg "_law_order_size" s_order_size ["_law_order_here", "_law_depth"] f_losize d_losize) (o_lwalk : DefOk K mg "_law_walk_size" s_walk_size ["_law_thing"] f_lwalk d_lwalk) (o_lstring : DefOk K mg "_law_string_size" s_string_size ["_law_thing"] f_lstring d_lstring) (o_lperm : DefOk K mg "_law_permutation_size" s_permutation_size ["_law_thing"] f_lperm d_lperm) (o_lleafsize : DefOk K mg "_law_leaf_size" s_leaf_size ["_law_thing"] f_lleafsize d_lleafsize) (base : Heap) : FnOk P w K mg base CX0 9 f_lleafsize d_lleafsize ["_law_thing"] (spOptT leafB) :=
  okl_leaf o_lleafsize.F nm zd zl zm o_lint o_lchoose o_lword (okl_word o_lword.F nm o_lint o_lname o_lchoose) o_losize (okl_order o_losize.F o_losize.b o_losize.g nm o_lname o_lchoose 6) o_lwalk (okl_walk o_lwalk.F nm o_lint)
    o_lstring (okl_string o_lstring.F nm zd o_lint o_lname o_lrises) o_lperm (okl_perm o_lperm.F nm o_lint o_lrises)
theorem law_mk {f_ldeck f_ldraw f_lpick f_lleafsize f_lnames f_lorder f_lcounts f_lauto f_lleaf f_lother f_lbent f_ltall f_ldeep f_lmany f_lvalid f_linvalid f_lright f_llaw f_space : Addr} {d_ldeck d_ldraw d_lpick d_lleafsize d_lnames d_lorder d_lcounts d_lauto d_lleaf d_lother d_lbent d_ltall d_ldeep d_lmany d_lvalid d_linvalid d_lright d_llaw d_space : FuncData} (nm : Nm mg) (zl : mg "list" = none) (zm : mg "max" = none) (zn : mg "min" = none) (zs : mg "sorted" = none) (zr : mg "repr" = none) (eS : PySem.W.nsIn K cStatics "sys.int_max_str_digits" = some none)
    (o_ldeck : DefOk K mg "_law_deck" sDeck ["_law_script"] f_ldeck d_ldeck) (o_ldraw : DefOk K mg "_law_draw" sDraw ["_law_deck_here", "_law_bound"] f_ldraw d_ldraw) (o_lpick : DefOk K mg "_law_pick" sPick ["_law_deck_here", "_law_items"] f_lpick d_lpick) (o_lleafsize : DefOk K mg "_law_leaf_size" s_leaf_size ["_law_thing"] f_lleafsize d_lleafsize) (o_lnames : DefOk K mg "_law_names" s_names ["_law_deck_here", "_law_many"] f_lnames d_lnames) (o_lorder : DefOk K mg "_law_order" s_order ["_law_deck_here", "_law_names_here"] f_lorder d_lorder) (o_lcounts : DefOk K mg "_law_counts" s_counts ["_law_deck_here", "_law_total"] f_lcounts d_lcounts) (o_lauto : DefOk K mg "_law_automaton" s_automaton ["_law_deck_here"] f_lauto d_lauto) (o_lleaf : DefOk K mg "_law_leaf" s_leaf ["_law_deck_here", "_law_large"] f_lleaf d_lleaf) (o_lother : DefOk K mg "_law_other" s_other ["_law_deck_here", "_law_thing"] f_lother d_lother) (o_lbent : DefOk K mg "_law_bent" s_bent ["_law_deck_here", "_law_thing"] f_lbent d_lbent) (o_ltall : DefOk K mg "_law_tall_order" s_tall_order ["_law_names_here"] f_ltall d_ltall) (o_ldeep : DefOk K mg "_law_deep_order" s_deep_order ["_law_depth"] f_ldeep d_ldeep) (o_lmany : DefOk K mg "_law_many_names" s_many_names [] f_lmany d_lmany) (o_lvalid : DefOk K mg "_law_valid" s_valid [] f_lvalid d_lvalid) (o_linvalid : DefOk K mg "_law_invalid" s_invalid [] f_linvalid d_linvalid) (o_lright : DefOk K mg "_law_right" s_right ["_law_thing"] f_lright d_lright) (o_llaw : DefOk K mg "law" s_law ["_law_script"] f_llaw d_llaw) (o_space : DefOk K mg "is_space" s_is_space ["value"] f_space d_space)
    (G_leaf_size : ∀ base : Heap, FnOk P w K mg base CX0 9 f_lleafsize d_lleafsize ["_law_thing"] (spOptT leafB)) (G_space : ∀ base : Heap, FnOk P w K mg base CX0 13 f_space d_space ["value"] spSpace)
    (kb : KBinds K d_space ["value"] ["value"] (fun us ws => us ++ ws) (fun vs zs => vs ++ zs)) (base : Heap) : FnG P w K mg base 21 f_llaw d_llaw ["_law_script"] (spLaw K) := by
  have GO : FnOk P w K mg base CX0 8 f_lorder d_lorder ["_law_deck_here", "_law_names_here"] (spOrdM 5) := okl_orderM o_lorder.F o_lorder.b o_lorder.g nm o_ldraw o_lpick 5
  have GL : FnOk P w K mg base CX0 9 f_lleaf d_lleaf ["_law_deck_here", "_law_large"] spLeaf := okl_mleaf o_lleaf.F nm zs zm zn o_ldraw o_lnames o_lcounts o_lorder GO o_lauto
  have B14 : FnOk P w K mg base CX0 18 f_lbent d_lbent ["_law_deck_here", "_law_thing"] (spBent 14) := okl_bent o_lbent.F o_lbent.b o_lbent.g nm zl o_ldraw o_lpick o_lother 14
  have B16 : FnOk P w K mg base CX0 20 f_lbent d_lbent ["_law_deck_here", "_law_thing"] (spBent 16) := okl_bent o_lbent.F o_lbent.b o_lbent.g nm zl o_ldraw o_lpick o_lother 16
  have GR : FnG P w K mg base 14 f_lright d_lright ["_law_thing"] spRight := okl_right o_lright.F nm zr eS o_lleafsize G_leaf_size o_space G_space kb
  exact ok_law o_llaw.F nm zl o_ldeck o_ldraw o_lvalid o_linvalid o_space o_lright o_lleaf o_lbent (okl_valid o_lvalid.F nm o_lmany o_ltall o_ldeep) (okl_invalid o_linvalid.F nm o_lmany o_ltall o_ldeep) (G_space base) GR GL B14 B16
end
theorem funD_mk {K : PySem.W.Frag} {x qual : Str} {params : Arguments} {body : List Stmt} {scope : Scope} {dvs : List V} {f T : Addr} {oc : Value} {od an : Option Addr} {osl : Array (Option Value)} {kV doc pm cdv ct : Value} {o : Obj} {its : List Value} {n : Nat}
    (l : K.lookup f = some ⟨oc, od, .func (PySem.W.fnOf x qual params body scope (.ref T) kV doc pm an cdv ct), osl⟩) (c : PySem.W.codeIn K cdv qual = true) (k : PySem.W.keepIn K (.ref f) = true) (t : K.lookup T = some o) (d : o.data = .seq its.toArray n) (r : Vals dvs its) (ne : dvs ≠ []) :
    FunD K x qual params body scope dvs [] f (PySem.W.fnOf x qual params body scope (.ref T) kV doc pm an cdv ct) := ⟨⟨oc, od, .ref T, kV, doc, pm, an, cdv, ct, osl, rfl, l, c, .inr ⟨ne, T, o, its, n, rfl, t, d, r⟩, .inl rfl⟩, k⟩
theorem mul_binds {K : PySem.W.Frag} {f : Addr} {fd : FuncData} (F : FunD K "multiply" "multiply" (defArgs sMul) (defBody sMul) (defScope sMul) [.non] [] f fd) : L2.Binds K fd ["factors", "bound"] [Value.none] := by
  obtain ⟨ds, v, b⟩ := F.binds1 (ps := ["factors", "bound"]) 1 0 (by simp) rfl fun T kV doc pm an cdv ct us its h1 h2 => match us, its, h1, h2 with
    | [_], [_], _, _ => ⟨_, rfl, rfl⟩
  have v' : Vals [V.non] ds := v
  cases v' with
  | cons r rs =>
    cases rs
    obtain rfl : _ = Value.none := r
    exact b
theorem js_binds {K : PySem.W.Frag} {f : Addr} {fd : FuncData} (F : FunD K "joined_size" "joined_size" (defArgs sJSize) (defBody sJSize) (defScope sJSize) [.non] [] f fd) : L2.Binds K fd ["space", "sizes", "bound"] [] := by
  obtain ⟨ds, v, b⟩ := F.binds1 (ps := ["space", "sizes", "bound"]) 3 1 (by simp) rfl fun T kV doc pm an cdv ct us its h1 h2 => match us, its, h1, h2 with
    | [_, _, _], [_], _, _ => ⟨_, rfl, rfl⟩
  have v' : Vals [] ds := v
  cases v'
  exact b
theorem def_mk {K : PySem.W.Frag} {h : Heap} {mg : Str → Option Value} {x : Str} {st : Stmt} {ps : List Str} {f : Addr} {oc : Value} {od an : Option Addr} {osl : Array (Option Value)} {kV doc pm cdv ct : Value} (X : K.In h) (G : h.Ns mainGlobals mg)
    (a : PySem.W.nsIn K mainGlobals x = some (some (.ref f))) (l : K.lookup f = some ⟨oc, od, .func (PySem.W.fnOf x x (defArgs st) (defBody st) (defScope st) .none kV doc pm an cdv ct), osl⟩) (c : PySem.W.codeIn K cdv x = true) (k : PySem.W.keepIn K (.ref f) = true)
    (hb : ∀ (kV doc pm : Value) (an : Option Addr) (cdv ct : Value) (us : List Value), us.length = ps.length → bindArgs (PySem.W.fnOf x x (defArgs st) (defBody st) (defScope st) .none kV doc pm an cdv ct) ⟨us, []⟩ = pure (ps.zip us)) :
    DefOk K mg x st ps f (PySem.W.fnOf x x (defArgs st) (defBody st) (defScope st) .none kV doc pm an cdv ct) := ⟨fun_mk l c k, (fun_mk l c k).binds hb, PySem.W.mg_of X G a⟩
theorem all_mk {l : PySem.W.OpenLaw} {w : World} {K : PySem.W.Frag} {h : Heap} {mg : Str → Option Value} {fa fM fJ dL dC dS : Addr} {dM dJ : FuncData} {f_raise f_multi f_moved f_isint f_btw f_name f_tup f_asc f_auto f_moves f_move f_state f_states f_countstr f_moveon f_order f_ord f_names f_osize f_well f_nested f_part f_subset f_word f_counts f_count f_arr f_walk f_cycle f_matching f_perm f_tree f_string f_row f_power f_deco f_jleaves f_subsize f_wordsize f_arrsize f_walksize f_step f_cycsize f_matsize f_permsize f_treesize f_strsize f_space f_measure f_ldeck f_ldraw f_lpick f_lint f_lname f_lrises f_lchoose f_lword f_losize f_lwalk f_lstring f_lperm f_lleafsize f_lnames f_lorder f_lcounts f_lauto f_lleaf f_lother f_lbent f_ltall f_ldeep f_lmany f_lvalid f_linvalid f_lright f_llaw : Addr} {d_raise d_multi d_moved d_isint d_btw d_name d_tup d_asc d_auto d_moves d_move d_state d_states d_countstr d_moveon d_order d_ord d_names d_osize d_well d_nested d_part d_subset d_word d_counts d_count d_arr d_walk d_cycle d_matching d_perm d_tree d_string d_row d_power d_deco d_jleaves d_subsize d_wordsize d_arrsize d_walksize d_step d_cycsize d_matsize d_permsize d_treesize d_strsize d_space d_measure d_ldeck d_ldraw d_lpick d_lint d_lname d_lrises d_lchoose d_lword d_losize d_lwalk d_lstring d_lperm d_lleafsize d_lnames d_lorder d_lcounts d_lauto d_lleaf d_lother d_lbent d_ltall d_ldeep d_lmany d_lvalid d_linvalid d_lright d_llaw : FuncData} {u0 u1 u2 u3 u4 u5 u6 u7 u8 u9 u10 u11 u12 v0 v1 v2 v3 v4 v5 v6 v7 v8 v9 v10 v11 v12 : Tok} {esL esC esS : Array DictEntry} {mL mC mS : Nat} (X : K.In h) (G : h.Ns mainGlobals mg) (hfa : mg "law" = some (.ref fa))
    (n0 : PySem.W.nsIn K mainGlobals "isinstance" = some none)
    (n1 : PySem.W.nsIn K mainGlobals "int" = some none)
    (n2 : PySem.W.nsIn K mainGlobals "bool" = some none)
    (n3 : PySem.W.nsIn K mainGlobals "str" = some none)
    (n4 : PySem.W.nsIn K mainGlobals "tuple" = some none)
    (n5 : PySem.W.nsIn K mainGlobals "len" = some none)
    (n6 : PySem.W.nsIn K mainGlobals "all" = some none)
    (n7 : PySem.W.nsIn K mainGlobals "zip" = some none)
    (n8 : PySem.W.nsIn K mainGlobals "sum" = some none)
    (n9 : PySem.W.nsIn K mainGlobals "set" = some none)
    (n10 : PySem.W.nsIn K mainGlobals "range" = some none)
    (c0 : PySem.W.nsIn K mainGlobals "MOST_PLACES" = some (some (.int 400 u0)))
    (c1 : PySem.W.nsIn K mainGlobals "MOST_STEPS" = some (some (.int 60 u1)))
    (c2 : PySem.W.nsIn K mainGlobals "MOST_PAIRS" = some (some (.int 200 u2)))
    (c3 : PySem.W.nsIn K mainGlobals "HIGHEST" = some (some (.int 60 u3)))
    (c4 : PySem.W.nsIn K mainGlobals "MOST_LETTERS" = some (some (.int 6 u4)))
    (c5 : PySem.W.nsIn K mainGlobals "MOST_MOVES" = some (some (.int 48 u5)))
    (c6 : PySem.W.nsIn K mainGlobals "LAST_STATE" = some (some (.int 7 u6)))
    (c7 : PySem.W.nsIn K mainGlobals "MOST_NESTED" = some (some (.int 6 u7)))
    (c8 : PySem.W.nsIn K mainGlobals "DEEPEST" = some (some (.int 6 u8)))
    (c9 : PySem.W.nsIn K mainGlobals "MOST_PARTS" = some (some (.int 40 u9)))
    (c10 : PySem.W.nsIn K mainGlobals "LONGEST_NAME" = some (some (.int 6 u10)))
    (c11 : PySem.W.nsIn K mainGlobals "DIGITS" = some (some (.int 4000 u11)))
    (c12 : PySem.W.nsIn K mainGlobals "LEAVES" = some (some (.int 2000 u12)))
    (z0 : PySem.W.nsIn K mainGlobals "list" = some none)
    (z1 : PySem.W.nsIn K mainGlobals "max" = some none)
    (z2 : PySem.W.nsIn K mainGlobals "min" = some none)
    (z3 : PySem.W.nsIn K mainGlobals "sorted" = some none)
    (z4 : PySem.W.nsIn K mainGlobals "repr" = some none)
    (z5 : PySem.W.nsIn K mainGlobals "dict" = some none)
    (e1 : PySem.W.nsIn K mainGlobals "comb" = some (some (.builtin "math.comb")))
    (e2 : PySem.W.nsIn K mainGlobals "factorial" = some (some (.builtin "math.factorial")))
    (eS : PySem.W.nsIn K cStatics "sys.int_max_str_digits" = some none)
    (o_raise : DefOk K mg "raise_to" sRaise ["base", "exponent"] f_raise d_raise)
    (o_multi : DefOk K mg "multinomial" sMulti ["counts"] f_multi d_multi)
    (o_moved : DefOk K mg "count_moved" sMoved ["n", "moved"] f_moved d_moved)
    (o_isint : DefOk K mg "is_integer" sIsInt ["value"] f_isint d_isint)
    (o_btw : DefOk K mg "is_between" sBtw ["value", "low", "high"] f_btw d_btw)
    (o_name : DefOk K mg "is_name" sName ["value"] f_name d_name)
    (o_tup : DefOk K mg "is_tuple" sTup ["value", "least", "most"] f_tup d_tup)
    (o_asc : DefOk K mg "is_ascending" sAsc ["items"] f_asc d_asc)
    (o_auto : DefOk K mg "is_automaton" sAuto ["value"] f_auto d_auto)
    (o_moves : DefOk K mg "are_moves" sMoves ["moves"] f_moves d_moves)
    (o_move : DefOk K mg "is_move" sIsMove ["move"] f_move d_move)
    (o_state : DefOk K mg "is_state" sIsState ["value"] f_state d_state)
    (o_states : DefOk K mg "are_states" sAreStates ["value"] f_states d_states)
    (o_countstr : DefOk K mg "count_strings" sCountStr ["automaton", "n"] f_countstr d_countstr)
    (o_moveon : DefOk K mg "move_on" sMoveOn ["moves", "ways"] f_moveon d_moveon)
    (o_order : DefOk K mg "is_order" sIsOrder ["value"] f_order d_order)
    (o_ord : DefOk K mg "has_order_form" sOrd ["value", "depth"] f_ord d_ord)
    (o_names : DefOk K mg "names_of" sNames ["order"] f_names d_names)
    (o_osize : DefOk K mg "order_size" sOSize ["order"] f_osize d_osize)
    (o_well : DefOk K mg "is_well_formed" sWell ["value"] f_well d_well)
    (o_nested : DefOk K mg "nested_spaces" sNested ["space"] f_nested d_nested)
    (o_part : DefOk K mg "is_part" sPart ["value"] f_part d_part)
    (o_subset : DefOk K mg "is_subset" sSubset ["space"] f_subset d_subset)
    (o_word : DefOk K mg "is_word" sWord ["space"] f_word d_word)
    (o_counts : DefOk K mg "are_counts" sCounts ["counts"] f_counts d_counts)
    (o_count : DefOk K mg "is_count" sIsCount ["pair"] f_count d_count)
    (o_arr : DefOk K mg "is_arrangement" sArr ["space"] f_arr d_arr)
    (o_walk : DefOk K mg "is_walk" sWalk ["space"] f_walk d_walk)
    (o_cycle : DefOk K mg "is_cycle" sCycle ["space"] f_cycle d_cycle)
    (o_matching : DefOk K mg "is_matching" sMatching ["space"] f_matching d_matching)
    (o_perm : DefOk K mg "is_permutation" sPerm ["space"] f_perm d_perm)
    (o_tree : DefOk K mg "is_tree" sTree ["space"] f_tree d_tree)
    (o_string : DefOk K mg "is_string" sString ["space"] f_string d_string)
    (o_row : DefOk K mg "is_row" sRow ["space"] f_row d_row)
    (o_power : DefOk K mg "is_power" sPower ["space"] f_power d_power)
    (o_deco : DefOk K mg "is_decorated" sDeco ["space"] f_deco d_deco)
    (o_jleaves : DefOk K mg "joined_leaves" sJLeaves ["space", "leaves"] f_jleaves d_jleaves)
    (o_subsize : DefOk K mg "subset_size" sSubSize ["space"] f_subsize d_subsize)
    (o_wordsize : DefOk K mg "word_size" sWordSize ["space"] f_wordsize d_wordsize)
    (o_arrsize : DefOk K mg "arrangement_size" sArrSize ["space"] f_arrsize d_arrsize)
    (o_walksize : DefOk K mg "walk_size" sWalkSize ["space"] f_walksize d_walksize)
    (o_step : DefOk K mg "step_on" sStep ["ways", "low", "high"] f_step d_step)
    (o_cycsize : DefOk K mg "cycle_size" sCycSize ["space"] f_cycsize d_cycsize)
    (o_matsize : DefOk K mg "matching_size" sMatSize ["space"] f_matsize d_matsize)
    (o_permsize : DefOk K mg "permutation_size" sPermSize ["space"] f_permsize d_permsize)
    (o_treesize : DefOk K mg "tree_size" sTreeSize ["space"] f_treesize d_treesize)
    (o_strsize : DefOk K mg "string_size" sStrSize ["space"] f_strsize d_strsize)
    (o_space : DefOk K mg "is_space" s_is_space ["value"] f_space d_space)
    (o_measure : DefOk K mg "measure" sMeasure ["space", "bound"] f_measure d_measure)
    (o_ldeck : DefOk K mg "_law_deck" sDeck ["_law_script"] f_ldeck d_ldeck)
    (o_ldraw : DefOk K mg "_law_draw" sDraw ["_law_deck_here", "_law_bound"] f_ldraw d_ldraw)
    (o_lpick : DefOk K mg "_law_pick" sPick ["_law_deck_here", "_law_items"] f_lpick d_lpick)
    (o_lint : DefOk K mg "_law_is_int" s_is_int ["_law_thing", "_law_low", "_law_high"] f_lint d_lint)
    (o_lname : DefOk K mg "_law_is_name" s_is_name ["_law_thing"] f_lname d_lname)
    (o_lrises : DefOk K mg "_law_rises" s_rises ["_law_items"] f_lrises d_lrises)
    (o_lchoose : DefOk K mg "_law_choose" s_choose ["_law_n", "_law_k"] f_lchoose d_lchoose)
    (o_lword : DefOk K mg "_law_word_size" s_word_size ["_law_counts_here"] f_lword d_lword)
    (o_losize : DefOk K mg "_law_order_size" s_order_size ["_law_order_here", "_law_depth"] f_losize d_losize)
    (o_lwalk : DefOk K mg "_law_walk_size" s_walk_size ["_law_thing"] f_lwalk d_lwalk)
    (o_lstring : DefOk K mg "_law_string_size" s_string_size ["_law_thing"] f_lstring d_lstring)
    (o_lperm : DefOk K mg "_law_permutation_size" s_permutation_size ["_law_thing"] f_lperm d_lperm)
    (o_lleafsize : DefOk K mg "_law_leaf_size" s_leaf_size ["_law_thing"] f_lleafsize d_lleafsize)
    (o_lnames : DefOk K mg "_law_names" s_names ["_law_deck_here", "_law_many"] f_lnames d_lnames)
    (o_lorder : DefOk K mg "_law_order" s_order ["_law_deck_here", "_law_names_here"] f_lorder d_lorder)
    (o_lcounts : DefOk K mg "_law_counts" s_counts ["_law_deck_here", "_law_total"] f_lcounts d_lcounts)
    (o_lauto : DefOk K mg "_law_automaton" s_automaton ["_law_deck_here"] f_lauto d_lauto)
    (o_lleaf : DefOk K mg "_law_leaf" s_leaf ["_law_deck_here", "_law_large"] f_lleaf d_lleaf)
    (o_lother : DefOk K mg "_law_other" s_other ["_law_deck_here", "_law_thing"] f_lother d_lother)
    (o_lbent : DefOk K mg "_law_bent" s_bent ["_law_deck_here", "_law_thing"] f_lbent d_lbent)
    (o_ltall : DefOk K mg "_law_tall_order" s_tall_order ["_law_names_here"] f_ltall d_ltall)
    (o_ldeep : DefOk K mg "_law_deep_order" s_deep_order ["_law_depth"] f_ldeep d_ldeep)
    (o_lmany : DefOk K mg "_law_many_names" s_many_names [] f_lmany d_lmany)
    (o_lvalid : DefOk K mg "_law_valid" s_valid [] f_lvalid d_lvalid)
    (o_linvalid : DefOk K mg "_law_invalid" s_invalid [] f_linvalid d_linvalid)
    (o_lright : DefOk K mg "_law_right" s_right ["_law_thing"] f_lright d_lright)
    (o_llaw : DefOk K mg "law" s_law ["_law_script"] f_llaw d_llaw)
    (FM : FunD K "multiply" "multiply" (defArgs sMul) (defBody sMul) (defScope sMul) [.non] [] fM dM)
    (gM : PySem.W.nsIn K mainGlobals "multiply" = some (some (.ref fM)))
    (FJ : FunD K "joined_size" "joined_size" (defArgs sJSize) (defBody sJSize) (defScope sJSize) [.non] [] fJ dJ)
    (gJ : PySem.W.nsIn K mainGlobals "joined_size" = some (some (.ref fJ)))
    (gL : PySem.W.nsIn K mainGlobals "LENGTHS" = some (some (.ref dL)))
    (aL : K.lookup dL = some ⟨.type "dict", none, .dict esL mL, #[]⟩)
    (kL : PySem.W.KeysLit w.params esL.toList)
    (wL : (dL == sysModules) = false)
    (gC : PySem.W.nsIn K mainGlobals "CHECKS" = some (some (.ref dC)))
    (aC : K.lookup dC = some ⟨.type "dict", none, .dict esC mC, #[]⟩)
    (kC : PySem.W.KeysLit w.params esC.toList)
    (wC : (dC == sysModules) = false)
    (gS : PySem.W.nsIn K mainGlobals "LEAF_SIZES" = some (some (.ref dS)))
    (aS : K.lookup dS = some ⟨.type "dict", none, .dict esS mS, #[]⟩)
    (kS : PySem.W.KeysLit w.params esS.toList)
    (wS : (dS == sysModules) = false)
    (kk : esL.toList.map keyS = (["subset", "word", "arrangement", "walk", "cycle", "matching", "permutation", "tree", "string", "product", "choice", "power", "decorated"] : List Str).map some)
    (l0 : PySem.W.nsIn K dL "subset" = some (some (.int 3 v0)))
    (l1 : PySem.W.nsIn K dL "word" = some (some (.int 2 v1)))
    (l2 : PySem.W.nsIn K dL "arrangement" = some (some (.int 2 v2)))
    (l3 : PySem.W.nsIn K dL "walk" = some (some (.int 6 v3)))
    (l4 : PySem.W.nsIn K dL "cycle" = some (some (.int 2 v4)))
    (l5 : PySem.W.nsIn K dL "matching" = some (some (.int 2 v5)))
    (l6 : PySem.W.nsIn K dL "permutation" = some (some (.int 3 v6)))
    (l7 : PySem.W.nsIn K dL "tree" = some (some (.int 2 v7)))
    (l8 : PySem.W.nsIn K dL "string" = some (some (.int 3 v8)))
    (l9 : PySem.W.nsIn K dL "product" = some (some (.int 2 v9)))
    (l10 : PySem.W.nsIn K dL "choice" = some (some (.int 2 v10)))
    (l11 : PySem.W.nsIn K dL "power" = some (some (.int 3 v11)))
    (l12 : PySem.W.nsIn K dL "decorated" = some (some (.int 3 v12)))
    (r0 : PySem.W.nsIn K dC "subset" = some (some (.ref f_subset)))
    (r1 : PySem.W.nsIn K dC "word" = some (some (.ref f_word)))
    (r2 : PySem.W.nsIn K dC "arrangement" = some (some (.ref f_arr)))
    (r3 : PySem.W.nsIn K dC "walk" = some (some (.ref f_walk)))
    (r4 : PySem.W.nsIn K dC "cycle" = some (some (.ref f_cycle)))
    (r5 : PySem.W.nsIn K dC "matching" = some (some (.ref f_matching)))
    (r6 : PySem.W.nsIn K dC "permutation" = some (some (.ref f_perm)))
    (r7 : PySem.W.nsIn K dC "tree" = some (some (.ref f_tree)))
    (r8 : PySem.W.nsIn K dC "string" = some (some (.ref f_string)))
    (r9 : PySem.W.nsIn K dC "product" = some (some (.ref f_row)))
    (r10 : PySem.W.nsIn K dC "choice" = some (some (.ref f_row)))
    (r11 : PySem.W.nsIn K dC "power" = some (some (.ref f_power)))
    (r12 : PySem.W.nsIn K dC "decorated" = some (some (.ref f_deco)))
    (s0 : PySem.W.nsIn K dS "subset" = some (some (.ref f_subsize)))
    (s1 : PySem.W.nsIn K dS "word" = some (some (.ref f_wordsize)))
    (s2 : PySem.W.nsIn K dS "arrangement" = some (some (.ref f_arrsize)))
    (s3 : PySem.W.nsIn K dS "walk" = some (some (.ref f_walksize)))
    (s4 : PySem.W.nsIn K dS "cycle" = some (some (.ref f_cycsize)))
    (s5 : PySem.W.nsIn K dS "matching" = some (some (.ref f_matsize)))
    (s6 : PySem.W.nsIn K dS "permutation" = some (some (.ref f_permsize)))
    (s7 : PySem.W.nsIn K dS "tree" = some (some (.ref f_treesize)))
    (s8 : PySem.W.nsIn K dS "string" = some (some (.ref f_strsize)))
    (ndK : ((sps f_subset f_word f_arr f_walk f_cycle f_matching f_perm f_tree f_string f_row f_power f_deco).map (·.1)).Nodup)
    (ndS : ((szs f_subsize f_wordsize f_arrsize f_walksize f_cycsize f_matsize f_permsize f_treesize f_strsize).map (·.1)).Nodup)
    (kb1 : ∀ (s : Shared) (u : Value), BindsTo s d_space ⟨[u], []⟩ [("value", u)])
    (kb2 : ∀ (s : Shared) (u : Value), BindsTo s d_space ⟨[], [("value", u)]⟩ [("value", u)])
    (hbind : ∀ (s : Shared) (u : Value), BindsTo s d_llaw ⟨[u], []⟩ [("_law_script", u)]) :
    ∃ fd : FuncData, (∀ (s : Shared) (u : Value), BindsTo s fd ⟨[u], []⟩ [("_law_script", u)]) ∧ ∀ base : Heap, K.In base → base.Ns mainGlobals mg → FnG l.prog w K mg base 21 fa fd ["_law_script"] (spLaw K) := by
  have e := hfa.symm.trans o_llaw.g
  cases e
  have nm : Nm mg := ⟨PySem.W.mg_none_of X G n0, PySem.W.mg_none_of X G n1, PySem.W.mg_none_of X G n2, PySem.W.mg_none_of X G n3, PySem.W.mg_none_of X G n4, PySem.W.mg_none_of X G n5, PySem.W.mg_none_of X G n6, PySem.W.mg_none_of X G n7, PySem.W.mg_none_of X G n8, PySem.W.mg_none_of X G n9, PySem.W.mg_none_of X G n10⟩
  have Z : Cst mg := ⟨⟨_, PySem.W.mg_of X G c0⟩, ⟨_, PySem.W.mg_of X G c1⟩, ⟨_, PySem.W.mg_of X G c2⟩, ⟨_, PySem.W.mg_of X G c3⟩, ⟨_, PySem.W.mg_of X G c4⟩, ⟨_, PySem.W.mg_of X G c5⟩, ⟨_, PySem.W.mg_of X G c6⟩, ⟨_, PySem.W.mg_of X G c7⟩, ⟨_, PySem.W.mg_of X G c8⟩, ⟨_, PySem.W.mg_of X G c9⟩, ⟨_, PySem.W.mg_of X G c10⟩, ⟨_, PySem.W.mg_of X G c11⟩, ⟨_, PySem.W.mg_of X G c12⟩⟩
  have t0 : mg "list" = none := PySem.W.mg_none_of X G z0
  have t1 : mg "max" = none := PySem.W.mg_none_of X G z1
  have t2 : mg "min" = none := PySem.W.mg_none_of X G z2
  have t3 : mg "sorted" = none := PySem.W.mg_none_of X G z3
  have t4 : mg "repr" = none := PySem.W.mg_none_of X G z4
  have t5 : mg "dict" = none := PySem.W.mg_none_of X G z5
  have hc1 := PySem.W.mg_of X G e1
  have hc2 := PySem.W.mg_of X G e2
  have KL : ∃ es n, KDict K w dL es n := ⟨_, _, aL, kL, wL⟩
  have KC : ∃ es n, KDict K w dC es n := ⟨_, _, aC, kC, wC⟩
  have KS : ∃ es n, KDict K w dS es n := ⟨_, _, aS, kS, wS⟩
  have ml : ∀ z, z ∉ (tbl f_subset f_word f_arr f_walk f_cycle f_matching f_perm f_tree f_string f_row f_power f_deco).map (·.1) → PySem.W.nsIn K dL z = some none := fun z hz => nsIn_miss aL _ kk hz
  have hL : ∀ q ∈ tbl f_subset f_word f_arr f_walk f_cycle f_matching f_perm f_tree f_string f_row f_power f_deco, ∃ t, PySem.W.nsIn K dL q.1 = some (some (.int q.2.len t)) := tbl_all (Q := fun z n _ => ∃ t, PySem.W.nsIn K dL z = some (some (.int n t))) ⟨_, l0⟩ ⟨_, l1⟩ ⟨_, l2⟩ ⟨_, l3⟩ ⟨_, l4⟩ ⟨_, l5⟩ ⟨_, l6⟩ ⟨_, l7⟩ ⟨_, l8⟩ ⟨_, l9⟩ ⟨_, l10⟩ ⟨_, l11⟩ ⟨_, l12⟩
  have hC : ∀ q ∈ tbl f_subset f_word f_arr f_walk f_cycle f_matching f_perm f_tree f_string f_row f_power f_deco, PySem.W.nsIn K dC q.1 = some (some (.ref q.2.f)) := tbl_all (Q := fun z _ f => PySem.W.nsIn K dC z = some (some (.ref f))) r0 r1 r2 r3 r4 r5 r6 r7 r8 r9 r10 r11 r12
  have bM := mul_binds FM
  have bJ := js_binds FJ
  have W : ∀ base : Heap, FnOk l.prog w K mg base CX0 12 f_well d_well ["value"] (spP isWf) := well_mk nm Z o_isint o_btw o_tup o_name o_asc o_auto o_moves o_move o_state o_states o_order o_ord o_names o_well o_nested o_part o_subset o_word o_arr o_walk o_cycle o_matching o_perm o_tree o_string o_row o_power o_deco o_counts o_count (PySem.W.mg_of X G gL) (PySem.W.mg_of X G gC) KL KC ml hL hC ndK
  have M : ∀ base : Heap, FnOk l.prog w K mg base CX0 11 f_measure d_measure ["space", "bound"] spMeasure := measure_mk nm Z t0 t1 hc1 hc2 o_subsize o_wordsize o_arrsize o_walksize o_cycsize o_matsize o_permsize o_treesize o_strsize o_raise o_multi o_moved o_names o_osize o_step o_moveon o_countstr o_nested o_measure o_jleaves FJ bJ (PySem.W.mg_of X G gJ) ⟨fM, dM, FM, bM, PySem.W.mg_of X G gM⟩ (PySem.W.mg_of X G gS) KS ndS s0 s1 s2 s3 s4 s5 s6 s7 s8
  have S : ∀ base : Heap, FnOk l.prog w K mg base CX0 13 f_space d_space ["value"] spSpace := fun base => ok_space o_space.F Z o_well (W base) o_measure (M base) o_raise
  have LS : ∀ base : Heap, FnOk l.prog w K mg base CX0 9 f_lleafsize d_lleafsize ["_law_thing"] (spOptT leafB) := leafsize_mk nm t0 t1 t5 o_lint o_lname o_lrises o_lchoose o_lword o_losize o_lwalk o_lstring o_lperm o_lleafsize
  have kb : KBinds K d_space ["value"] ["value"] (fun us ws => us ++ ws) (fun vs zs => vs ++ zs) := by
    refine ⟨fun s us ws _ hl => ?_, fun a b => a.append b⟩
    match us, ws, hl with
    | [u], [], _ => exact kb1 s u
    | [], [u], _ => exact kb2 s u
    | [], [], hl => cases hl
    | _ :: _ :: _, _, hl => simp at hl
    | [_], _ :: _, hl => simp at hl
    | [], _ :: _ :: _, hl => simp at hl
  exact ⟨d_llaw, hbind, fun base _ _ => law_mk nm t0 t1 t2 t3 t4 eS o_ldeck o_ldraw o_lpick o_lleafsize o_lnames o_lorder o_lcounts o_lauto o_lleaf o_lother o_lbent o_ltall o_ldeep o_lmany o_lvalid o_linvalid o_lright o_llaw o_space LS S kb base⟩
theorem law_sp (K : PySem.W.Frag) (H : Hp) (a : Addr) (ns : List Int) (hl : ns.length ≤ 63) (_ : Only H) (hS : SqL K H a (ns.map V.int)) : spLaw K [.ref a] H (fun v _ => v = .bl true) fun _ _ _ => False := ⟨a, ns, rfl, hS, hl, fun _ => rfl⟩
end K2
open PySem PySem.W PyProof.Rows
set_option maxRecDepth 100000 in
set_option maxHeartbeats 0 in
theorem PySem.Challenge.cw_undrawn_k02_leaves_of_any_value_holds : PySem.Challenge.rw_undrawn_k02_leaves_of_any_value.Holds := by
  w_on; o_law; k_head; (case hw => w_witness2)
  k_fill
  refine L2.walk_G (l := PySem.Challenge.rw_undrawn_k02_leaves_of_any_value) (n := 63) (k := 21) (x := "_law_script") (sp := K2.spLaw) rfl (by decide) rfl ⟨rfl, by decide, by decide⟩ (fun w h Y => PySem.W.kIn_of Y) ?F K2.law_sp
  case F =>
    intro w mg fa h KX G hmg
    refine' K2.all_mk KX G hmg ?n0 ?n1 ?n2 ?n3 ?n4 ?n5 ?n6 ?n7 ?n8 ?n9 ?n10 ?c0 ?c1 ?c2 ?c3 ?c4 ?c5 ?c6 ?c7 ?c8 ?c9 ?c10 ?c11 ?c12 ?z0 ?z1 ?z2 ?z3 ?z4 ?z5 ?e1 ?e2 ?eS ?o_raise ?o_multi ?o_moved ?o_isint ?o_btw ?o_name ?o_tup ?o_asc ?o_auto ?o_moves ?o_move ?o_state ?o_states ?o_countstr ?o_moveon ?o_order ?o_ord ?o_names ?o_osize ?o_well ?o_nested ?o_part ?o_subset ?o_word ?o_counts ?o_count ?o_arr ?o_walk ?o_cycle ?o_matching ?o_perm ?o_tree ?o_string ?o_row ?o_power ?o_deco ?o_jleaves ?o_subsize ?o_wordsize ?o_arrsize ?o_walksize ?o_step ?o_cycsize ?o_matsize ?o_permsize ?o_treesize ?o_strsize ?o_space ?o_measure ?o_ldeck ?o_ldraw ?o_lpick ?o_lint ?o_lname ?o_lrises ?o_lchoose ?o_lword ?o_losize ?o_lwalk ?o_lstring ?o_lperm ?o_lleafsize ?o_lnames ?o_lorder ?o_lcounts ?o_lauto ?o_lleaf ?o_lother ?o_lbent ?o_ltall ?o_ldeep ?o_lmany ?o_lvalid ?o_linvalid ?o_lright ?o_llaw ?FM ?gM ?FJ ?gJ ?gL ?aL ?kL ?wL ?gC ?aC ?kC ?wC ?gS ?aS ?kS ?wS ?kk ?l0 ?l1 ?l2 ?l3 ?l4 ?l5 ?l6 ?l7 ?l8 ?l9 ?l10 ?l11 ?l12 ?r0 ?r1 ?r2 ?r3 ?r4 ?r5 ?r6 ?r7 ?r8 ?r9 ?r10 ?r11 ?r12 ?s0 ?s1 ?s2 ?s3 ?s4 ?s5 ?s6 ?s7 ?s8 ?ndK ?ndS ?kb1 ?kb2 ?hbind
    (case n0 => k_is)
    (case n1 => k_is)
    (case n2 => k_is)
    (case n3 => k_is)
    (case n4 => k_is)
    (case n5 => k_is)
    (case n6 => k_is)
    (case n7 => k_is)
    (case n8 => k_is)
    (case n9 => k_is)
    (case n10 => k_is)
    (case c0 => k_is)
    (case c1 => k_is)
    (case c2 => k_is)
    (case c3 => k_is)
    (case c4 => k_is)
    (case c5 => k_is)
    (case c6 => k_is)
    (case c7 => k_is)
    (case c8 => k_is)
    (case c9 => k_is)
    (case c10 => k_is)
    (case c11 => k_is)
    (case c12 => k_is)
    (case z0 => k_is)
    (case z1 => k_is)
    (case z2 => k_is)
    (case z3 => k_is)
    (case z4 => k_is)
    (case z5 => k_is)
    (case e1 => k_is)
    (case e2 => k_is)
    (case eS => k_is)
    (case o_raise => refine' K2.def_mk KX G ?a ?l ?c ?k (fun _ _ _ _ _ _ us hl => match us, hl with | [_, _], _ => rfl); (case a => k_is); (case l => k_is); (case c => k_is); (case k => k_is))
    (case o_multi => refine' K2.def_mk KX G ?a ?l ?c ?k (fun _ _ _ _ _ _ us hl => match us, hl with | [_], _ => rfl); (case a => k_is); (case l => k_is); (case c => k_is); (case k => k_is))
    (case o_moved => refine' K2.def_mk KX G ?a ?l ?c ?k (fun _ _ _ _ _ _ us hl => match us, hl with | [_, _], _ => rfl); (case a => k_is); (case l => k_is); (case c => k_is); (case k => k_is))
    (case o_isint => refine' K2.def_mk KX G ?a ?l ?c ?k (fun _ _ _ _ _ _ us hl => match us, hl with | [_], _ => rfl); (case a => k_is); (case l => k_is); (case c => k_is); (case k => k_is))
    (case o_btw => refine' K2.def_mk KX G ?a ?l ?c ?k (fun _ _ _ _ _ _ us hl => match us, hl with | [_, _, _], _ => rfl); (case a => k_is); (case l => k_is); (case c => k_is); (case k => k_is))
    (case o_name => refine' K2.def_mk KX G ?a ?l ?c ?k (fun _ _ _ _ _ _ us hl => match us, hl with | [_], _ => rfl); (case a => k_is); (case l => k_is); (case c => k_is); (case k => k_is))
    (case o_tup => refine' K2.def_mk KX G ?a ?l ?c ?k (fun _ _ _ _ _ _ us hl => match us, hl with | [_, _, _], _ => rfl); (case a => k_is); (case l => k_is); (case c => k_is); (case k => k_is))
    (case o_asc => refine' K2.def_mk KX G ?a ?l ?c ?k (fun _ _ _ _ _ _ us hl => match us, hl with | [_], _ => rfl); (case a => k_is); (case l => k_is); (case c => k_is); (case k => k_is))
    (case o_auto => refine' K2.def_mk KX G ?a ?l ?c ?k (fun _ _ _ _ _ _ us hl => match us, hl with | [_], _ => rfl); (case a => k_is); (case l => k_is); (case c => k_is); (case k => k_is))
    (case o_moves => refine' K2.def_mk KX G ?a ?l ?c ?k (fun _ _ _ _ _ _ us hl => match us, hl with | [_], _ => rfl); (case a => k_is); (case l => k_is); (case c => k_is); (case k => k_is))
    (case o_move => refine' K2.def_mk KX G ?a ?l ?c ?k (fun _ _ _ _ _ _ us hl => match us, hl with | [_], _ => rfl); (case a => k_is); (case l => k_is); (case c => k_is); (case k => k_is))
    (case o_state => refine' K2.def_mk KX G ?a ?l ?c ?k (fun _ _ _ _ _ _ us hl => match us, hl with | [_], _ => rfl); (case a => k_is); (case l => k_is); (case c => k_is); (case k => k_is))
    (case o_states => refine' K2.def_mk KX G ?a ?l ?c ?k (fun _ _ _ _ _ _ us hl => match us, hl with | [_], _ => rfl); (case a => k_is); (case l => k_is); (case c => k_is); (case k => k_is))
    (case o_countstr => refine' K2.def_mk KX G ?a ?l ?c ?k (fun _ _ _ _ _ _ us hl => match us, hl with | [_, _], _ => rfl); (case a => k_is); (case l => k_is); (case c => k_is); (case k => k_is))
    (case o_moveon => refine' K2.def_mk KX G ?a ?l ?c ?k (fun _ _ _ _ _ _ us hl => match us, hl with | [_, _], _ => rfl); (case a => k_is); (case l => k_is); (case c => k_is); (case k => k_is))
    (case o_order => refine' K2.def_mk KX G ?a ?l ?c ?k (fun _ _ _ _ _ _ us hl => match us, hl with | [_], _ => rfl); (case a => k_is); (case l => k_is); (case c => k_is); (case k => k_is))
    (case o_ord => refine' K2.def_mk KX G ?a ?l ?c ?k (fun _ _ _ _ _ _ us hl => match us, hl with | [_, _], _ => rfl); (case a => k_is); (case l => k_is); (case c => k_is); (case k => k_is))
    (case o_names => refine' K2.def_mk KX G ?a ?l ?c ?k (fun _ _ _ _ _ _ us hl => match us, hl with | [_], _ => rfl); (case a => k_is); (case l => k_is); (case c => k_is); (case k => k_is))
    (case o_osize => refine' K2.def_mk KX G ?a ?l ?c ?k (fun _ _ _ _ _ _ us hl => match us, hl with | [_], _ => rfl); (case a => k_is); (case l => k_is); (case c => k_is); (case k => k_is))
    (case o_well => refine' K2.def_mk KX G ?a ?l ?c ?k (fun _ _ _ _ _ _ us hl => match us, hl with | [_], _ => rfl); (case a => k_is); (case l => k_is); (case c => k_is); (case k => k_is))
    (case o_nested => refine' K2.def_mk KX G ?a ?l ?c ?k (fun _ _ _ _ _ _ us hl => match us, hl with | [_], _ => rfl); (case a => k_is); (case l => k_is); (case c => k_is); (case k => k_is))
    (case o_part => refine' K2.def_mk KX G ?a ?l ?c ?k (fun _ _ _ _ _ _ us hl => match us, hl with | [_], _ => rfl); (case a => k_is); (case l => k_is); (case c => k_is); (case k => k_is))
    (case o_subset => refine' K2.def_mk KX G ?a ?l ?c ?k (fun _ _ _ _ _ _ us hl => match us, hl with | [_], _ => rfl); (case a => k_is); (case l => k_is); (case c => k_is); (case k => k_is))
    (case o_word => refine' K2.def_mk KX G ?a ?l ?c ?k (fun _ _ _ _ _ _ us hl => match us, hl with | [_], _ => rfl); (case a => k_is); (case l => k_is); (case c => k_is); (case k => k_is))
    (case o_counts => refine' K2.def_mk KX G ?a ?l ?c ?k (fun _ _ _ _ _ _ us hl => match us, hl with | [_], _ => rfl); (case a => k_is); (case l => k_is); (case c => k_is); (case k => k_is))
    (case o_count => refine' K2.def_mk KX G ?a ?l ?c ?k (fun _ _ _ _ _ _ us hl => match us, hl with | [_], _ => rfl); (case a => k_is); (case l => k_is); (case c => k_is); (case k => k_is))
    (case o_arr => refine' K2.def_mk KX G ?a ?l ?c ?k (fun _ _ _ _ _ _ us hl => match us, hl with | [_], _ => rfl); (case a => k_is); (case l => k_is); (case c => k_is); (case k => k_is))
    (case o_walk => refine' K2.def_mk KX G ?a ?l ?c ?k (fun _ _ _ _ _ _ us hl => match us, hl with | [_], _ => rfl); (case a => k_is); (case l => k_is); (case c => k_is); (case k => k_is))
    (case o_cycle => refine' K2.def_mk KX G ?a ?l ?c ?k (fun _ _ _ _ _ _ us hl => match us, hl with | [_], _ => rfl); (case a => k_is); (case l => k_is); (case c => k_is); (case k => k_is))
    (case o_matching => refine' K2.def_mk KX G ?a ?l ?c ?k (fun _ _ _ _ _ _ us hl => match us, hl with | [_], _ => rfl); (case a => k_is); (case l => k_is); (case c => k_is); (case k => k_is))
    (case o_perm => refine' K2.def_mk KX G ?a ?l ?c ?k (fun _ _ _ _ _ _ us hl => match us, hl with | [_], _ => rfl); (case a => k_is); (case l => k_is); (case c => k_is); (case k => k_is))
    (case o_tree => refine' K2.def_mk KX G ?a ?l ?c ?k (fun _ _ _ _ _ _ us hl => match us, hl with | [_], _ => rfl); (case a => k_is); (case l => k_is); (case c => k_is); (case k => k_is))
    (case o_string => refine' K2.def_mk KX G ?a ?l ?c ?k (fun _ _ _ _ _ _ us hl => match us, hl with | [_], _ => rfl); (case a => k_is); (case l => k_is); (case c => k_is); (case k => k_is))
    (case o_row => refine' K2.def_mk KX G ?a ?l ?c ?k (fun _ _ _ _ _ _ us hl => match us, hl with | [_], _ => rfl); (case a => k_is); (case l => k_is); (case c => k_is); (case k => k_is))
    (case o_power => refine' K2.def_mk KX G ?a ?l ?c ?k (fun _ _ _ _ _ _ us hl => match us, hl with | [_], _ => rfl); (case a => k_is); (case l => k_is); (case c => k_is); (case k => k_is))
    (case o_deco => refine' K2.def_mk KX G ?a ?l ?c ?k (fun _ _ _ _ _ _ us hl => match us, hl with | [_], _ => rfl); (case a => k_is); (case l => k_is); (case c => k_is); (case k => k_is))
    (case o_jleaves => refine' K2.def_mk KX G ?a ?l ?c ?k (fun _ _ _ _ _ _ us hl => match us, hl with | [_, _], _ => rfl); (case a => k_is); (case l => k_is); (case c => k_is); (case k => k_is))
    (case o_subsize => refine' K2.def_mk KX G ?a ?l ?c ?k (fun _ _ _ _ _ _ us hl => match us, hl with | [_], _ => rfl); (case a => k_is); (case l => k_is); (case c => k_is); (case k => k_is))
    (case o_wordsize => refine' K2.def_mk KX G ?a ?l ?c ?k (fun _ _ _ _ _ _ us hl => match us, hl with | [_], _ => rfl); (case a => k_is); (case l => k_is); (case c => k_is); (case k => k_is))
    (case o_arrsize => refine' K2.def_mk KX G ?a ?l ?c ?k (fun _ _ _ _ _ _ us hl => match us, hl with | [_], _ => rfl); (case a => k_is); (case l => k_is); (case c => k_is); (case k => k_is))
    (case o_walksize => refine' K2.def_mk KX G ?a ?l ?c ?k (fun _ _ _ _ _ _ us hl => match us, hl with | [_], _ => rfl); (case a => k_is); (case l => k_is); (case c => k_is); (case k => k_is))
    (case o_step => refine' K2.def_mk KX G ?a ?l ?c ?k (fun _ _ _ _ _ _ us hl => match us, hl with | [_, _, _], _ => rfl); (case a => k_is); (case l => k_is); (case c => k_is); (case k => k_is))
    (case o_cycsize => refine' K2.def_mk KX G ?a ?l ?c ?k (fun _ _ _ _ _ _ us hl => match us, hl with | [_], _ => rfl); (case a => k_is); (case l => k_is); (case c => k_is); (case k => k_is))
    (case o_matsize => refine' K2.def_mk KX G ?a ?l ?c ?k (fun _ _ _ _ _ _ us hl => match us, hl with | [_], _ => rfl); (case a => k_is); (case l => k_is); (case c => k_is); (case k => k_is))
    (case o_permsize => refine' K2.def_mk KX G ?a ?l ?c ?k (fun _ _ _ _ _ _ us hl => match us, hl with | [_], _ => rfl); (case a => k_is); (case l => k_is); (case c => k_is); (case k => k_is))
    (case o_treesize => refine' K2.def_mk KX G ?a ?l ?c ?k (fun _ _ _ _ _ _ us hl => match us, hl with | [_], _ => rfl); (case a => k_is); (case l => k_is); (case c => k_is); (case k => k_is))
    (case o_strsize => refine' K2.def_mk KX G ?a ?l ?c ?k (fun _ _ _ _ _ _ us hl => match us, hl with | [_], _ => rfl); (case a => k_is); (case l => k_is); (case c => k_is); (case k => k_is))
    (case o_space => refine' K2.def_mk KX G ?a ?l ?c ?k (fun _ _ _ _ _ _ us hl => match us, hl with | [_], _ => rfl); (case a => k_is); (case l => k_is); (case c => k_is); (case k => k_is))
    (case o_measure => refine' K2.def_mk KX G ?a ?l ?c ?k (fun _ _ _ _ _ _ us hl => match us, hl with | [_, _], _ => rfl); (case a => k_is); (case l => k_is); (case c => k_is); (case k => k_is))
    (case o_ldeck => refine' K2.def_mk KX G ?a ?l ?c ?k (fun _ _ _ _ _ _ us hl => match us, hl with | [_], _ => rfl); (case a => k_is); (case l => k_is); (case c => k_is); (case k => k_is))
    (case o_ldraw => refine' K2.def_mk KX G ?a ?l ?c ?k (fun _ _ _ _ _ _ us hl => match us, hl with | [_, _], _ => rfl); (case a => k_is); (case l => k_is); (case c => k_is); (case k => k_is))
    (case o_lpick => refine' K2.def_mk KX G ?a ?l ?c ?k (fun _ _ _ _ _ _ us hl => match us, hl with | [_, _], _ => rfl); (case a => k_is); (case l => k_is); (case c => k_is); (case k => k_is))
    (case o_lint => refine' K2.def_mk KX G ?a ?l ?c ?k (fun _ _ _ _ _ _ us hl => match us, hl with | [_, _, _], _ => rfl); (case a => k_is); (case l => k_is); (case c => k_is); (case k => k_is))
    (case o_lname => refine' K2.def_mk KX G ?a ?l ?c ?k (fun _ _ _ _ _ _ us hl => match us, hl with | [_], _ => rfl); (case a => k_is); (case l => k_is); (case c => k_is); (case k => k_is))
    (case o_lrises => refine' K2.def_mk KX G ?a ?l ?c ?k (fun _ _ _ _ _ _ us hl => match us, hl with | [_], _ => rfl); (case a => k_is); (case l => k_is); (case c => k_is); (case k => k_is))
    (case o_lchoose => refine' K2.def_mk KX G ?a ?l ?c ?k (fun _ _ _ _ _ _ us hl => match us, hl with | [_, _], _ => rfl); (case a => k_is); (case l => k_is); (case c => k_is); (case k => k_is))
    (case o_lword => refine' K2.def_mk KX G ?a ?l ?c ?k (fun _ _ _ _ _ _ us hl => match us, hl with | [_], _ => rfl); (case a => k_is); (case l => k_is); (case c => k_is); (case k => k_is))
    (case o_losize => refine' K2.def_mk KX G ?a ?l ?c ?k (fun _ _ _ _ _ _ us hl => match us, hl with | [_, _], _ => rfl); (case a => k_is); (case l => k_is); (case c => k_is); (case k => k_is))
    (case o_lwalk => refine' K2.def_mk KX G ?a ?l ?c ?k (fun _ _ _ _ _ _ us hl => match us, hl with | [_], _ => rfl); (case a => k_is); (case l => k_is); (case c => k_is); (case k => k_is))
    (case o_lstring => refine' K2.def_mk KX G ?a ?l ?c ?k (fun _ _ _ _ _ _ us hl => match us, hl with | [_], _ => rfl); (case a => k_is); (case l => k_is); (case c => k_is); (case k => k_is))
    (case o_lperm => refine' K2.def_mk KX G ?a ?l ?c ?k (fun _ _ _ _ _ _ us hl => match us, hl with | [_], _ => rfl); (case a => k_is); (case l => k_is); (case c => k_is); (case k => k_is))
    (case o_lleafsize => refine' K2.def_mk KX G ?a ?l ?c ?k (fun _ _ _ _ _ _ us hl => match us, hl with | [_], _ => rfl); (case a => k_is); (case l => k_is); (case c => k_is); (case k => k_is))
    (case o_lnames => refine' K2.def_mk KX G ?a ?l ?c ?k (fun _ _ _ _ _ _ us hl => match us, hl with | [_, _], _ => rfl); (case a => k_is); (case l => k_is); (case c => k_is); (case k => k_is))
    (case o_lorder => refine' K2.def_mk KX G ?a ?l ?c ?k (fun _ _ _ _ _ _ us hl => match us, hl with | [_, _], _ => rfl); (case a => k_is); (case l => k_is); (case c => k_is); (case k => k_is))
    (case o_lcounts => refine' K2.def_mk KX G ?a ?l ?c ?k (fun _ _ _ _ _ _ us hl => match us, hl with | [_, _], _ => rfl); (case a => k_is); (case l => k_is); (case c => k_is); (case k => k_is))
    (case o_lauto => refine' K2.def_mk KX G ?a ?l ?c ?k (fun _ _ _ _ _ _ us hl => match us, hl with | [_], _ => rfl); (case a => k_is); (case l => k_is); (case c => k_is); (case k => k_is))
    (case o_lleaf => refine' K2.def_mk KX G ?a ?l ?c ?k (fun _ _ _ _ _ _ us hl => match us, hl with | [_, _], _ => rfl); (case a => k_is); (case l => k_is); (case c => k_is); (case k => k_is))
    (case o_lother => refine' K2.def_mk KX G ?a ?l ?c ?k (fun _ _ _ _ _ _ us hl => match us, hl with | [_, _], _ => rfl); (case a => k_is); (case l => k_is); (case c => k_is); (case k => k_is))
    (case o_lbent => refine' K2.def_mk KX G ?a ?l ?c ?k (fun _ _ _ _ _ _ us hl => match us, hl with | [_, _], _ => rfl); (case a => k_is); (case l => k_is); (case c => k_is); (case k => k_is))
    (case o_ltall => refine' K2.def_mk KX G ?a ?l ?c ?k (fun _ _ _ _ _ _ us hl => match us, hl with | [_], _ => rfl); (case a => k_is); (case l => k_is); (case c => k_is); (case k => k_is))
    (case o_ldeep => refine' K2.def_mk KX G ?a ?l ?c ?k (fun _ _ _ _ _ _ us hl => match us, hl with | [_], _ => rfl); (case a => k_is); (case l => k_is); (case c => k_is); (case k => k_is))
    (case o_lmany => refine' K2.def_mk KX G ?a ?l ?c ?k (fun _ _ _ _ _ _ us hl => match us, hl with | [], _ => rfl); (case a => k_is); (case l => k_is); (case c => k_is); (case k => k_is))
    (case o_lvalid => refine' K2.def_mk KX G ?a ?l ?c ?k (fun _ _ _ _ _ _ us hl => match us, hl with | [], _ => rfl); (case a => k_is); (case l => k_is); (case c => k_is); (case k => k_is))
    (case o_linvalid => refine' K2.def_mk KX G ?a ?l ?c ?k (fun _ _ _ _ _ _ us hl => match us, hl with | [], _ => rfl); (case a => k_is); (case l => k_is); (case c => k_is); (case k => k_is))
    (case o_lright => refine' K2.def_mk KX G ?a ?l ?c ?k (fun _ _ _ _ _ _ us hl => match us, hl with | [_], _ => rfl); (case a => k_is); (case l => k_is); (case c => k_is); (case k => k_is))
    (case o_llaw => refine' K2.def_mk KX G ?a ?l ?c ?k (fun _ _ _ _ _ _ us hl => match us, hl with | [_], _ => rfl); (case a => k_is); (case l => k_is); (case c => k_is); (case k => k_is))
    (case gM => k_is)
    (case FM => refine' K2.funD_mk ?l ?c ?k ?t ?d ?r (by simp); (case l => k_is); (case c => k_is); (case k => k_is); (case t => k_is); (case d => rfl); (case r => exact .cons rfl .nil))
    (case gJ => k_is)
    (case FJ => refine' K2.funD_mk ?l ?c ?k ?t ?d ?r (by simp); (case l => k_is); (case c => k_is); (case k => k_is); (case t => k_is); (case d => rfl); (case r => exact .cons rfl .nil))
    (case gL => k_is)
    (case aL => k_is)
    (case kL => k_keys)
    (case wL => decide)
    (case gC => k_is)
    (case aC => k_is)
    (case kC => k_keys)
    (case wC => decide)
    (case gS => k_is)
    (case aS => k_is)
    (case kS => k_keys)
    (case wS => decide)
    (case kk => rfl)
    (case l0 => k_is)
    (case l1 => k_is)
    (case l2 => k_is)
    (case l3 => k_is)
    (case l4 => k_is)
    (case l5 => k_is)
    (case l6 => k_is)
    (case l7 => k_is)
    (case l8 => k_is)
    (case l9 => k_is)
    (case l10 => k_is)
    (case l11 => k_is)
    (case l12 => k_is)
    (case r0 => k_is)
    (case r1 => k_is)
    (case r2 => k_is)
    (case r3 => k_is)
    (case r4 => k_is)
    (case r5 => k_is)
    (case r6 => k_is)
    (case r7 => k_is)
    (case r8 => k_is)
    (case r9 => k_is)
    (case r10 => k_is)
    (case r11 => k_is)
    (case r12 => k_is)
    (case s0 => k_is)
    (case s1 => k_is)
    (case s2 => k_is)
    (case s3 => k_is)
    (case s4 => k_is)
    (case s5 => k_is)
    (case s6 => k_is)
    (case s7 => k_is)
    (case s8 => k_is)
    (case ndK => decide)
    (case ndS => decide)
    (case kb1 => exact fun s u => .of_eq rfl)
    (case kb2 => exact fun s u => .of_eq rfl)
    (case hbind => exact fun s u => .of_eq rfl)
